import PyProof.Rows.All
import Wide.All
import OpenK.AllK
import Wide.FinOn
import HandS.ForMost
import HandS.IsInst
import HandS.Wide
import KE.KDictKeyed
import KE.KeyNested
import HandS.SetKeys
import HandS.SortInts
import HandS.WideBits
import HandS.Style
import HandS.Deep
import HandS.TupAny
import HandS.Star
import HandS.SetFor
import HandS.Conv
import HandS.EndBits
import HandS.RevRange
import HandS.More
import HandS.Iter
import HandS.WordsExc
import HandS.ExcOwn
import HandS.ExcIs
import HandS.TryMany
import KE.DataFind
import KE.DataMinMax
import HandS.SortKw
import KE.DataAny
import HandS.Set
import HandS.Strs
import HandS.DictComp
import KE.SortKeyHeap
import KE.SortData
import HandS.TupLe
import PyProof.ZipIter
import HandS.Zip0
import KE.KItemsList
import HandS.Zip
import HandS.TupSets
import PySem.Challenge.RW_leastreasons_k32_trees_trimmed_and_graft
set_option exponentiation.threshold 2000
set_option Elab.async false
set_option linter.all false
set_option maxRecDepth 100000
set_option maxHeartbeats 8000000
namespace Lk
open PySem PySem.Spec PyProof.Rows L2
structure FnG (P : Program) (w : World) (K : PySem.W.Frag) (mg : Str → Option Value) (base : Heap) (CX : CXT)
    (k : Nat) (f : Addr) (fd : FuncData) (ps : List Str) (sp : Sp) : Prop where
  len : ∀ vs H Q E, sp vs H Q E → vs.length = ps.length
  run : ∀ (A : Around) (outer : List Env) (s : Shared) (H : Hp) (args : Args) (us : List Value) (vs : List V) (Q : VK) (E : XK),
    A.guards = some [] → Room k A → Env0 P w K mg base A outer s H → BindsTo s fd args (ps.zip us) → Vals vs us → sp vs H Q E →
    codeAny (model P w) A (.call (.ref f) args) (CR CX outer P w H s Q E) s
section
variable {P : Program} {w : World} {K : PySem.W.Frag} {mg : Str → Option Value} {base : Heap} {CX : CXT} {k : Nat} {f : Addr}
theorem FnG.ofOk {fd : FuncData} {ps : List Str} {sp : Sp} (F : FnOk P w K mg base CX k f fd ps sp) : FnG P w K mg base CX k f fd ps sp :=
  ⟨F.len, fun A outer s H args us vs Q E _ r e b v h => F.run A outer s H args us vs Q E r e b v h⟩
theorem FnG.mono {fd : FuncData} {ps : List Str} {sp : Sp} {j : Nat} (F : FnG P w K mg base CX j f fd ps sp) (h : j ≤ k) : FnG P w K mg base CX k f fd ps sp :=
  ⟨F.len, fun A outer s H args us vs Q E g r e b v z => F.run A outer s H args us vs Q E g (r.mono h) e b v z⟩
end
section
variable {X : Cx} {CX : CXT} {k : Nat} {f : Addr} {fd : FuncData} {ps : List Str} {sp : Sp} {dvs : List V} {ds : List Value} {E : XK} {x : Str} {p pos : Pos} {e : Expr} {es : List Expr} {t : TA}
end
theorem law_callG {P : Program} {w : World} {K : PySem.W.Frag} {mg mb : Str → Option Value} {k : Nat} {fa a : Addr} {fd : FuncData} {x : Str} {sp : Sp} {s₁ : Shared} {vs : List Value} {ns : List Int}
    (KX : K.In s₁.heap) (hns : s₁.heap.Ns mainGlobals mg) (hb : s₁.heap.Ns builtinsNs mb) (hbb : ∀ x : Str, x ≠ "__name__" → mb x = bootBuiltins x) (hlim : s₁.heap.NoLimit)
    (hg : s₁.gens = #[]) (ha : s₁.heap.get? a = some { cls := .type "list", data := .seq vs.toArray }) (hi : IntsAre vs ns) (hl : ns.length ≤ sizeLine) (hr : Room k callerA)
    (F : ∀ base : Heap, K.In base → base.Ns mainGlobals mg → FnG P w K mg base CX0 k fa fd [x] sp) (bnd : ∀ (s : Shared) (u : Value), BindsTo s fd ⟨[u], []⟩ [(x, u)])
    (hsp : ∀ H : Hp, Only H → SqL K H a (ns.map V.int) → sp [.ref a] H (fun v _ => v = .bl true) fun _ _ _ => False) :
    codeAny (model P w) callerA (.call (.ref fa) ⟨[.ref a], []⟩) (fun r s' => r = .ok (.ret (.bool true)) ∧ OldK s₁.heap s'.heap ∧ s'.os = s₁.os ∧ AllBare s'.gens) s₁ := by
  have rel := vals_ints hi
  have obj : (⟨.type "list", none, .seq vs.toArray 0, #[]⟩ : Obj) = { cls := .type "list", data := .seq vs.toArray } := rfl
  suffices core : ∀ H : Hp, Only H → SqL K H a (ns.map V.int) → HOk P w H s₁.heap → (∀ b, H b ≠ none → b = a ∧ K.lookup a = none) →
      codeAny (model P w) callerA (.call (.ref fa) ⟨[.ref a], []⟩) (fun r s' => r = .ok (.ret (.bool true)) ∧ OldK s₁.heap s'.heap ∧ s'.os = s₁.os ∧ AllBare s'.gens) s₁ by
    cases hk : K.lookup a with
    | some o =>
      have e := KX a o hk
      rw [ha] at e
      cases e
      refine core (fun _ => none) (fun _ => Or.inl rfl) (Or.inr ⟨_, vs.toArray, _, hk, rfl, rfl, rfl, ?_, by simpa using rel⟩) (fun b u z => nomatch z) fun b z => absurd rfl z
      rw [List.size_toArray, hi.length]
      exact hl
    | none =>
      refine core (fun b => if b = a then some (.frz { cls := .type "list", data := .seq vs.toArray } (.lst (ns.map V.int))) else none) ?_ (Or.inl (Or.inr ⟨_, if_pos rfl⟩)) ?_ ?_
      · intro b
        by_cases q : b = a
        · exact Or.inr ⟨_, _, if_pos q⟩
        · exact Or.inl (if_neg q)
      · intro b u z
        by_cases q : b = a
        · subst q
          have z2 := (if_pos rfl).symm.trans z
          cases z2
          exact ⟨ha, by simpa using hl, vs, _, rel, ha⟩
        · exact nomatch (if_neg q).symm.trans z
      · intro b z
        by_cases q : b = a
        · exact ⟨q, hk⟩
        · exact absurd (if_neg q) z
  intro H only seq hok one
  have untr : ∀ {b : Addr} {m : Str → Option Value}, s₁.heap.Ns b m → (hidT s₁.heap H).Ns b m := by
    rintro b m ⟨o, es, ep, e, d, r⟩
    refine ⟨o, es, ep, hidT_get e ?_, d, r⟩
    by_cases q : H b = none
    · exact q
    · obtain ⟨rfl, _⟩ := one b q
      rw [ha] at e
      cases e
      exact absurd d (by simp)
  have inB : K.In (hidT s₁.heap H) := by
    intro b o e
    refine hidT_get (KX b o e) ?_
    by_cases q : H b = none
    · exact q
    · obtain ⟨rfl, z⟩ := one b q
      rw [z] at e
      cases e
  have modu : Mod K mg (hidT s₁.heap H) := ⟨inB, untr hns, ⟨mb, untr hb, hbb⟩, hlim.elim fun mc z => ⟨mc, untr z.1, z.2⟩⟩
  have env : Env0 P w K mg (hidT s₁.heap H) callerA [] s₁ H :=
    ⟨rfl, modu, fun _ _ e => of_hidT e, Nat.le_of_eq (hidT_size _ _), trivial, fun b z => absurd (show b ∈ ([] : List Addr) from z) (by simp), hok, .of_eq hg⟩
  refine codeAny_mono ((F _ inB (untr hns)).run callerA [] s₁ H ⟨[.ref a], []⟩ [.ref a] [.ref a] _ _ rfl hr env (bnd s₁ (.ref a)) (.cons rfl .nil) (hsp H only seq)) ?_
  rintro (e' | fl) s' z
  · exact z.elim
  cases fl with
  | next => exact z.elim
  | brk => exact z.elim
  | cont => exact z.elim
  | ret u =>
    obtain ⟨v, H', os, bare, un, ok', rv, rfl⟩ := z
    obtain rfl : u = Value.bool true := rv
    refine ⟨rfl, OldK.of_keep ?_, os, bare⟩
    intro b o e
    rcases only b with q | ⟨ob, xs, q⟩
    · exact un.keep b o e q (fun z => absurd (show b ∈ ([] : List Addr) from z) (by simp)) (by simp)
    · have q2 := (ok' b _ (un.frzs b ob _ q)).1
      have q1 := (hok b _ q).1
      rw [e] at q1
      cases q1
      exact q2
section
variable {X : Cx}
end
end Lk
namespace Lk
open PySem PySem.Spec PyProof.Rows L2
structure Ok (n w : Nat) (d : PyData) : Prop where
  sh : d.showable = true
  nd : d.hasDict = false
  dp : d.depth ≤ n
  cl : d.canLay0 = true
  lv : d.leavesShort 64 = true
  wt : d.weight ≤ w
namespace Ok
variable {n w n' w' L : Nat} {d : PyData} {ds : List PyData}
theorem mono (h : Ok n w d) (hn : n ≤ n') (hw : w ≤ w') : Ok n' w' d := ⟨h.sh, h.nd, Nat.le_trans h.dp hn, h.cl, h.lv, Nat.le_trans h.wt hw⟩
theorem shaped (h : Ok n w d) (hn : n ≤ 64) : SeqAt.shaped d = true := by
  unfold SeqAt.shaped
  rw [h.cl, decide_eq_true (Nat.le_trans h.dp hn)]
  rfl
theorem none : Ok n w .none := ⟨rfl, rfl, Nat.zero_le _, rfl, rfl, Nat.zero_le _⟩
theorem bool (b : Bool) : Ok n w (.bool b) := ⟨rfl, rfl, Nat.zero_le _, rfl, rfl, Nat.zero_le _⟩
end Ok
def okAll (n w : Nat) (ds : List PyData) : Prop := ∀ d ∈ ds, Ok n w d
theorem okAll_facts {n w : Nat} : ∀ {ds : List PyData}, okAll n w ds → PyData.showableAll ds = true ∧ PyData.hasDictAll ds = false ∧ PyData.depthAll ds ≤ n ∧ PyData.canLayAll0 ds = true ∧ PyData.leavesShortAll 64 ds = true ∧ PyData.weightAll ds ≤ ds.length * (w + 1)
  | [], _ => ⟨rfl, rfl, Nat.zero_le _, rfl, rfl, Nat.zero_le _⟩
  | d :: ds, h => by
    have a := h d (List.mem_cons_self ..)
    obtain ⟨b1, b2, b3, b4, b5, b6⟩ := okAll_facts (ds := ds) fun x hx => h x (List.mem_cons_of_mem _ hx)
    refine ⟨?_, ?_, ?_, ?_, ?_, ?_⟩
    · show (d.showable && PyData.showableAll ds) = true
      rw [a.sh, b1]
      rfl
    · show (d.hasDict || PyData.hasDictAll ds) = false
      rw [a.nd, b2]
      rfl
    · show max d.depth (PyData.depthAll ds) ≤ n
      exact Nat.max_le.mpr ⟨a.dp, b3⟩
    · show (d.canLay0 && PyData.canLayAll0 ds) = true
      rw [a.cl, b4]
      rfl
    · show (d.leavesShort 64 && PyData.leavesShortAll 64 ds) = true
      rw [a.lv, b5]
      rfl
    · show d.weight + 1 + PyData.weightAll ds ≤ (ds.length + 1) * (w + 1)
      have := a.wt
      rw [Nat.succ_mul]
      omega
theorem Ok.list {n w L : Nat} {ds : List PyData} (h : okAll n w ds) (hl : ds.length ≤ L) : Ok (n + 1) (L * (w + 1)) (.list ds) := by
  obtain ⟨b1, b2, b3, b4, b5, b6⟩ := okAll_facts h
  refine ⟨b1, b2, ?_, b4, b5, ?_⟩
  · show PyData.depthAll ds + 1 ≤ n + 1
    omega
  · show PyData.weightAll ds ≤ _
    exact Nat.le_trans b6 (Nat.mul_le_mul_right _ hl)
theorem Ok.tuple {n w L : Nat} {ds : List PyData} (h : okAll n w ds) (hl : ds.length ≤ L) : Ok (n + 1) (L * (w + 1)) (.tuple ds) := by
  obtain ⟨b1, b2, b3, b4, b5, b6⟩ := okAll_facts h
  refine ⟨b1, b2, ?_, b4, b5, ?_⟩
  · show PyData.depthAll ds + 1 ≤ n + 1
    omega
  · show PyData.weightAll ds ≤ _
    exact Nat.le_trans b6 (Nat.mul_le_mul_right _ hl)
theorem Ok.int {n w : Nat} {i : Int} (h : i.natAbs < 2 ^ 30) (hw : 30 ≤ w) : Ok n w (.int i) := by
  have l : i.natAbs.log2 < 30 ∨ i.natAbs = 0 := by
    by_cases z : i.natAbs = 0
    · exact .inr z
    · exact .inl ((Nat.log2_lt z).mpr h)
  have l2 : i.natAbs.log2 < 1920 := by
    rcases l with l | l
    · omega
    · rw [l]
      decide
  refine ⟨decide_eq_true l2, rfl, Nat.zero_le _, rfl, ?_, ?_⟩
  · refine decide_eq_true (Nat.le_trans (PyData.shown_int_le (by omega)) (by decide))
  · show (if i == 0 then 0 else i.natAbs.log2 + 1) ≤ w
    split
    · exact Nat.zero_le _
    · rename_i hi
      rcases l with l | l
      · omega
      · exact absurd (by simpa using Int.natAbs_eq_zero.mp l) hi
theorem okAll.nil {n w : Nat} : okAll n w [] := fun _ h => nomatch h
theorem okAll.cons {n w : Nat} {d : PyData} {ds : List PyData} (h : Ok n w d) (t : okAll n w ds) : okAll n w (d :: ds) := fun x hx => by
  rcases List.mem_cons.mp hx with rfl | hx
  · exact h
  · exact t x hx
theorem okAll.append {n w : Nat} {ds es : List PyData} (h : okAll n w ds) (t : okAll n w es) : okAll n w (ds ++ es) := fun x hx => by
  rcases List.mem_append.mp hx with hx | hx
  · exact h x hx
  · exact t x hx
theorem okAll.sub {n w : Nat} {ds es : List PyData} (h : okAll n w ds) (s : ∀ x ∈ es, x ∈ ds) : okAll n w es := fun x hx => h x (s x hx)
theorem okAll.mono {n w n' w' : Nat} {ds : List PyData} (h : okAll n w ds) (hn : n ≤ n') (hw : w ≤ w') : okAll n' w' ds := fun x hx => (h x hx).mono hn hw
theorem okAll.ints {n w : Nat} {ns : List Int} (h : ∀ i ∈ ns, i.natAbs < 2 ^ 30) (hw : 30 ≤ w) : okAll n w (ns.map PyData.int) := fun x hx => by
  obtain ⟨i, hi, rfl⟩ := List.mem_map.mp hx
  exact .int (h i hi) hw
mutual
theorem Dp.same {K : PySem.W.Frag} {H H' : Hp} (f : ∀ a xs, SqL K H a xs → SqL K H' a xs) (g : ∀ a xs, SqT K H a xs → SqT K H' a xs) : ∀ (d : PyData) {v : V}, Dp K H v d → Dp K H' v d
  | .none, _, h => by cases h; exact .non
  | .bool _, _, h => by cases h; exact .bl _
  | .int _, _, h => by cases h; exact .int _
  | .str _, _, h => by cases h; exact .str _
  | .list ds, _, h => by
    cases h with
    | lst hs ha => exact .lst (f _ _ hs) (DpAll.same f g ds ha)
  | .tuple ds, _, h => by
    cases h with
    | tup hs ha => exact .tup (g _ _ hs) (DpAll.same f g ds ha)
  | .dict _, _, h => by cases h
theorem DpAll.same {K : PySem.W.Frag} {H H' : Hp} (f : ∀ a xs, SqL K H a xs → SqL K H' a xs) (g : ∀ a xs, SqT K H a xs → SqT K H' a xs) : ∀ (ds : List PyData) {vs : List V}, DpAll K H vs ds → DpAll K H' vs ds
  | [], _, h => by cases h; exact .nil
  | d :: ds, _, h => by
    cases h with
    | cons h1 h2 => exact .cons (Dp.same f g d h1) (DpAll.same f g ds h2)
end
theorem Same.tup {K : PySem.W.Frag} {H H' : Hp} {a : Addr} {xs : List V} (e : Same H H') (h : SqT K H a xs) : SqT K H' a xs := by
  rcases h with (h | ⟨o, h⟩) | h
  · exact .inl (.inl (e _ _ h))
  · exact .inl (.inr ⟨o, e _ _ h⟩)
  · exact .inr h
theorem Dp.sm {K : PySem.W.Frag} {H H' : Hp} {d : PyData} {v : V} (s : Same H H') (h : Dp K H v d) : Dp K H' v d := Dp.same (fun _ _ => s.seq) (fun _ _ => Same.tup s) d h
theorem DpAll.sm {K : PySem.W.Frag} {H H' : Hp} {ds : List PyData} {vs : List V} (s : Same H H') (h : DpAll K H vs ds) : DpAll K H' vs ds := DpAll.same (fun _ _ => s.seq) (fun _ _ => Same.tup s) ds h
section
variable {K : PySem.W.Frag} {H : Hp}
theorem DpAll.length : ∀ {vs : List V} {ds : List PyData}, DpAll K H vs ds → vs.length = ds.length
  | _, [], h => by cases h; rfl
  | _, d :: ds, h => by
    cases h with
    | cons h1 h2 => rw [List.length_cons, List.length_cons, DpAll.length h2]
theorem DpAll.get : ∀ {vs : List V} {ds : List PyData} {i : Nat} {v : V}, DpAll K H vs ds → vs[i]? = some v → ∃ d, ds[i]? = some d ∧ Dp K H v d
  | _, [], i, v, h, e => by cases h; simp at e
  | _, d :: ds, 0, v, h, e => by
    cases h with
    | cons h1 h2 =>
      cases e
      exact ⟨d, rfl, h1⟩
  | _, d :: ds, i + 1, v, h, e => by
    cases h with
    | cons h1 h2 => exact DpAll.get (i := i) h2 (by simpa using e)
theorem DpAll.ints : ∀ (ns : List Int), DpAll K H (ns.map V.int) (ns.map PyData.int)
  | [] => .nil
  | _ :: ns => .cons (.int _) (DpAll.ints ns)
theorem DpAll.of_ints : ∀ {vs : List V} {ns : List Int}, DpAll K H vs (ns.map PyData.int) → vs = ns.map V.int
  | _, [], h => by cases h; rfl
  | _, n :: ns, h => by
    cases h with
    | cons h1 h2 =>
      cases h1
      rw [DpAll.of_ints h2]
      rfl
theorem DpAll.append : ∀ {vs ws : List V} {ds es : List PyData}, DpAll K H vs ds → DpAll K H ws es → DpAll K H (vs ++ ws) (ds ++ es)
  | _, _, [], _, h, t => by cases h; exact t
  | _, _, d :: ds, _, h, t => by
    cases h with
    | cons h1 h2 => exact .cons h1 (DpAll.append h2 t)
theorem DpAll.take : ∀ (n : Nat) {vs : List V} {ds : List PyData}, DpAll K H vs ds → DpAll K H (vs.take n) (ds.take n)
  | 0, _, _, _ => .nil
  | n + 1, _, [], h => by cases h; exact .nil
  | n + 1, _, d :: ds, h => by
    cases h with
    | cons h1 h2 => exact .cons h1 (DpAll.take n h2)
theorem DpAll.drop : ∀ (n : Nat) {vs : List V} {ds : List PyData}, DpAll K H vs ds → DpAll K H (vs.drop n) (ds.drop n)
  | 0, _, _, h => h
  | n + 1, _, [], h => by cases h; exact .nil
  | n + 1, _, d :: ds, h => by
    cases h with
    | cons h1 h2 => exact DpAll.drop n h2
end
def tyD : PyData → String
  | .none => "NoneType"
  | .bool _ => "bool"
  | .int _ => "int"
  | .str _ => "str"
  | .list _ => "list"
  | .tuple _ => "tuple"
  | .dict _ => "dict"
def isTy (T : String) (d : PyData) : Bool := tyD d == T || (T == "int" && tyD d == "bool")
theorem SqL.ty {K : PySem.W.Frag} {H : Hp} {a : Addr} {xs : List V} (h : SqL K H a xs) : TyX K H (.ref a) (.type "list") := by
  rcases h with (h | ⟨o, h⟩) | ⟨o, its, n, h1, h2, _⟩
  · exact .base (.lst h)
  · exact .base (.frz h)
  · exact .kList h1 h2
theorem SqT.ty {K : PySem.W.Frag} {H : Hp} {a : Addr} {xs : List V} (h : SqT K H a xs) : TyX K H (.ref a) (.type "tuple") := by
  rcases h with (h | ⟨o, h⟩) | ⟨o, its, n, h1, h2, _⟩
  · exact .base (.tup h)
  · exact .fTuple h
  · exact .kTuple h1 h2
theorem Dp.ty {K : PySem.W.Frag} {H : Hp} {v : V} {d : PyData} (h : Dp K H v d) : TyX K H v (.type (tyD d)) := by
  cases h with
  | non => exact .base .non
  | bl b => exact .base (.bl b)
  | int i => exact .base (.int i)
  | str x => exact .base (.str x)
  | lst hs _ => exact SqL.ty hs
  | tup hs _ => exact SqT.ty hs
theorem kit_names : ∀ a ∈ ["NoneType", "bool", "int", "str", "list", "tuple"], ∀ T ∈ ["int", "bool", "list", "tuple", "str"], kitB a T = some (a == T || (T == "int" && a == "bool")) := by decide +kernel
theorem Dp.kit {K : PySem.W.Frag} {H : Hp} {v : V} {d : PyData} (h : Dp K H v d) {T : String} (hT : T ∈ ["int", "bool", "list", "tuple", "str"]) : kitB (tyD d) T = some (isTy T d) := by
  refine kit_names (tyD d) ?_ T hT
  cases h <;> simp [tyD]
section
variable {X : Cx}
theorem call_isiD (T : String) (hT : T ∈ ["int", "bool", "list", "tuple", "str"] := by decide) : CallR X (.builtin "isinstance") (fun xs H Q => ∃ v d, xs = [v, .ty T] ∧ Dp X.K H v d ∧ Q (.bl (isTy T d)) H) := by
  intro pins s σ H xs us Q I r h
  obtain ⟨v, d, rfl, hd, q⟩ := h
  exact call_isi pins s σ H _ us Q I r ⟨v, .ty T, .type (tyD d), .type T, _, rfl, .ty T, Dp.ty hd, kit_ty (Dp.kit hd hT), q⟩
/-- the same within a comprehension, where X.K is K by computation -/
theorem call_isiDK {K : PySem.W.Frag} (T : String) (hK : X.K = K := by rfl) (hT : T ∈ ["int", "bool", "list", "tuple", "str"] := by decide) :
    CallR X (.builtin "isinstance") (fun xs H Q => ∃ v d, xs = [v, .ty T] ∧ Dp K H v d ∧ Q (.bl (isTy T d)) H) := by
  subst hK
  exact call_isiD T hT
end
end Lk
namespace Lk
open PySem PySem.Spec PyProof.Rows L2
section
variable {X : Cx} {CX : CXT} {k : Nat} {f : Addr} {fd : FuncData} {ps ks : List Str} {sp : Sp} {E : XK} {x : Str} {p pos : Pos} {kws : List Keyword} {tk : TA}
  {g : List Value → List Value → List Value} {gV : List V → List V → List V}
end
def g1 {α : Type} : List α → List α → List α
  | [], [a] => [a]
  | _, _ => []
def g21 {α : Type} : List α → List α → List α
  | [], [a, b] => [b, a]
  | _, _ => []
section
variable {K : PySem.W.Frag} {x qual : Str} {st : Stmt} {f : Addr} {fd : FuncData} {n m l : Str}
end
theorem new_of {H : Hp} {o : HO} {Q : V → Hp → Prop} (h : ∀ p H', Same H H' → H p = none → H' p = some o → Q (.ref p) H') : ∀ p, H p = none → Q (.ref p) (upd H p o) := fun p np => h p _ (fun b x e => by
  rw [upd_ne (ne_of_none e np)]
  exact e) np upd_same
theorem eqv_nil (ds : List PyData) : PyData.eqv (.list ds) (.list []) = ds.isEmpty := by
  cases ds <;> rfl
mutual
theorem eqv_rfl : ∀ d : PyData, d.hasDict = false → PyData.eqv d d = true
  | .none, _ => rfl
  | .bool b, _ => by cases b <;> rfl
  | .int i, _ => by
    show (i == i) = true
    exact beq_self_eq_true i
  | .str x, _ => by
    show (x == x) = true
    exact beq_self_eq_true x
  | .list ds, h => eqvAll_rfl ds h
  | .tuple ds, h => eqvAll_rfl ds h
  | .dict _, h => by cases h
theorem eqvAll_rfl : ∀ ds : List PyData, PyData.hasDictAll ds = false → PyData.eqvAll ds ds = true
  | [], _ => rfl
  | d :: ds, h => by
    have h' : (d.hasDict || PyData.hasDictAll ds) = false := h
    rw [Bool.or_eq_false_iff] at h'
    show (PyData.eqv d d && PyData.eqvAll ds ds) = true
    rw [eqv_rfl d h'.1, eqvAll_rfl ds h'.2]
    rfl
end
def New (o : HO) (H : Hp) (Q : V → Hp → Prop) : Prop := ∀ p H', Same H H' → H p = none → H' p = some o → Q (.ref p) H'
section
variable {X : Cx} {es : List Expr} {t : TA} {pos : Pos}
def tLstN (t : TA) : TE := fun σ H Q => t σ H fun xs H1 => xs.length ≤ sizeLine ∧ New (.lst xs) H1 Q
def tTupN (t : TA) : TE := fun σ H Q => t σ H fun xs H1 => xs.length ≤ sizeLine ∧ New (.tup xs) H1 Q
theorem pe_lstN (h : PA X es t) : PE X (.List es pos) (tLstN t) := by
  constructor
  intro pins s σ H Q I hq
  refine wpAny_List_spliced (thn (h.run pos pins s σ H _ I hq) ?_)
  rintro us s1 ⟨xs, H1, I1, r, z, q⟩
  refine ⟨r.length ▸ z, ?_⟩
  have fresh : H1 s1.heap.objs.size = none := I1.hok.fresh (Nat.le_refl _)
  refine ⟨.ref s1.heap.objs.size, upd H1 s1.heap.objs.size (.lst xs), ?_, rfl, new_of q _ fresh⟩
  exact I1.laid (t' := s1.toks) (fun b u e => Heap.get?_push_of_some _ e) (Nat.le_refl _) ⟨z, us, 0, r, Heap.get?_push_size _ rfl⟩
theorem pe_tupN {x1} (h : PA X es t) : PE X (.Tuple es x1 pos) (tTupN t) := by
  constructor
  intro pins s σ H Q I hq
  refine wpAny_Tuple_spliced (thn (h.run pos pins s σ H _ I hq) ?_)
  rintro us s1 ⟨xs, H1, I1, r, z, q⟩
  refine ⟨r.length ▸ z, ?_⟩
  have fresh : H1 s1.heap.objs.size = none := I1.hok.fresh (Nat.le_refl _)
  refine ⟨.ref s1.heap.objs.size, upd H1 s1.heap.objs.size (.tup xs), ?_, rfl, new_of q _ fresh⟩
  exact I1.laid (t' := s1.toks) (fun b u e => Heap.get?_push_of_some _ e) (Nat.le_refl _) ⟨z, us, r, ⟨_, Heap.get?_push_size _ rfl, rfl, _, rfl⟩⟩
theorem call_listN : CallR X (.type "list") (fun xs H Q => ∃ p ys, xs = [.ref p] ∧ (SqL X.K H p ys ∨ SqT X.K H p ys) ∧ New (.lst ys) H Q) := by
  intro pins s σ H xs us Q I r h
  obtain ⟨p, ys, h1, h2, q⟩ := h
  exact call_list_of pins s σ H xs us Q I r ⟨p, ys, h1, h2, new_of q⟩
theorem sl_listN : SlR X (fun x lo hi H Q => ∃ a xs, x = .ref a ∧ SqL X.K H a xs ∧ New (.lst (cutV xs lo hi)) H Q) := by
  intro pins s σ H x v vl vu lo hi sl Q I rx hs pl pu h
  obtain ⟨a, xs, h1, h2, q⟩ := h
  exact sl_list pins s σ H x v vl vu lo hi sl Q I rx hs pl pu ⟨a, xs, h1, h2, new_of q⟩
end
end Lk
namespace DL
open PySem PySem.Spec PyProof.Rows L2 Lk
mutual
def keyN : PyData → Option NestedKey
  | .int i => some (.num i)
  | .tuple ds => (keyNs ds).map NestedKey.tup
  | _ => none
def keyNs : List PyData → Option (List NestedKey)
  | [] => some []
  | d :: ds => (keyN d).bind fun k => (keyNs ds).map fun ks => k :: ks
end
mutual
theorem key_hash : ∀ {d : PyData} {k : NestedKey}, keyN d = some k → ∀ w w' : World, k.hash w = k.hash w'
  | .int i, k, h, w, w' => by
    rw [keyN] at h
    cases h
    rw [NestedKey.hash, NestedKey.hash]
  | .tuple ds, k, h, w, w' => by
    rw [keyN] at h
    obtain ⟨ks, h1, rfl⟩ := Option.map_eq_some_iff.mp h
    rw [NestedKey.hash, NestedKey.hash, keys_hash h1 w w']
  | .none, k, h, _, _ => by simp [keyN] at h
  | .bool _, k, h, _, _ => by simp [keyN] at h
  | .str _, k, h, _, _ => by simp [keyN] at h
  | .list _, k, h, _, _ => by simp [keyN] at h
  | .dict _, k, h, _, _ => by simp [keyN] at h
theorem keys_hash : ∀ {ds : List PyData} {ks : List NestedKey}, keyNs ds = some ks → ∀ w w' : World, NestedKey.hashes w ks = NestedKey.hashes w' ks
  | [], ks, h, w, w' => by
    rw [keyNs] at h
    cases h
    rw [NestedKey.hashes, NestedKey.hashes]
  | d :: ds, ks, h, w, w' => by
    rw [keyNs] at h
    obtain ⟨k, h1, h2⟩ := Option.bind_eq_some_iff.mp h
    obtain ⟨ks', h3, rfl⟩ := Option.map_eq_some_iff.mp h2
    rw [NestedKey.hashes, NestedKey.hashes, key_hash h1 w w', keys_hash h3 w w']
end
/-- the object alone -/
def DkRaw (h : Heap) (d : Addr) (nks : List NestedKey) (as : List Addr) : Prop := ∃ (w : World) (o : Obj) (es : Array DictEntry) (ep : Nat), h.get? d = some o ∧ o.ExactDict ∧ o.data = .dict es ep ∧
  es.toList = (nks.zip as).map fun x => (⟨x.1.hash w, .ref x.2, .bool true⟩ : DictEntry)
def DkO (d : Addr) (nks : List NestedKey) (as : List Addr) : HO := .ext fun h => DkRaw h d nks as ∧ nks.length = as.length ∧ nks.Nodup ∧ nks.length ≤ 1000000 ∧ (d == sysModules) = false
end DL
namespace DL
open PySem PySem.Spec PyProof.Rows L2 Lk
mutual
inductive Dq (K : PySem.W.Frag) (H : Hp) : V → PyData → Prop
  | non : Dq K H .non .none
  | bl (b : Bool) : Dq K H (.bl b) (.bool b)
  | int (i : Int) : Dq K H (.int i) (.int i)
  | str (x : Str) : Dq K H (.str x) (.str x)
  | lst {a : Addr} {xs : List V} {ds : List PyData} : SqL K H a xs → DqAll K H xs ds → Dq K H (.ref a) (.list ds)
  | tup {a : Addr} {xs : List V} {ds : List PyData} : SqT K H a xs → DqAll K H xs ds → Dq K H (.ref a) (.tuple ds)
inductive DqAll (K : PySem.W.Frag) (H : Hp) : List V → List PyData → Prop
  | nil : DqAll K H [] []
  | cons {v : V} {vs : List V} {d : PyData} {ds : List PyData} : Dq K H v d → DqAll K H vs ds → DqAll K H (v :: vs) (d :: ds)
end
mutual
theorem Dq.sm {K : PySem.W.Frag} {H H' : Hp} {v : V} : ∀ {d : PyData}, Dq K H v d → Same H H' → Dq K H' v d
  | .none, h, _ => by cases h; exact .non
  | .bool _, h, _ => by cases h; exact .bl _
  | .int _, h, _ => by cases h; exact .int _
  | .str _, h, _ => by cases h; exact .str _
  | .list _, h, s => by
    cases h with
    | lst hs ha => exact .lst (s.seq hs) (ha.sm s)
  | .tuple _, h, s => by
    cases h with
    | tup hs ha => exact .tup (Lk.Same.tup s hs) (ha.sm s)
  | .dict _, h, _ => by cases h
theorem DqAll.sm {K : PySem.W.Frag} {H H' : Hp} {vs : List V} : ∀ {ds : List PyData}, DqAll K H vs ds → Same H H' → DqAll K H' vs ds
  | [], h, _ => by cases h; exact .nil
  | _ :: _, h, s => by
    cases h with
    | cons h1 h2 => exact .cons (h1.sm s) (h2.sm s)
end
mutual
theorem Dq.dp {K : PySem.W.Frag} {H : Hp} {v : V} : ∀ {d : PyData}, Dq K H v d → Dp K H v d
  | .none, h => by cases h; exact .non
  | .bool _, h => by cases h; exact .bl _
  | .int _, h => by cases h; exact .int _
  | .str _, h => by cases h; exact .str _
  | .list _, h => by
    cases h with
    | lst hs ha => exact .lst hs ha.dp
  | .tuple _, h => by
    cases h with
    | tup hs ha => exact .tup hs ha.dp
  | .dict _, h => by cases h
theorem DqAll.dp {K : PySem.W.Frag} {H : Hp} {vs : List V} : ∀ {ds : List PyData}, DqAll K H vs ds → DpAll K H vs ds
  | [], h => by cases h; exact .nil
  | _ :: _, h => by
    cases h with
    | cons h1 h2 => exact .cons h1.dp h2.dp
end
section
variable {K : PySem.W.Frag} {H : Hp}
theorem DqAll.length : ∀ {vs : List V} {ds : List PyData}, DqAll K H vs ds → vs.length = ds.length
  | _, [], h => by cases h; rfl
  | _, d :: ds, h => by
    cases h with
    | cons h1 h2 => rw [List.length_cons, List.length_cons, DqAll.length h2]
theorem DqAll.get : ∀ {vs : List V} {ds : List PyData} {i : Nat} {d : PyData}, DqAll K H vs ds → ds[i]? = some d → ∃ v, vs[i]? = some v ∧ Dq K H v d
  | _, [], i, v, h, e => by simp at e
  | _, d :: ds, 0, v, h, e => by
    cases h with
    | cons h1 h2 =>
      cases e
      exact ⟨_, rfl, h1⟩
  | _, d :: ds, i + 1, v, h, e => by
    cases h with
    | cons h1 h2 => exact DqAll.get (i := i) h2 (by simpa using e)
theorem DqAll.append : ∀ {vs ws : List V} {ds es : List PyData}, DqAll K H vs ds → DqAll K H ws es → DqAll K H (vs ++ ws) (ds ++ es)
  | _, _, [], _, h, t => by cases h; exact t
  | _, _, d :: ds, _, h, t => by
    cases h with
    | cons h1 h2 => exact .cons h1 (DqAll.append h2 t)
theorem DqAll.take : ∀ (n : Nat) {vs : List V} {ds : List PyData}, DqAll K H vs ds → DqAll K H (vs.take n) (ds.take n)
  | 0, _, _, _ => .nil
  | n + 1, _, [], h => by cases h; exact .nil
  | n + 1, _, d :: ds, h => by
    cases h with
    | cons h1 h2 => exact .cons h1 (DqAll.take n h2)
theorem DqAll.drop : ∀ (n : Nat) {vs : List V} {ds : List PyData}, DqAll K H vs ds → DqAll K H (vs.drop n) (ds.drop n)
  | 0, _, _, h => h
  | n + 1, _, [], h => by cases h; exact .nil
  | n + 1, _, d :: ds, h => by
    cases h with
    | cons h1 h2 => exact DqAll.drop n h2
theorem DqAll.set {v : V} {d : PyData} (hv : Dq K H v d) : ∀ {vs : List V} {ds : List PyData} (i : Nat), DqAll K H vs ds → DqAll K H (vs.set i v) (ds.set i d)
  | _, _, _, .nil => .nil
  | _, _, 0, .cons _ h2 => .cons hv h2
  | _, _, i + 1, .cons h1 h2 => .cons h1 (DqAll.set hv i h2)
theorem DqAll.dropLast {vs : List V} {ds : List PyData} (h : DqAll K H vs ds) : DqAll K H vs.dropLast ds.dropLast := by
  rw [List.dropLast_eq_take, List.dropLast_eq_take, h.length]
  exact h.take _
theorem DqAll.rep {vs : List V} {ds : List PyData} (h : DqAll K H vs ds) : ∀ n : Nat, DqAll K H (List.replicate n vs).flatten (List.replicate n ds).flatten
  | 0 => .nil
  | n + 1 => by
    rw [List.replicate_succ, List.replicate_succ, List.flatten_cons, List.flatten_cons]
    exact h.append (h.rep n)
theorem DqAll.ints : ∀ (ns : List Int), DqAll K H (ns.map V.int) (ns.map PyData.int)
  | [] => .nil
  | _ :: ns => .cons (.int _) (DqAll.ints ns)
theorem DqAll.of_ints : ∀ {vs : List V} {ns : List Int}, DqAll K H vs (ns.map PyData.int) → vs = ns.map V.int
  | _, [], h => by cases h; rfl
  | _, n :: ns, h => by
    cases h with
    | cons h1 h2 =>
      cases h1
      rw [DqAll.of_ints h2]
      rfl
theorem DqAll.of_bools : ∀ {vs : List V} {ns : List Bool}, DqAll K H vs (ns.map PyData.bool) → vs = ns.map V.bl
  | _, [], h => by cases h; rfl
  | _, n :: ns, h => by
    cases h with
    | cons h1 h2 =>
      cases h1
      rw [DqAll.of_bools h2]
      rfl
end
inductive Cel where
  | un | pl (d : PyData) | ow (ds : List PyData) | io (ds : List PyData) | dk (ks : List PyData)
abbrev En := List Cel
def Cel.own : Cel → Bool
  | .ow _ => true
  | .io _ => true
  | .dk _ => true
  | _ => false
inductive Out (α : Type) where
  | ok (a : α) (r : En) | ex (c : Str) (p : List PyData)
abbrev M (α : Type) := En → Option (Out α)
def M.ret {α : Type} (a : α) : M α := fun r => some (.ok a r)
def M.bind {α β : Type} (m : M α) (k : α → M β) : M β := fun r => match m r with
  | some (.ok a r') => k a r'
  | some (.ex c p) => some (.ex c p)
  | none => none
def M.lift {α : Type} (o : Option α) : M α := fun r => match o with
  | some a => some (.ok a r)
  | none => none
/-- range(n) -/
def RgO (p : Addr) (n : Nat) : HO := .ext fun h => ∃ t u v : Tok, IsRange h p 0 (n : Int) 1 t u v
theorem rgO_new {P : Program} {w : World} {H : Hp} {h : Heap} {p : Addr} {n : Nat} {t u v : Tok} (R : IsRange h p 0 (n : Int) 1 t u v) : ObjOk P w H h p (RgO p n) :=
  ⟨⟨t, u, v, R⟩, ⟨_, R⟩, fun h1 h2 q k => by
    obtain ⟨t, u, v, q⟩ := q
    exact ⟨t, u, v, k _ q⟩⟩
/-- what stands in a name alone: a dict whose keys are tuples, a range -/
inductive DkH (K : PySem.W.Frag) (G : Hp) (p : Addr) : List PyData → Prop
  | keys {ks : List PyData} {nks : List NestedKey} {as : List Addr} : G p = some (DkO p nks as) → keyNs ks = some nks → DqAll K G (as.map V.ref) ks → DkH K G p ks
  | rng {n : Nat} : G p = some (RgO p n) → n ≤ 1000000 → DkH K G p [.list [.int (n : Int)]]
theorem DkH.sm {K : PySem.W.Frag} {G G' : Hp} {p : Addr} {ks : List PyData} (h : DkH K G p ks) (s : Same G G') : DkH K G' p ks := by
  cases h with
  | keys h1 h2 h3 => exact .keys (s _ _ h1) h2 (h3.sm s)
  | rng h1 h2 => exact .rng (s _ _ h1) h2
/-- the frame: the heap and the view at the entry, the lists that are handed in and changed -/
structure Fm where
  H0 : Hp
  G0 : Hp
  ios : Nat → Option Addr
abbrev Ow := Nat → Option Addr
structure Rp (K : PySem.W.Frag) (F : Fm) (O : Ow) (G : Hp) (σ : L2.St) (H : Hp) (r : En) : Prop where
  sub : Same G H
  len : σ.length = r.length
  pl : ∀ (i : Nat) (d : PyData), r[i]? = some (Cel.pl d) → ∃ v, σ[i]? = some (some v) ∧ Dq K G v d
  ow : ∀ (i : Nat) (ds : List PyData), r[i]? = some (Cel.ow ds) → ∃ p xs, O i = some p ∧ σ[i]? = some (some (.ref p)) ∧ F.H0 p = none ∧ H p = some (.lst xs) ∧ DqAll K G xs ds
  io : ∀ (i : Nat) (ds : List PyData), r[i]? = some (Cel.io ds) → ∃ p xs, F.ios i = some p ∧ O i = some p ∧ σ[i]? = some (some (.ref p)) ∧ H p = some (.lst xs) ∧ DqAll K G xs ds
  dk : ∀ (i : Nat) (ks : List PyData), r[i]? = some (Cel.dk ks) → ∃ p, σ[i]? = some (some (.ref p)) ∧ DkH K G p ks
  on : ∀ (i : Nat) (p : Addr), O i = some p → (∃ c, r[i]? = some c ∧ c.own = true) ∧ G p = none ∧ H p ≠ none ∧ (F.H0 p = none ∨ ∃ j, F.ios j = some p)
  inj : ∀ (i j : Nat) (p : Addr), O i = some p → O j = some p → i = j
  old : ∀ c o, F.H0 c = some o → (∀ i, F.ios i ≠ some c) → H c = some o
  nf : ∀ c, H c = none → F.H0 c = none
  g0 : Same F.G0 G
  gn : ∀ c, G c ≠ none → F.G0 c ≠ none ∨ F.H0 c = none
structure Go (O : Ow) (G H G' H' : Hp) : Prop where
  gg : Same G G'
  keep : ∀ c o, H c = some o → (∀ i, O i ≠ some c) → H' c = some o
  gn : ∀ c, G' c ≠ none → G c ≠ none ∨ H c = none
  nf : ∀ c, H' c = none → H c = none
/-- a step that writes nothing that was there -/
structure Ps (G H G' H' : Hp) : Prop where
  gg : Same G G'
  gh : Same G' H'
  hh : Same H H'
  gn : ∀ c, G' c ≠ none → G c ≠ none ∨ H c = none
theorem Go.refl {O : Ow} {G H : Hp} : Go O G H G H := ⟨Same.refl _, fun _ _ e _ => e, fun _ e => .inl e, fun _ e => e⟩
theorem Go.trans {O : Ow} {G H G1 H1 G2 H2 : Hp} (a : Go O G H G1 H1) (b : Go O G1 H1 G2 H2) : Go O G H G2 H2 :=
  ⟨a.gg.trans b.gg, fun c o e n => b.keep c o (a.keep c o e n) n, fun c e => by
    rcases b.gn c e with z | z
    · exact a.gn c z
    · exact .inr (a.nf c z), fun c e => a.nf c (b.nf c e)⟩
theorem Ps.go {O : Ow} {G H G' H' : Hp} (p : Ps G H G' H') : Go O G H G' H' := ⟨p.gg, fun c o e _ => p.hh c o e, p.gn, fun c e => p.hh.free e⟩
theorem Ps.refl {G H : Hp} (s : Same G H) : Ps G H G H := ⟨Same.refl _, s, Same.refl _, fun _ e => .inl e⟩
theorem Ps.trans {G H G1 H1 G2 H2 : Hp} (a : Ps G H G1 H1) (b : Ps G1 H1 G2 H2) : Ps G H G2 H2 :=
  ⟨a.gg.trans b.gg, b.gh, a.hh.trans b.hh, fun c e => by
    rcases b.gn c e with z | z
    · exact a.gn c z
    · exact .inr (a.hh.free z)⟩
theorem Ps.of_same {G H H' : Hp} (s : Same G H) (h : Same H H') : Ps G H G H' := ⟨Same.refl _, s.trans h, h, fun _ e => .inl e⟩
theorem some_ne {H : Hp} {c : Addr} {o : HO} (h : H c = some o) : H c ≠ none := by rw [h]; exact fun z => nomatch z
/-- a new object that is seen from now on -/
theorem same_new {H : Hp} {p : Addr} {o : HO} (h : H p = none) : Same H (upd H p o) := fun b x e => by
  rw [upd_ne (ne_of_none e h)]
  exact e
theorem Ps.new {G H H' : Hp} {p : Addr} {o : HO} (s : Same G H) (h : Same H H') (n : H p = none) (e : H' p = some o) : Ps G H (upd G p o) H' := by
  have gp : G p = none := s.free n
  refine ⟨same_new gp, fun c x q => ?_, h, fun c q => ?_⟩
  · by_cases z : c = p
    · subst z
      rw [upd_same] at q
      cases q
      exact e
    · rw [upd_ne z] at q
      exact h _ _ (s _ _ q)
  · by_cases z : c = p
    · subst z
      exact .inr n
    · rw [upd_ne z] at q
      exact .inl q
section
variable {K : PySem.W.Frag} {F : Fm} {O : Ow} {G G' H H' : Hp} {σ : L2.St} {r : En}
theorem Rp.ps (R : Rp K F O G σ H r) (p : Ps G H G' H') : Rp K F O G' σ H' r where
  sub := p.gh
  len := R.len
  pl := fun i d e => by
    obtain ⟨v, h1, h2⟩ := R.pl i d e
    exact ⟨v, h1, h2.sm p.gg⟩
  ow := fun i ds e => by
    obtain ⟨q, xs, h1, h2, h0, h3, h4⟩ := R.ow i ds e
    exact ⟨q, xs, h1, h2, h0, p.hh _ _ h3, h4.sm p.gg⟩
  io := fun i ds e => by
    obtain ⟨q, xs, h0, h1, h2, h3, h4⟩ := R.io i ds e
    exact ⟨q, xs, h0, h1, h2, p.hh _ _ h3, h4.sm p.gg⟩
  dk := fun i ks e => by
    obtain ⟨q, h1, h2⟩ := R.dk i ks e
    exact ⟨q, h1, h2.sm p.gg⟩
  on := fun i q e => by
    obtain ⟨h1, h2, h3, h4⟩ := R.on i q e
    refine ⟨h1, ?_, ?_, h4⟩
    · cases z : G' q with
      | none => rfl
      | some o =>
        rcases p.gn q (some_ne z) with y | y
        · exact absurd h2 y
        · exact absurd y h3
    · cases z : H q with
      | none => exact absurd z h3
      | some o => exact some_ne (p.hh _ _ z)
  inj := R.inj
  old := fun c o e n => p.hh _ _ (R.old c o e n)
  nf := fun c e => R.nf c (p.hh.free e)
  g0 := R.g0.trans p.gg
  gn := fun c e => by
    rcases p.gn c e with z | z
    · exact R.gn c z
    · exact .inr (R.nf c z)
end
abbrev XE := Str → List PyData → Hp → Prop
abbrev XN : XE := fun _ _ _ => False
/-- the heap at the start, the frame, the view and the heap behind -/
abbrev RR (β α : Type) := Hp → Ow → Fm → Hp → Hp → β → α → Prop
class Anti {β α : Type} (R : RR β α) : Prop where
  anti : ∀ {S S' : Hp} {O : Ow} {F : Fm} {G H : Hp} {b : β} {a : α}, (∀ c, S' c = none → S c = none) → R S' O F G H b a → R S O F G H b a
def rD (K : PySem.W.Frag) : RR V PyData := fun _ _ _ G _ v d => Dq K G v d
instance {K : PySem.W.Frag} : Anti (rD K) := ⟨fun _ h => h⟩
def rA (K : PySem.W.Frag) : RR (List V) (List PyData) := fun _ _ _ G _ vs ds => DqAll K G vs ds
instance {K : PySem.W.Frag} : Anti (rA K) := ⟨fun _ h => h⟩
def rB : RR Bool Bool := fun _ _ _ _ _ b c => b = c
instance : Anti rB := ⟨fun _ h => h⟩
def rF (K : PySem.W.Frag) : RR V (List PyData) := fun S O F G H v ds => ∃ p xs, v = .ref p ∧ S p = none ∧ G p = none ∧ F.H0 p = none ∧ (∀ i, O i ≠ some p) ∧ H p = some (.lst xs) ∧ DqAll K G xs ds
instance {K : PySem.W.Frag} : Anti (rF K) := ⟨fun k ⟨p, xs, h1, h2, h⟩ => ⟨p, xs, h1, k _ h2, h⟩⟩
def Fin {α β : Type} (K : PySem.W.Frag) (E : XE) (R : RR β α) (F : Fm) (O : Ow) (G : Hp) (σ : L2.St) (H : Hp) (Q : β → Hp → Prop) : Out α → Prop
  | .ok a r' => ∀ b G' H', Rp K F O G' σ H' r' → Go O G H G' H' → R H O F G' H' b a → Q b H'
  | .ex c p => ∀ H', (∀ c o, F.H0 c = some o → (∀ i, F.ios i ≠ some c) → H' c = some o) → E c p H'
def tM {α β : Type} (K : PySem.W.Frag) (E : XE) (R : RR β α) (m : M α) : L2.St → Hp → (β → Hp → Prop) → Prop := fun σ H Q =>
  ∃ F O G r out, Rp K F O G σ H r ∧ m r = some out ∧ Fin K E R F O G σ H Q out
section
variable {K : PySem.W.Frag} {E : XE} {F : Fm} {O : Ow} {G G1 H H1 : Hp} {σ : L2.St} {r : En} {α β α1 β1 : Type} {R : RR β α} {R1 : RR β1 α1} {Q : β → Hp → Prop} {Q1 : β1 → Hp → Prop} {out : Out α}
theorem Fin.via [Anti R] (g : Go O G H G1 H1) (f : Fin K E R F O G σ H Q out) : Fin K E R F O G1 σ H1 Q out := by
  cases out with
  | ok a r' => exact fun b G' H' p q z => f b G' H' p (g.trans q) (Anti.anti g.nf z)
  | ex c p => exact f
theorem tM.run [Anti R] {m : M α1} {k : α1 → M α} (P : Rp K F O G σ H r) (f : Fin K E R F O G σ H Q out) (e : m.bind k r = some out)
    (h : ∀ a r1 b G1 H1, Rp K F O G1 σ H1 r1 → Go O G H G1 H1 → R1 H O F G1 H1 b a → k a r1 = some out → Fin K E R F O G1 σ H1 Q out → Q1 b H1) : tM K E R1 m σ H Q1 := by
  cases em : m r with
  | none =>
    rw [M.bind, em] at e
    cases e
  | some o =>
    cases o with
    | ok a r1 =>
      rw [M.bind, em] at e
      exact ⟨F, O, G, r, _, P, em, fun b G1 H1 P1 g1 q => h a r1 b G1 H1 P1 g1 q e (f.via g1)⟩
    | ex c p =>
      rw [M.bind, em] at e
      cases e
      exact ⟨F, O, G, r, _, P, em, f⟩
/-- the last step: by values -/
theorem Fin.ok {a : α} {r' : En} {b : β} {G' H' : Hp} (f : Fin K E R F O G σ H Q (.ok a r')) (p : Ps G H G' H') (P : Rp K F O G σ H r') (q : R H O F G' H' b a) : Q b H' := f b G' H' (P.ps p) p.go q
theorem lift_ok {o : Option α} (h : M.lift o r = some out) : ∃ a, o = some a ∧ out = .ok a r := by
  unfold M.lift at h
  cases o with
  | none => cases h
  | some a => exact ⟨a, rfl, (Option.some.inj h).symm⟩
end
structure DE (K : PySem.W.Frag) (E : XE) (X : Cx) (e : Expr) (m : M PyData) : Prop where
  pe : X.K = K → PE X e (tM K E (rD K) m)
structure DF (K : PySem.W.Frag) (E : XE) (X : Cx) (e : Expr) (m : M (List PyData)) : Prop where
  pe : X.K = K → PE X e (tM K E (rF K) m)
structure DA (K : PySem.W.Frag) (E : XE) (X : Cx) (es : List Expr) (m : M (List PyData)) : Prop where
  pa : X.K = K → PA X es (tM K E (rA K) m)
structure DT (K : PySem.W.Frag) (E : XE) (X : Cx) (e : Expr) (m : M Bool) : Prop where
  pt : X.K = K → PT X e (tM K E rB m)
structure DW (K : PySem.W.Frag) (E : XE) (X : Cx) (e : Expr) (m : M Bool) : Prop where
  pw : X.K = K → PW X e (tM K E rB m)
section
variable {X : Cx} {e : Expr} {es : List Expr}
theorem PE.imp {t t' : TE} (h : PE X e t) (i : ∀ σ H Q, t' σ H Q → t σ H Q) : PE X e t' := ⟨fun pins s σ H Q I q => h.run pins s σ H Q I (i _ _ _ q)⟩
theorem PT.imp {t t' : TT} (h : PT X e t) (i : ∀ σ H Q, t' σ H Q → t σ H Q) : PT X e t' := ⟨fun pins s σ H Q I q => h.run pins s σ H Q I (i _ _ _ q)⟩
theorem PW.imp {t t' : TT} (h : PW X e t) (i : ∀ σ H Q, t' σ H Q → t σ H Q) : PW X e t' := ⟨fun w pins s σ H Q I q => h.run w pins s σ H Q I (i _ _ _ q)⟩
theorem PA.imp {t t' : TA} (h : PA X es t) (i : ∀ σ H Q, t' σ H Q → t σ H Q) : PA X es t' := ⟨fun pos pins s σ H Q I q => h.run pos pins s σ H Q I (i _ _ _ q)⟩
end
def rPure (K : PySem.W.Frag) (g : List PyData → Option PyData) : List V → Hp → VK → Prop := fun vs H Q => ∃ G ds z, Same G H ∧ DqAll K G vs ds ∧ g ds = some z ∧ ∀ v G' H', Ps G H G' H' → Dq K G' v z → Q v H'
def rPure2 (K : PySem.W.Frag) (g : PyData → PyData → Option PyData) : R2 := fun x y H Q => ∃ G d e z, Same G H ∧ Dq K G x d ∧ Dq K G y e ∧ g d e = some z ∧ ∀ v G' H', Ps G H G' H' → Dq K G' v z → Q v H'
/-- a call that lays a list: nobody else knows it -/
def rFresh (K : PySem.W.Frag) (g : List PyData → Option (List PyData)) : List V → Hp → VK → Prop := fun vs H Q => ∃ G ds zs, Same G H ∧ DqAll K G vs ds ∧ g ds = some zs ∧ ∀ p xs G' H', Ps G H G' H' → G' p = none → H p = none → H' p = some (.lst xs) → DqAll K G' xs zs → Q (.ref p) H'
def CallD (K : PySem.W.Frag) (X : Cx) (f : Value) (g : List PyData → Option PyData) : Prop := X.K = K → CallR X f (rPure K g)
def CallF (K : PySem.W.Frag) (X : Cx) (f : Value) (g : List PyData → Option (List PyData)) : Prop := X.K = K → CallR X f (rFresh K g)
def OpD (K : PySem.W.Frag) (X : Cx) (f : Value → Value → Sem Value) (g : PyData → PyData → Option PyData) : Prop := X.K = K → OpR X f (rPure2 K g)
def spD (K : PySem.W.Frag) (g : List PyData → Option PyData) : Sp := fun vs H Q _ => rPure K g vs H Q
/-- the first argument is a list that is changed -/
def spM (K : PySem.W.Frag) (g : List PyData → List PyData → Option (PyData × List PyData)) : Sp := fun vs H Q _ => ∃ G p xs ws bs ds z bs', vs = .ref p :: ws ∧ Same G H ∧ G p = none ∧ H p = some (.lst xs) ∧ DqAll K G xs bs ∧ DqAll K G ws ds ∧ g bs ds = some (z, bs') ∧
  ∀ v G' H' xs', Same G G' → Same G' H' → G' p = none → (∀ c o, c ≠ p → H c = some o → H' c = some o) → (∀ c, G' c ≠ none → G c ≠ none ∨ H c = none) → H' p = some (.lst xs') → DqAll K G' xs' bs' → Dq K G' v z → Q v H'
def mV (i : Nat) : M PyData := fun r => match r[i]? with
  | some (Cel.pl d) => some (.ok d r)
  | _ => none
section
variable {K : PySem.W.Frag} {E : XE} {X : Cx} {a b e : Expr} {es : List Expr} {ma mb : M PyData} {pos : Pos}
theorem de_v (i : Nat) {x : Str} (hN : X.N[i]? = some x := by rfl) (hv : Vis X.env.scope x := by first | exact Or.inl rfl | exact Or.inr (Or.inl rfl) | exact Or.inr (Or.inr rfl)) (hd : (x == ("__debug__" : Str)) = false := by decide)
    (hcd : (x == ("__classdict__" : Str)) = false := by decide) : DE K E X (.Name x pos) (mV i) := ⟨fun _ => PE.imp (pe_var hN hv hd hcd) fun σ H Q ⟨F, O, G, r, out, P, em, f⟩ => by
  unfold mV at em
  split at em
  · rename_i d hd'
    cases em
    obtain ⟨v, h1, h2⟩ := P.pl i d hd'
    exact ⟨v, h1, f.ok (Ps.refl P.sub) P h2⟩
  · cases em⟩
theorem de_c {v : V} {d : PyData} (h : PE X e (tC v)) (hd : ∀ G, Dq K G v d) : DE K E X e (M.ret d) := ⟨fun _ => PE.imp h fun σ H Q ⟨F, O, G, r, out, P, em, f⟩ => by
  cases em
  exact f.ok (Ps.refl P.sub) P (hd G)⟩
theorem de_int {i : Int} {j} : DE K E X (.Constant (.int i) j pos) (M.ret (.int i)) := de_c pe_int fun _ => .int i
theorem de_bl {b : Bool} {j} : DE K E X (.Constant (.bool b) j pos) (M.ret (.bool b)) := de_c pe_bl fun _ => .bl b
theorem de_non {j} : DE K E X (.Constant .none j pos) (M.ret .none) := de_c pe_non fun _ => .non
theorem de_str {x : Str} {j} : DE K E X (.Constant (.str x) j pos) (M.ret (.str x)) := de_c pe_str fun _ => .str x
/-- a constant of the module -/
theorem de_g {x : Str} {v : V} {u : Value} {d : PyData} (hg : Gl X x) (hm : X.mg x = some u) (r : RelV v u) (hd : ∀ G, Dq K G v d) (hdb : (x == ("__debug__" : Str)) = false := by decide) : DE K E X (.Name x pos) (M.ret d) := de_c (pe_glob hg hm r hdb) hd
theorem da_nil : DA K E X [] (M.ret []) := ⟨fun _ => PA.imp pa_nil fun σ H Q ⟨F, O, G, r, out, P, em, f⟩ => by
  cases em
  exact f.ok (Ps.refl P.sub) P .nil⟩
theorem da_cons {m : M (List PyData)} (ha : DE K E X e ma) (hr : DA K E X es m) (hs : starEach (e :: es) X.env = (false, eval e X.env) :: starEach es X.env := by rfl) :
    DA K E X (e :: es) (ma.bind fun d => m.bind fun ds => M.ret (d :: ds)) := ⟨fun hK => PA.imp (pa_cons (ha.pe hK) (hr.pa hK) hs) fun σ H Q ⟨F, O, G, r, out, P, em, f⟩ => by
  refine tM.run P f em fun d r1 x G1 H1 P1 g1 q1 e1 f1 => ?_
  refine tM.run P1 f1 e1 fun ds r2 xs G2 H2 P2 g2 q2 e2 f2 => ?_
  cases e2
  exact f2.ok (Ps.refl P2.sub) P2 (.cons (q1.sm g2.gg) q2)⟩
theorem de_op {op : Operator} {g : PyData → PyData → Option PyData} (ho : OpD K X (binaryOp op) g) (ha : DE K E X a ma) (hb : DE K E X b mb) :
    DE K E X (.BinOp a op b pos) (ma.bind fun d => mb.bind fun e => M.lift (g d e)) := ⟨fun hK => PE.imp (pe_op (ho hK) (ha.pe hK) (hb.pe hK)) fun σ H Q ⟨F, O, G, r, out, P, em, f⟩ => by
  refine tM.run P f em fun d r1 x G1 H1 P1 g1 q1 e1 f1 => ?_
  refine tM.run P1 f1 e1 fun ds r2 y G2 H2 P2 g2 q2 e2 f2 => ?_
  obtain ⟨z, hz, rfl⟩ := lift_ok e2
  exact ⟨G2, _, _, z, P2.sub, q1.sm g2.gg, q2, hz, fun v G' H' p q => f2.ok p P2 q⟩⟩
theorem de_cmp {op : CmpOp} {g : PyData → PyData → Option PyData} (ho : OpD K X (compareOp op) g) (ha : DE K E X a ma) (hb : DE K E X b mb) (hm : behindInMarks op b = false) :
    DE K E X (.Compare a [op] [b] pos) (ma.bind fun d => mb.bind fun e => M.lift (g d e)) := ⟨fun hK => PE.imp (pe_cmpR (ho hK) (ha.pe hK) (hb.pe hK) hm) fun σ H Q ⟨F, O, G, r, out, P, em, f⟩ => by
  refine tM.run P f em fun d r1 x G1 H1 P1 g1 q1 e1 f1 => ?_
  refine tM.run P1 f1 e1 fun ds r2 y G2 H2 P2 g2 q2 e2 f2 => ?_
  obtain ⟨z, hz, rfl⟩ := lift_ok e2
  exact ⟨G2, _, _, z, P2.sub, q1.sm g2.gg, q2, hz, fun v G' H' p q => f2.ok p P2 q⟩⟩
def asBool : PyData → Option Bool
  | .bool b => some b
  | _ => none
theorem dp_bool {G : Hp} {v : V} {b : Bool} (h : Dq K G v (.bool b)) : v = .bl b := by cases h; rfl
theorem asBool_some {d : PyData} {b : Bool} (h : asBool d = some b) : d = .bool b := by
  cases d <;> first | (cases h; rfl) | cases h
theorem dt_cmp {op : CmpOp} {g : PyData → PyData → Option PyData} (ho : OpD K X (compareOp op) g) (ha : DE K E X a ma) (hb : DE K E X b mb) (hm : behindInMarks op b = false) :
    DT K E X (.Compare a [op] [b] pos) (ma.bind fun d => mb.bind fun e => M.lift ((g d e).bind asBool)) := ⟨fun hK => PT.imp (pt_cmpR (ho hK) (ha.pe hK) (hb.pe hK) hm) fun σ H Q ⟨F, O, G, r, out, P, em, f⟩ => by
  refine tM.run P f em fun d r1 x G1 H1 P1 g1 q1 e1 f1 => ?_
  refine tM.run P1 f1 e1 fun ds r2 y G2 H2 P2 g2 q2 e2 f2 => ?_
  obtain ⟨c, hz, rfl⟩ := lift_ok e2
  obtain ⟨z, h1, h2⟩ := Option.bind_eq_some_iff.mp hz
  cases asBool_some h2
  exact ⟨G2, _, _, _, P2.sub, q1.sm g2.gg, q2, h1, fun v G' H' p q => ⟨c, dp_bool q, f2.ok p P2 rfl⟩⟩⟩
/-- and, or, not -/
def mAnd (m n : M Bool) : M Bool := m.bind fun b => if b then n else M.ret false
def mOr (m n : M Bool) : M Bool := m.bind fun b => if b then M.ret true else n
theorem dw_and1 {m : M Bool} (ha : DT K E X a m) : DW K E X (.BoolOp .And [a] pos) m := ⟨fun hK => pw_and1 (ha.pt hK)⟩
theorem dw_or1 {m : M Bool} (ha : DT K E X a m) : DW K E X (.BoolOp .Or [a] pos) m := ⟨fun hK => pw_or1 (ha.pt hK)⟩
theorem dw_and {m n : M Bool} (ha : DT K E X a m) (hb : DW K E X (.BoolOp .And (b :: es) pos) n) : DW K E X (.BoolOp .And (a :: b :: es) pos) (mAnd m n) :=
  ⟨fun hK => PW.imp (pw_and (ha.pt hK) (hb.pw hK)) fun σ H Q ⟨F, O, G, r, out, P, em, f⟩ => by
  refine tM.run P f em fun d r1 x G1 H1 P1 g1 q1 e1 f1 => ?_
  cases q1
  cases d with
  | true => exact iteT ⟨F, O, G1, r1, _, P1, e1, f1⟩
  | false =>
    cases e1
    exact iteF (f1.ok (Ps.refl P1.sub) P1 rfl)⟩
theorem dw_or {m n : M Bool} (ha : DT K E X a m) (hb : DW K E X (.BoolOp .Or (b :: es) pos) n) : DW K E X (.BoolOp .Or (a :: b :: es) pos) (mOr m n) :=
  ⟨fun hK => PW.imp (pw_or (ha.pt hK) (hb.pw hK)) fun σ H Q ⟨F, O, G, r, out, P, em, f⟩ => by
  refine tM.run P f em fun d r1 x G1 H1 P1 g1 q1 e1 f1 => ?_
  cases q1
  cases d with
  | true =>
    cases e1
    exact iteT (f1.ok (Ps.refl P1.sub) P1 rfl)
  | false => exact iteF ⟨F, O, G1, r1, _, P1, e1, f1⟩⟩
theorem DW.pt {m : M Bool} (h : DW K E X e m) : DT K E X e m := ⟨fun hK => (h.pw hK).pt⟩
theorem dt_not {m : M Bool} (ha : DT K E X a m) : DT K E X (.UnaryOp .Not a pos) (m.bind fun b => M.ret (!b)) := ⟨fun hK => PT.imp (pt_not (ha.pt hK)) fun σ H Q ⟨F, O, G, r, out, P, em, f⟩ => by
  refine tM.run P f em fun d r1 x G1 H1 P1 g1 q1 e1 f1 => ?_
  cases q1
  cases e1
  exact f1.ok (Ps.refl P1.sub) P1 rfl⟩
/-- .. as values -/
def mAndV (m n : M PyData) : M PyData := m.bind fun d => (M.lift (asBool d)).bind fun b => if b then n else M.ret (.bool false)
def mOrV (m n : M PyData) : M PyData := m.bind fun d => (M.lift (asBool d)).bind fun b => if b then M.ret (.bool true) else n
theorem bind_lift_ok {α β : Type} {o : Option α} {k : α → M β} {r : En} {out : Out β} (h : (M.lift o).bind k r = some out) : ∃ a, o = some a ∧ k a r = some out := by
  cases o with
  | none => cases h
  | some a => exact ⟨a, rfl, h⟩
theorem de_one {op} (h : DE K E X a ma) : DE K E X (.BoolOp op [a] pos) ma := ⟨fun hK => pe_one (h.pe hK)⟩
theorem de_and (ha : DE K E X a ma) (hb : DE K E X (.BoolOp .And (b :: es) pos) mb) : DE K E X (.BoolOp .And (a :: b :: es) pos) (mAndV ma mb) :=
  ⟨fun hK => PE.imp (pe_and (ha.pe hK) (hb.pe hK)) fun σ H Q ⟨F, O, G, r, out, P, em, f⟩ => by
  refine tM.run P f em fun d r1 x G1 H1 P1 g1 q1 e1 f1 => ?_
  obtain ⟨c, hc, e2⟩ := bind_lift_ok e1
  cases asBool_some hc
  refine ⟨c, dp_bool q1, ?_⟩
  cases c with
  | true => exact iteT ⟨F, O, G1, r1, _, P1, e2, f1⟩
  | false =>
    cases e2
    exact iteF (f1.ok (Ps.refl P1.sub) P1 (.bl _))⟩
theorem de_not (ha : DE K E X a ma) : DE K E X (.UnaryOp .Not a pos) (ma.bind fun d => (M.lift (asBool d)).bind fun b => M.ret (.bool (!b))) := ⟨fun hK => PE.imp (pe_not (ha.pe hK)) fun σ H Q ⟨F, O, G, r, out, P, em, f⟩ => by
  refine tM.run P f em fun d r1 x G1 H1 P1 g1 q1 e1 f1 => ?_
  obtain ⟨c, hc, e2⟩ := bind_lift_ok e1
  cases asBool_some hc
  cases e2
  exact ⟨c, dp_bool q1, f1.ok (Ps.refl P1.sub) P1 (.bl _)⟩⟩
def mIf {α : Type} (c : M Bool) (m n : M α) : M α := c.bind fun b => if b then m else n
theorem de_if {c : Expr} {mc : M Bool} (hc : DT K E X c mc) (ha : DE K E X a ma) (hb : DE K E X b mb) : DE K E X (.IfExp c a b pos) (mIf mc ma mb) :=
  ⟨fun hK => PE.imp (pe_ifExp (hc.pt hK) (ha.pe hK) (hb.pe hK)) fun σ H Q ⟨F, O, G, r, out, P, em, f⟩ => by
  refine tM.run P f em fun d r1 x G1 H1 P1 g1 q1 e1 f1 => ?_
  cases q1
  cases d with
  | true => exact iteT ⟨F, O, G1, r1, _, P1, e1, f1⟩
  | false => exact iteF ⟨F, O, G1, r1, _, P1, e1, f1⟩⟩
end
end DL
namespace DL
open PySem PySem.Spec PyProof.Rows L2 Lk
def tupM (ds : List PyData) : Option PyData := if ds.length ≤ 1000000 then some (.tuple ds) else none
def lstM (ds : List PyData) : Option (List PyData) := if ds.length ≤ 1000000 then some ds else none
theorem line_le {n : Nat} (h : n ≤ 1000000) : n ≤ sizeLine := by
  have : sizeLine = 2 ^ 24 := rfl
  omega
theorem line_lt {n : Nat} (h : n ≤ 1000000) : n < sizeLine := by
  have : sizeLine = 2 ^ 24 := rfl
  omega
def M.map {α β : Type} (f : α → β) (m : M α) : M β := m.bind fun a => M.ret (f a)
section
variable {K : PySem.W.Frag} {E : XE} {X : Cx} {a b e : Expr} {es : List Expr} {ma mb : M PyData} {m : M (List PyData)} {pos : Pos}
theorem de_tup {x1} (h : DA K E X es m) : DE K E X (.Tuple es x1 pos) (m.bind fun ds => M.lift (tupM ds)) := ⟨fun hK => PE.imp (pe_tupN (h.pa hK)) fun σ H Q ⟨F, O, G, r, out, P, em, f⟩ => by
  refine tM.run P f em fun ds r1 xs G1 H1 P1 g1 q1 e1 f1 => ?_
  obtain ⟨z, hz, rfl⟩ := lift_ok e1
  unfold tupM at hz
  split at hz
  · rename_i hl
    cases hz
    rw [← q1.length] at hl
    exact ⟨line_le hl, fun p H2 s n e2 => f1.ok (Ps.new P1.sub s n e2) P1 (.tup (.inl (.inl upd_same)) (q1.sm (same_new (P1.sub.free n))))⟩
  · cases hz⟩
theorem df_lst (h : DA K E X es m) : DF K E X (.List es pos) (m.bind fun ds => M.lift (lstM ds)) := ⟨fun hK => PE.imp (pe_lstN (h.pa hK)) fun σ H Q ⟨F, O, G, r, out, P, em, f⟩ => by
  refine tM.run P f em fun ds r1 xs G1 H1 P1 g1 q1 e1 f1 => ?_
  obtain ⟨z, hz, rfl⟩ := lift_ok e1
  unfold lstM at hz
  split at hz
  · rename_i hl
    cases hz
    rw [← q1.length] at hl
    refine ⟨line_le hl, fun p H2 s n e2 => f1.ok (Ps.of_same P1.sub s) P1 ⟨p, xs, rfl, n, P1.sub.free n, P1.nf _ n, fun i z => ?_, e2, q1⟩⟩
    exact (P1.on i p z).2.2.1 n
  · cases hz⟩
theorem Rp.see {F : Fm} {O : Ow} {G H : Hp} {σ : L2.St} {r : En} {p : Addr} {xs : List V} (R : Rp K F O G σ H r) (h : H p = some (.lst xs)) (g : G p = none) (h0 : F.H0 p = none) (o : ∀ i, O i ≠ some p) : Rp K F O (upd G p (.lst xs)) σ H r where
  sub := fun c x q => by
    by_cases z : c = p
    · subst z
      rw [upd_same] at q
      cases q
      exact h
    · rw [upd_ne z] at q
      exact R.sub _ _ q
  len := R.len
  pl := fun i d e => by
    obtain ⟨v, h1, h2⟩ := R.pl i d e
    exact ⟨v, h1, h2.sm (same_new g)⟩
  ow := fun i ds e => by
    obtain ⟨q, xs, h1, h2, h0, h3, h4⟩ := R.ow i ds e
    exact ⟨q, xs, h1, h2, h0, h3, h4.sm (same_new g)⟩
  io := fun i ds e => by
    obtain ⟨q, xs, h0, h1, h2, h3, h4⟩ := R.io i ds e
    exact ⟨q, xs, h0, h1, h2, h3, h4.sm (same_new g)⟩
  dk := fun i ks e => by
    obtain ⟨q, h1, h2⟩ := R.dk i ks e
    exact ⟨q, h1, h2.sm (same_new g)⟩
  on := fun i q e => by
    obtain ⟨h1, h2, h3, h4⟩ := R.on i q e
    refine ⟨h1, ?_, h3, h4⟩
    rw [upd_ne fun z => o i (by rw [e, z])]
    exact h2
  inj := R.inj
  old := R.old
  nf := R.nf
  g0 := R.g0.trans (same_new g)
  gn := fun c e => by
    by_cases z : c = p
    · exact .inr (by rw [z]; exact h0)
    · rw [upd_ne z] at e
      exact R.gn c e
/-- a new list, seen from now on -/
theorem de_fr (h : DF K E X e m) : DE K E X e (m.map PyData.list) := ⟨fun hK => PE.imp (h.pe hK) fun σ H Q ⟨F, O, G, r, out, P, em, f⟩ => by
  refine tM.run P f em fun ds r1 v G1 H1 P1 g1 q1 e1 f1 => ?_
  cases e1
  obtain ⟨p, xs, rfl, hs, hg, h0, ho, hp, ha⟩ := q1
  cases em2 : m r with
  | none =>
    rw [M.map, M.bind, em2] at em
    cases em
  | some o =>
    cases o with
    | ex c z =>
      rw [M.map, M.bind, em2] at em
      cases em
    | ok ds' r' =>
      rw [M.map, M.bind, em2] at em
      cases em
      refine f _ _ _ (P1.see hp hg h0 ho) ?_ (.lst (.inl (.inl upd_same)) (ha.sm (same_new hg)))
      refine ⟨g1.gg.trans (same_new hg), g1.keep, fun c e => ?_, g1.nf⟩
      by_cases z : c = p
      · rw [z]
        exact .inr hs
      · rw [upd_ne z] at e
        exact g1.gn c e⟩
theorem de_call {x : Str} {p : Pos} {k : Nat} {f : Addr} {fd : FuncData} {ps : List Str} {g : List PyData → Option PyData} (Fk : FnOk X.prog X.w K X.mg X.base CX0 k f fd ps (spD K g)) (hb : Binds K fd ps []) (hm : X.mg x = some (.ref f)) (hk : PySem.W.keepIn K (.ref f) = true) (hr : Room k X.A) (hg : Gl X x)
    (ha : DA K E X (e :: es) m) (hdb : (x == ("__debug__" : Str)) = false := by decide) (he : starEach (e :: es) X.env = (false, eval e X.env) :: starEach es X.env := by rfl)
    (hpl : (backTo pos (starEach es X.env)).any (·.1) = false := by rfl) : DE K E X (.Call (.Name x p) (e :: es) [] pos) (m.bind fun ds => M.lift (g ds)) := ⟨fun hK => by
  subst hK
  refine PE.imp (pe_call (E := E0) Fk hr hg hm hk hb .nil pass0 (ha.pa rfl) hdb he hpl) fun σ H Q ⟨F, O, G, r, out, P, em, f⟩ => ?_
  refine tM.run P f em fun ds r1 xs G1 H1 P1 g1 q1 e1 f1 => ?_
  obtain ⟨z, hz, rfl⟩ := lift_ok e1
  rw [List.append_nil]
  exact ⟨G1, ds, z, P1.sub, q1, hz, fun v G' H' p q => f1.ok p P1 q⟩⟩
theorem de_callB {x : Str} {p : Pos} {id : String} {g : List PyData → Option PyData} (hc : CallD K X (.builtin id) g) (hg : Gl X x) (hm : X.mg x = none) (hv : bootBuiltins x = some (.builtin id)) (ha : DA K E X (e :: es) m) (hn : x ≠ "__name__" := by decide) (hdb : (x == ("__debug__" : Str)) = false := by decide)
    (he : starEach (e :: es) X.env = (false, eval e X.env) :: starEach es X.env := by rfl) (hpl : (backTo pos (starEach es X.env)).any (·.1) = false := by rfl) : DE K E X (.Call (.Name x p) (e :: es) [] pos) (m.bind fun ds => M.lift (g ds)) := ⟨fun hK => by
  refine PE.imp (pe_callB (hc hK) hg hm hv (ha.pa hK) hn hdb he hpl) fun σ H Q ⟨F, O, G, r, out, P, em, f⟩ => ?_
  refine tM.run P f em fun ds r1 xs G1 H1 P1 g1 q1 e1 f1 => ?_
  obtain ⟨z, hz, rfl⟩ := lift_ok e1
  exact ⟨G1, ds, z, P1.sub, q1, hz, fun v G' H' p q => f1.ok p P1 q⟩⟩
theorem de_callTy {x : Str} {p : Pos} {T : String} {g : List PyData → Option PyData} (hc : CallD K X (.type T) g) (hg : Gl X x) (hm : X.mg x = none) (hv : bootBuiltins x = some (.type T)) (ha : DA K E X (e :: es) m) (hn : x ≠ "__name__" := by decide) (hdb : (x == ("__debug__" : Str)) = false := by decide)
    (he : starEach (e :: es) X.env = (false, eval e X.env) :: starEach es X.env := by rfl) (hpl : (backTo pos (starEach es X.env)).any (·.1) = false := by rfl) : DE K E X (.Call (.Name x p) (e :: es) [] pos) (m.bind fun ds => M.lift (g ds)) := ⟨fun hK => by
  refine PE.imp (pe_callTy (hc hK) hg hm hv (ha.pa hK) hn hdb he hpl) fun σ H Q ⟨F, O, G, r, out, P, em, f⟩ => ?_
  refine tM.run P f em fun ds r1 xs G1 H1 P1 g1 q1 e1 f1 => ?_
  obtain ⟨z, hz, rfl⟩ := lift_ok e1
  exact ⟨G1, ds, z, P1.sub, q1, hz, fun v G' H' p q => f1.ok p P1 q⟩⟩
theorem df_callTy {x : Str} {p : Pos} {T : String} {g : List PyData → Option (List PyData)} (hc : CallF K X (.type T) g) (hg : Gl X x) (hm : X.mg x = none) (hv : bootBuiltins x = some (.type T)) (ha : DA K E X (e :: es) m) (hn : x ≠ "__name__" := by decide) (hdb : (x == ("__debug__" : Str)) = false := by decide)
    (he : starEach (e :: es) X.env = (false, eval e X.env) :: starEach es X.env := by rfl) (hpl : (backTo pos (starEach es X.env)).any (·.1) = false := by rfl) : DF K E X (.Call (.Name x p) (e :: es) [] pos) (m.bind fun ds => M.lift (g ds)) := ⟨fun hK => by
  refine PE.imp (pe_callTy (hc hK) hg hm hv (ha.pa hK) hn hdb he hpl) fun σ H Q ⟨F, O, G, r, out, P, em, f⟩ => ?_
  refine tM.run P f em fun ds r1 xs G1 H1 P1 g1 q1 e1 f1 => ?_
  obtain ⟨z, hz, rfl⟩ := lift_ok e1
  exact ⟨G1, ds, z, P1.sub, q1, hz, fun p ys G' H' ps gp hp e2 q => f1.ok ps P1 ⟨p, ys, rfl, hp, gp, P1.nf _ hp, fun i z => (P1.on i p z).2.2.1 hp, e2, q⟩⟩⟩
/-- isinstance(e, T) -/
theorem de_isi {T : Str} {n : String} {p p2 : Pos} (hT : n ∈ ["int", "bool", "list", "tuple", "str"]) (hg : Gl X "isinstance") (hm : X.mg "isinstance" = none) (hgT : Gl X T) (hmT : X.mg T = none) (hvT : bootBuiltins T = some (.type n)) (ha : DE K E X e ma) (hn : T ≠ "__name__" := by decide) (hdb : (T == ("__debug__" : Str)) = false := by decide)
    (hs1 : starEach [e, .Name T p2] X.env = (false, eval e X.env) :: starEach [.Name T p2] X.env := by rfl) (hs2 : starEach [.Name T p2] X.env = (false, eval (.Name T p2) X.env) :: starEach [] X.env := by rfl) (hpl : (backTo pos (starEach [.Name T p2] X.env)).any (·.1) = false := by rfl) :
    DE K E X (.Call (.Name "isinstance" p) [e, .Name T p2] [] pos) (ma.bind fun d => M.ret (.bool (isTy n d))) := ⟨fun hK => by
  refine PE.imp (pe_callB (call_isiDK (K := K) n hK hT) hg hm (by decide +kernel) (pa_cons (ha.pe hK) (pa_cons (pe_bltn (v := .ty n) hgT hmT hvT rfl hn hdb) pa_nil hs2) hs1) (by decide) (by decide) hs1 hpl) fun σ H Q ⟨F, O, G, r, out, P, em, f⟩ => ?_
  refine tM.run P f em fun d r1 x G1 H1 P1 g1 q1 e1 f1 => ?_
  cases e1
  exact ⟨x, d, rfl, (q1.sm P1.sub).dp, f1.ok (Ps.refl P1.sub) P1 (.bl _)⟩⟩
def IxD (K : PySem.W.Frag) (X : Cx) (g : PyData → PyData → Option PyData) : Prop := X.K = K → IxR X (rPure2 K g)
theorem de_ix {g : PyData → PyData → Option PyData} (hr : IxD K X g) (ha : DE K E X a ma) (hb : DE K E X b mb) (hs : PlainIx b) : DE K E X (.Subscript a b pos) (ma.bind fun d => mb.bind fun e => M.lift (g d e)) := ⟨fun hK => PE.imp (pe_ix (hr hK) (ha.pe hK) (hb.pe hK) hs) fun σ H Q ⟨F, O, G, r, out, P, em, f⟩ => by
  refine tM.run P f em fun d r1 x G1 H1 P1 g1 q1 e1 f1 => ?_
  refine tM.run P1 f1 e1 fun ds r2 y G2 H2 P2 g2 q2 e2 f2 => ?_
  obtain ⟨z, hz, rfl⟩ := lift_ok e2
  exact ⟨G2, _, _, z, P2.sub, q1.sm g2.gg, q2, hz, fun v G' H' p q => f2.ok p P2 q⟩⟩
def ixM : PyData → PyData → Option PyData
  | .list ds, .int i => atI ds i
  | .tuple ds, .int i => atI ds i
  | _, _ => none
theorem atI_dq {G : Hp} {vs : List V} {ds : List PyData} {i : Int} {d : PyData} (h : DqAll K G vs ds) (e : atI ds i = some d) : ∃ v, atI vs i = some v ∧ Dq K G v d := by
  unfold atI at e ⊢
  rw [h.length]
  obtain ⟨j, h1, h2⟩ := Option.bind_eq_some_iff.mp e
  obtain ⟨v, h3, h4⟩ := h.get h2
  exact ⟨v, by rw [h1]; exact h3, h4⟩
theorem ixd : IxD K X ixM := fun hK => by
  subst hK
  intro val sl pins s σ H x y v u Q I rx ry h hps
  obtain ⟨G, d, e, z, sg, hd, he, hz, q⟩ := h
  cases d with
  | list ds =>
    cases e with
    | int i =>
      cases hd with
      | lst hs ha =>
        cases he
        obtain ⟨w, h1, h2⟩ := atI_dq ha hz
        exact ix_list val sl pins s σ H _ _ v u Q I rx ry ⟨_, _, _, w, rfl, rfl, (sg.seq hs), h1, q w G H (Ps.refl sg) h2⟩ hps
    | _ => cases hz
  | tuple ds =>
    cases e with
    | int i =>
      cases hd with
      | tup hs ha =>
        cases he
        obtain ⟨w, h1, h2⟩ := atI_dq ha hz
        exact ix_tup val sl pins s σ H _ _ v u Q I rx ry ⟨_, _, _, w, rfl, rfl, Lk.Same.tup sg hs, h1, q w G H (Ps.refl sg) h2⟩ hps
    | _ => cases hz
  | _ => cases hz
/-- a slice -/
structure DO (K : PySem.W.Frag) (E : XE) (X : Cx) (e : Option Expr) (m : M (Option Int)) : Prop where
  po : X.K = K → PO X e (tM K E (fun _ _ _ _ _ (b c : Option Int) => b = c) m)
instance : Anti (fun _ _ _ _ _ (b c : Option Int) => b = c) := ⟨fun _ h => h⟩
def asInt : PyData → Option Int
  | .int i => some i
  | _ => none
theorem asInt_some {d : PyData} {i : Int} (h : asInt d = some i) : d = .int i := by
  cases d <;> first | (cases h; rfl) | cases h
theorem PO.imp {e : Option Expr} {t t' : TO} (h : PO X e t) (i : ∀ σ H Q, t' σ H Q → t σ H Q) : PO X e t' := ⟨fun pins s σ H Q I q => h.run pins s σ H Q I (i _ _ _ q)⟩
theorem do_none : DO K E X none (M.ret none) := ⟨fun _ => PO.imp po_none fun σ H Q ⟨F, O, G, r, out, P, em, f⟩ => by
  cases em
  exact f.ok (Ps.refl P.sub) P rfl⟩
theorem do_some (ha : DE K E X e ma) : DO K E X (some e) (ma.bind fun d => M.lift ((asInt d).map some)) := ⟨fun hK => PO.imp (po_some (ha.pe hK)) fun σ H Q ⟨F, O, G, r, out, P, em, f⟩ => by
  refine tM.run P f em fun d r1 x G1 H1 P1 g1 q1 e1 f1 => ?_
  obtain ⟨z, hz, rfl⟩ := lift_ok e1
  obtain ⟨i, hi, rfl⟩ := Option.map_eq_some_iff.mp hz
  cases asInt_some hi
  cases q1
  exact ⟨i, rfl, f1.ok (Ps.refl P1.sub) P1 rfl⟩⟩
def cutD (xs : List PyData) (lo hi : Option Int) : List PyData := (xs.drop (HT.sIx xs.length 0 lo)).take (HT.sIx xs.length xs.length hi - HT.sIx xs.length 0 lo)
theorem DqAll.cut {G : Hp} {vs : List V} {ds : List PyData} (h : DqAll K G vs ds) (lo hi : Option Int) : DqAll K G (cutV vs lo hi) (cutD ds lo hi) := by
  unfold cutV cutD
  rw [h.length]
  exact (h.drop _).take _
def asList : PyData → Option (List PyData)
  | .list ds => some ds
  | _ => none
theorem asList_some {d : PyData} {ds : List PyData} (h : asList d = some ds) : d = .list ds := by
  cases d <;> first | (cases h; rfl) | cases h
theorem df_slice {lo hi : Option Expr} {ml mh : M (Option Int)} {p2 : Pos} (ha : DE K E X e ma) (hl : DO K E X lo ml) (hh : DO K E X hi mh) :
    DF K E X (.Subscript e (.Slice lo hi none p2) pos) (ma.bind fun d => ml.bind fun l => mh.bind fun h => M.lift ((asList d).map fun ds => cutD ds l h)) := ⟨fun hK => by
  subst hK
  refine PE.imp (pe_slice sl_listN (ha.pe rfl) (hl.po rfl) (hh.po rfl)) fun σ H Q ⟨F, O, G, r, out, P, em, f⟩ => ?_
  refine tM.run P f em fun d r1 x G1 H1 P1 g1 q1 e1 f1 => ?_
  refine tM.run P1 f1 e1 fun l r2 l' G2 H2 P2 g2 q2 e2 f2 => ?_
  refine tM.run P2 f2 e2 fun h r3 h' G3 H3 P3 g3 q3 e3 f3 => ?_
  cases q2
  cases q3
  obtain ⟨z, hz, rfl⟩ := lift_ok e3
  obtain ⟨ds, hd, rfl⟩ := Option.map_eq_some_iff.mp hz
  cases asList_some hd
  have q1' := (q1.sm g2.gg).sm g3.gg
  cases q1' with
  | lst hs hx => exact ⟨_, _, rfl, (P3.sub.seq hs), fun p H4 s n e4 => f3.ok (Ps.of_same P3.sub s) P3 ⟨p, _, rfl, n, P3.sub.free n, P3.nf _ n, fun i z => (P3.on i p z).2.2.1 n, e4, hx.cut _ _⟩⟩⟩
def asTup : PyData → Option (List PyData)
  | .tuple ds => some ds
  | _ => none
theorem asTup_some {d : PyData} {ds : List PyData} (h : asTup d = some ds) : d = .tuple ds := by
  cases d <;> first | (cases h; rfl) | cases h
end
end DL
namespace DL
open PySem PySem.Spec PyProof.Rows L2 Lk
section
variable {K : PySem.W.Frag} {X : Cx}
theorem Inv.rdl {pins : List (Addr × Obj)} {σ : L2.St} {H : Hp} {s : Shared} {l : Addr} {xs : List V} (I : Inv X pins σ H s) (h : Rd H l (.lst xs)) : xs.length ≤ sizeLine ∧ ∃ (its : List Value) (n : Nat), Vals xs its ∧ xs.length = its.length ∧ s.heap.get? l = some { cls := .type "list", data := .seq its.toArray n } := by
  obtain ⟨z, its, n, r, e⟩ := h.ok I.hok
  exact ⟨z, its, n, r, r.length, e⟩
theorem op_catR : OpR X (binaryOp .Add) (fun x y H Q => ∃ l b xs zs, x = .ref l ∧ y = .ref b ∧ SqL X.K H l xs ∧ SqL X.K H b zs ∧ xs.length + zs.length ≤ sizeLine ∧ New (.lst (xs ++ zs)) H Q) := by
  intro pins s σ H x y v u Q I rx ry h
  obtain ⟨l, b, xs, zs, rfl, rfl, hH, hB, hz, q⟩ := h
  cases rx
  cases ry
  obtain ⟨its, r, ⟨⟨cls, dd, data, sl⟩, n, ho, hc, _, hd⟩, hl⟩ := I.list hH
  obtain ⟨its2, r2, ⟨⟨cls2, dd2, data2, sl2⟩, n2, ho2, hc2, _, hd2⟩, hl2⟩ := I.list hB
  simp only at hc hd hc2 hd2
  subst hc hd hc2 hd2
  have e : its.toArray ++ its2.toArray = (its ++ its2).toArray := by simp
  have l1 := r.length
  have l2 := r2.length
  refine concat_meets ⟨_, ho, rfl⟩ ⟨_, ho2, rfl⟩ noFill_list_add seq_list_add PySem.F.slot_list_add PySem.F.entry_list_add (PySem.F.args_list_add_2 _ _) (list_addW l b its.toArray its2.toArray n n2 dd dd2 sl sl2 (by rw [List.size_toArray, List.size_toArray]; omega)) ⟨ho, ho2, ?_⟩
  rw [e]
  exact ⟨.ref _, _, I.lnew (t' := s.toks) (r.append r2) (by rw [List.length_append]; omega), rfl, new_of q _ I.fresh⟩
theorem op_repR : OpR X (binaryOp .Mult) (fun x y H Q => ∃ l k xs, x = .ref l ∧ y = .int k ∧ Rd H l (.lst xs) ∧ -(2 ^ 63) ≤ k ∧ k < 2 ^ 63 ∧ xs.length * k.toNat ≤ sizeLine ∧ New (.lst (List.replicate k.toNat xs).flatten) H Q) := by
  intro pins s σ H x y v u Q I rx ry h
  obtain ⟨l, k, xs, rfl, rfl, hH, h1, h2, hz, q⟩ := h
  cases rx
  obtain ⟨t, rfl⟩ := ry
  obtain ⟨z, its, n, r, hl, e⟩ := Inv.rdl I hH
  have hlen : its.toArray.size * k.toNat ≤ sizeLine := by rw [List.size_toArray, ← hl]; exact hz
  have hcap : ¬ its.toArray.size * k.toNat > (2 ^ 63 - 1) / 8 := by
    have : (sizeLine : Nat) ≤ (2 ^ 63 - 1) / 8 := by decide
    omega
  have hfit : ¬ (!Builtin.List.listFitsIndex k) = true := by
    rw [fitsIndex_both h1 h2]
    exact Bool.false_ne_true
  have hlong : ¬ Builtin.List.listTooLong (its.toArray.size * k.toNat) = true := by
    rw [notLongL hlen]
    exact Bool.false_ne_true
  have hnew : List.foldl (fun x1 x2 => x1 ++ x2) #[] (List.replicate (if its.toArray.isEmpty = true then 0 else k.toNat) its.toArray) = (List.replicate k.toNat its).flatten.toArray := by
    have f0 : ∀ m : Nat, List.foldl (fun x1 x2 => x1 ++ x2) #[] (List.replicate m its.toArray) = (List.replicate m its).flatten.toArray := fun m => by
      have := foldl_rep its m []
      rw [List.nil_append] at this
      exact this
    rw [f0]
    cases its with
    | nil => simp
    | cons a r' => rw [if_neg (by simp)]
  refine wpAny_binaryOp_repeat_ref (T := "list") (U := "int") (by decide) ⟨_, e, rfl⟩ (fun s' => typeIs_int s' k t) noFill_list_mul F.fills_int_mul F.slot_int_rmul repeat_list F.slot_int_index.lookup
    (call_meets F.slot_int_rmul (typeIs_int s k t) F.entry_int_rmul (F.args_int_rmul_2 _ _) (int___rmul___int_list k t l its.toArray n)
      ⟨e, rfl, ⟨_, e, rfl⟩, call_meets F.slot_list_mul ⟨_, e, rfl⟩ F.entry_list_mul (F.args_list_mul_2 _ _) (AutoListH.list___mul___list_int_3 l its.toArray n k t hfit hcap hlong) ⟨e, ?_⟩⟩)
  rw [hnew]
  exact ⟨.ref _, _, I.lnew (t' := s.toks) (r.rep k.toNat) (by rw [PyProof.Rows.lm_len_rep_flat, Nat.mul_comm]; exact hz), rfl, new_of q _ I.fresh⟩
end
def addM : PyData → PyData → Option PyData
  | .int a, .int b => some (.int (a + b))
  | .int a, .bool b => some (.int (a + b2i b))
  | .str a, .str b => if a.length + b.length ≤ 1000000 then some (.str (a ++ b)) else none
  | .list xs, .list ys => if xs.length + ys.length ≤ 1000000 then some (.list (xs ++ ys)) else none
  | .tuple xs, .tuple ys => if xs.length + ys.length ≤ 1000000 then some (.tuple (xs ++ ys)) else none
  | _, _ => none
def subM : PyData → PyData → Option PyData
  | .int a, .int b => some (.int (a - b))
  | _, _ => none
def mulM : PyData → PyData → Option PyData
  | .int a, .int b => if a.natAbs.log2 + b.natAbs.log2 < 130000000 then some (.int (a * b)) else none
  | _, _ => none
def divM : PyData → PyData → Option PyData
  | .int a, .int b => if 0 < b ∧ b.natAbs.log2 < 9000 then some (.int (a / b)) else none
  | _, _ => none
def modM : PyData → PyData → Option PyData
  | .int a, .int b => if 0 < b then some (.int (a % b)) else none
  | _, _ => none
def powM : PyData → PyData → Option PyData
  | .int a, .int b => if 0 ≤ b ∧ b ≤ 1000 ∧ a.natAbs < 2 ^ 64 then some (.int (a ^ b.toNat)) else none
  | _, _ => none
def eqM (d e : PyData) : Option PyData := if SeqAt.shaped d && SeqAt.shaped e then some (.bool (PyData.eqv d e)) else none
def neM (d e : PyData) : Option PyData := if SeqAt.shaped d && SeqAt.shaped e then some (.bool (!PyData.eqv d e)) else none
def ltM : PyData → PyData → Option PyData
  | .int a, .int b => some (.bool (decide (a < b)))
  | _, _ => none
def leM : PyData → PyData → Option PyData
  | .int a, .int b => some (.bool (decide (a ≤ b)))
  | _, _ => none
def gtM : PyData → PyData → Option PyData
  | .int a, .int b => some (.bool (decide (b < a)))
  | _, _ => none
def geM : PyData → PyData → Option PyData
  | .int a, .int b => some (.bool (decide (b ≤ a)))
  | _, _ => none
def isNone : PyData → Bool
  | .none => true
  | _ => false
def isM (d e : PyData) : Option PyData := if isNone e then some (.bool (isNone d)) else none
def isNotM (d e : PyData) : Option PyData := if isNone e then some (.bool (!isNone d)) else none
def flatD : PyData → Bool
  | .none => true
  | .bool _ => true
  | .int _ => true
  | .str _ => true
  | _ => false
def memD (d : PyData) (ds : List PyData) : Bool := ds.any fun z => PyData.eqv z d
def inM : PyData → PyData → Option PyData
  | d, .list ds => if SeqAt.shaped d && SeqAt.shaped (.list ds) then some (.bool (memD d ds)) else none
  | d, .tuple ds => if flatD d && ds.all flatD then some (.bool (memD d ds)) else if SeqAt.shaped d && SeqAt.shaped (.tuple ds) then some (.bool (memD d ds)) else none
  | _, _ => none
def notInM : PyData → PyData → Option PyData
  | d, .list ds => if SeqAt.shaped d && SeqAt.shaped (.list ds) then some (.bool (!memD d ds)) else none
  | d, .tuple ds => if flatD d && ds.all flatD then some (.bool (!memD d ds)) else if SeqAt.shaped d && SeqAt.shaped (.tuple ds) then some (.bool (!memD d ds)) else none
  | _, _ => none
section
variable {K : PySem.W.Frag} {X : Cx} {G H : Hp}
theorem dq_none {v : V} {d : PyData} (h : Dq K G v d) : decide (v = .non) = isNone d := by
  cases h <;> rfl
theorem opd_add : OpD K X (binaryOp .Add) addM := fun hK => by
  subst hK
  intro pins s σ H x y v u Q I rx ry h
  obtain ⟨G, d, e, z, sg, hd, he, hz, q⟩ := h
  unfold addM at hz
  split at hz
  · cases hz; cases hd; cases he
    exact op_add pins s σ H _ _ v u Q I rx ry ⟨_, _, rfl, rfl, q _ G H (Ps.refl sg) (.int _)⟩
  · cases hz; cases hd; cases he
    exact op_add_ib pins s σ H _ _ v u Q I rx ry ⟨_, _, rfl, rfl, q _ G H (Ps.refl sg) (.int _)⟩
  · split at hz
    · rename_i hl
      cases hz; cases hd; cases he
      exact op_add_str pins s σ H _ _ v u Q I rx ry ⟨_, _, rfl, rfl, line_le hl, q _ G H (Ps.refl sg) (.str _)⟩
    · cases hz
  · split at hz
    · rename_i hl
      cases hz
      cases hd with
      | lst hs ha =>
        cases he with
        | lst hs2 ha2 =>
          refine op_catR pins s σ H _ _ v u Q I rx ry ⟨_, _, _, _, rfl, rfl, sg.seq hs, sg.seq hs2, line_le (by rw [ha.length, ha2.length]; exact hl), fun p H' sm n e' => ?_⟩
          exact q _ _ H' (Ps.new sg sm n e') (.lst (.inl (.inl upd_same)) ((ha.append ha2).sm (same_new (sg.free n))))
    · cases hz
  · split at hz
    · rename_i hl
      cases hz
      cases hd with
      | tup hs ha =>
        cases he with
        | tup hs2 ha2 =>
          refine op_catA pins s σ H _ _ v u Q I rx ry ⟨_, _, _, _, rfl, rfl, Lk.Same.tup sg hs, Lk.Same.tup sg hs2, line_le (by rw [ha.length, ha2.length]; exact hl), fun e0 => ?_, fun _ e0 => ?_, fun _ _ p n => ?_⟩
          · subst e0
            cases ha
            exact q _ _ _ (Ps.refl sg) (.tup hs2 ha2)
          · subst e0
            cases ha2
            rw [List.append_nil] at q
            exact q _ _ _ (Ps.refl sg) (.tup hs ha)
          · exact q _ _ _ (Ps.new sg (same_new n) n upd_same) (.tup (.inl (.inl upd_same)) ((ha.append ha2).sm (same_new (sg.free n))))
    · cases hz
  · cases hz
theorem opd_sub : OpD K X (binaryOp .Sub) subM := fun hK => by
  intro pins s σ H x y v u Q I rx ry h
  obtain ⟨G, d, e, z, sg, hd, he, hz, q⟩ := h
  unfold subM at hz
  split at hz
  · cases hz; cases hd; cases he
    exact op_sub pins s σ H _ _ v u Q I rx ry ⟨_, _, rfl, rfl, q _ G H (Ps.refl sg) (.int _)⟩
  · cases hz
theorem mulB_ok {i j : Int} (h : i.natAbs.log2 + j.natAbs.log2 < 130000000) : IntMulOk i j := by
  have b : ∀ x : Int, Builtin.Int.intBits x ≤ x.natAbs.log2 + 1 := fun x => by
    unfold Builtin.Int.intBits
    split <;> omega
  have h1 := b i
  have h2 := b j
  have e : bitsLine = 134217728 := by decide
  unfold IntMulOk
  intro z
  rw [Bool.and_eq_true] at z
  have z2 := z.2
  unfold Builtin.Int.intTooBig at z2
  have z3 := of_decide_eq_true z2
  rw [e] at z3
  omega
theorem opd_mul : OpD K X (binaryOp .Mult) mulM := fun hK => by
  intro pins s σ H x y v u Q I rx ry h
  obtain ⟨G, d, e, z, sg, hd, he, hz, q⟩ := h
  unfold mulM at hz
  split at hz
  · split at hz
    · rename_i hl
      cases hz; cases hd; cases he
      exact opI (C := fun i j : Int => i.natAbs.log2 + j.natAbs.log2 < 130000000) (g := fun i j => i * j) (fun _ _ _ _ _ _ _ hc q => mul_int q (mulB_ok hc)) pins s σ H _ _ v u Q I rx ry ⟨_, _, rfl, rfl, hl, q _ G H (Ps.refl sg) (.int _)⟩
    · cases hz
  · cases hz
theorem opd_div : OpD K X (binaryOp .FloorDiv) divM := fun hK => by
  intro pins s σ H x y v u Q I rx ry h
  obtain ⟨G, d, e, z, sg, hd, he, hz, q⟩ := h
  unfold divM at hz
  split at hz
  · split at hz
    · rename_i hl
      cases hz; cases hd; cases he
      exact op_fdivW pins s σ H _ _ v u Q I rx ry ⟨_, _, rfl, rfl, hl, q _ G H (Ps.refl sg) (.int _)⟩
    · cases hz
  · cases hz
theorem opd_mod : OpD K X (binaryOp .Mod) modM := fun hK => by
  intro pins s σ H x y v u Q I rx ry h
  obtain ⟨G, d, e, z, sg, hd, he, hz, q⟩ := h
  unfold modM at hz
  split at hz
  · split at hz
    · rename_i hl
      cases hz; cases hd; cases he
      exact op_mod pins s σ H _ _ v u Q I rx ry ⟨_, _, rfl, rfl, hl, q _ G H (Ps.refl sg) (.int _)⟩
    · cases hz
  · cases hz
theorem opd_pow : OpD K X (binaryOp .Pow) powM := fun hK => by
  intro pins s σ H x y v u Q I rx ry h
  obtain ⟨G, d, e, z, sg, hd, he, hz, q⟩ := h
  unfold powM at hz
  split at hz
  · split at hz
    · rename_i hl
      cases hz; cases hd; cases he
      exact op_pow pins s σ H _ _ v u Q I rx ry ⟨_, _, rfl, rfl, ⟨hl.1, by omega, hl.2.2⟩, q _ G H (Ps.refl sg) (.int _)⟩
    · cases hz
  · cases hz
theorem opd_eq {k : Nat} (hr : Room k X.A) : OpD K X (compareOp .Eq) eqM := fun hK => by
  subst hK
  intro pins s σ H x y v u Q I rx ry h
  obtain ⟨G, d, e, z, sg, hd, he, hz, q⟩ := h
  unfold eqM at hz
  split at hz
  · rename_i hs
    rw [Bool.and_eq_true] at hs
    cases hz
    exact op_eqD hr.units pins s σ H _ _ v u Q I rx ry ⟨d, e, (hd.sm sg).dp, (he.sm sg).dp, hs.1, hs.2, q _ G H (Ps.refl sg) (.bl _)⟩
  · cases hz
theorem opd_ne {k : Nat} (hr : Room k X.A) : OpD K X (compareOp .NotEq) neM := fun hK => by
  subst hK
  intro pins s σ H x y v u Q I rx ry h
  obtain ⟨G, d, e, z, sg, hd, he, hz, q⟩ := h
  unfold neM at hz
  split at hz
  · rename_i hs
    rw [Bool.and_eq_true] at hs
    cases hz
    exact op_neD hr.units pins s σ H _ _ v u Q I rx ry ⟨d, e, (hd.sm sg).dp, (he.sm sg).dp, hs.1, hs.2, q _ G H (Ps.refl sg) (.bl _)⟩
  · cases hz
theorem opd_lt : OpD K X (compareOp .Lt) ltM := fun hK => by
  intro pins s σ H x y v u Q I rx ry h
  obtain ⟨G, d, e, z, sg, hd, he, hz, q⟩ := h
  unfold ltM at hz
  split at hz
  · cases hz; cases hd; cases he
    exact op_lt pins s σ H _ _ v u Q I rx ry ⟨_, _, rfl, rfl, q _ G H (Ps.refl sg) (.bl _)⟩
  · cases hz
theorem opd_le : OpD K X (compareOp .LtE) leM := fun hK => by
  intro pins s σ H x y v u Q I rx ry h
  obtain ⟨G, d, e, z, sg, hd, he, hz, q⟩ := h
  unfold leM at hz
  split at hz
  · cases hz; cases hd; cases he
    exact op_le pins s σ H _ _ v u Q I rx ry ⟨_, _, rfl, rfl, q _ G H (Ps.refl sg) (.bl _)⟩
  · cases hz
theorem opd_gt : OpD K X (compareOp .Gt) gtM := fun hK => by
  intro pins s σ H x y v u Q I rx ry h
  obtain ⟨G, d, e, z, sg, hd, he, hz, q⟩ := h
  unfold gtM at hz
  split at hz
  · cases hz; cases hd; cases he
    exact op_gt pins s σ H _ _ v u Q I rx ry ⟨_, _, rfl, rfl, q _ G H (Ps.refl sg) (.bl _)⟩
  · cases hz
theorem opd_ge : OpD K X (compareOp .GtE) geM := fun hK => by
  intro pins s σ H x y v u Q I rx ry h
  obtain ⟨G, d, e, z, sg, hd, he, hz, q⟩ := h
  unfold geM at hz
  split at hz
  · cases hz; cases hd; cases he
    exact op_ge pins s σ H _ _ v u Q I rx ry ⟨_, _, rfl, rfl, q _ G H (Ps.refl sg) (.bl _)⟩
  · cases hz
theorem isNone_some {d : PyData} (h : isNone d = true) : d = .none := by
  cases d <;> first | rfl | cases h
theorem opd_isNot : OpD K X (compareOp .IsNot) isNotM := fun hK => by
  intro pins s σ H x y v u Q I rx ry h
  obtain ⟨G, d, e, z, sg, hd, he, hz, q⟩ := h
  unfold isNotM at hz
  split at hz
  · rename_i hn
    cases isNone_some hn
    cases hz; cases he
    exact op_notN pins s σ H _ _ v u Q I rx ry ⟨rfl, by rw [dq_none hd]; exact q _ G H (Ps.refl sg) (.bl _)⟩
  · cases hz
theorem dq_flat {v : V} {d : PyData} (h : Dq K G v d) (f : flatD d = true) : flatV v = true := by
  cases h <;> first | rfl | cases f
theorem dq_flats : ∀ {vs : List V} {ds : List PyData}, DqAll K G vs ds → ds.all flatD = true → vs.all flatV = true
  | _, _, .nil, _ => rfl
  | _, _, .cons h1 h2, f => by
    rw [List.all_cons, Bool.and_eq_true] at f
    rw [List.all_cons, dq_flat h1 f.1, dq_flats h2 f.2]
    rfl
theorem dq_eqV {v w : V} {d e : PyData} (h : Dq K G v d) (h' : Dq K G w e) (f : flatD d = true) (f' : flatD e = true) : eqV v w = PyData.eqv d e := by
  cases h <;> cases h' <;> first | rfl | (cases f) | (cases f') | (simp [eqV, PyData.eqv])
theorem dq_inV {x : V} {d : PyData} (hx : Dq K G x d) (f : flatD d = true) : ∀ {vs : List V} {ds : List PyData}, DqAll K G vs ds → ds.all flatD = true → inV x vs = memD d ds
  | _, _, .nil, _ => rfl
  | _, _, .cons h1 h2, g => by
    rw [List.all_cons, Bool.and_eq_true] at g
    have ih := dq_inV hx f h2 g.2
    unfold inV memD at ih ⊢
    rw [List.any_cons, List.any_cons, ih, dq_eqV h1 hx g.1 f]
def rInDT (K : PySem.W.Frag) (neg : Bool) : R2 := fun x y H Q => ∃ d ds, Dp K H x d ∧ Dp K H y (.tuple ds) ∧ SeqAt.shaped d = true ∧ SeqAt.shaped (.tuple ds) = true ∧ Q (.bl (if neg then !ds.any fun z => PyData.eqv z d else ds.any fun z => PyData.eqv z d)) H
theorem op_inDT (hu : X.A.units + 65 < cLine) : OpR X (compareOp .In) (rInDT X.K false) := by
  intro pins s σ H x y v u Q I rx ry h
  obtain ⟨d, ds, hd, he, sd, se, q⟩ := h
  obtain ⟨as, r1⟩ := Dp.reads I d x v hd rx
  obtain ⟨bs, r2⟩ := Dp.reads I (.tuple ds) y u he ry
  exact SeqAt.in_tuple_reads r2 r1 (SeqAt.canLay_of_shaped se) (SeqAt.canLay_of_shaped sd) (room_in_shaped sd hu) ⟨.bl _, H, I, rfl, q⟩
theorem opd_in {k : Nat} (hr : Room k X.A) : OpD K X (compareOp .In) inM := fun hK => by
  subst hK
  intro pins s σ H x y v u Q I rx ry h
  obtain ⟨G, d, e, z, sg, hd, he, hz, q⟩ := h
  have hu : X.A.units + 65 < cLine := by have := hr.un; omega
  unfold inM at hz
  split at hz
  · split at hz
    · rename_i hs
      rw [Bool.and_eq_true] at hs
      cases hz
      exact op_inD hu pins s σ H _ _ v u Q I rx ry ⟨_, _, (hd.sm sg).dp, (he.sm sg).dp, hs.1, hs.2, q _ G H (Ps.refl sg) (.bl _)⟩
    · cases hz
  · split at hz
    · rename_i hs
      rw [Bool.and_eq_true] at hs
      cases hz
      cases he with
      | tup ht ha =>
        refine op_in_seq pins s σ H _ _ v u Q I rx ry ⟨_, _, rfl, .inr (Lk.Same.tup sg ht), dq_flat hd hs.1, dq_flats ha hs.2, ?_⟩
        rw [if_neg Bool.false_ne_true, dq_inV hd hs.1 ha hs.2]
        exact q _ G H (Ps.refl sg) (.bl _)
    · split at hz
      · rename_i hs
        rw [Bool.and_eq_true] at hs
        cases hz
        exact op_inDT hu pins s σ H _ _ v u Q I rx ry ⟨_, _, (hd.sm sg).dp, (he.sm sg).dp, hs.1, hs.2, q _ G H (Ps.refl sg) (.bl _)⟩
      · cases hz
  · cases hz
end
/-- [a, ..] * k -/
def repM (xs : List PyData) : PyData → Option (List PyData)
  | .int k => if k.natAbs ≤ 1000000 ∧ xs.length * k.toNat ≤ 1000000 then some (List.replicate k.toNat xs).flatten else none
  | _ => none
theorem df_rep {K : PySem.W.Frag} {E : XE} {X : Cx} {a b : Expr} {ml : M (List PyData)} {mb : M PyData} {pos : Pos} (ha : DF K E X a ml) (hb : DE K E X b mb) : DF K E X (.BinOp a .Mult b pos) (ml.bind fun xs => mb.bind fun d => M.lift (repM xs d)) := ⟨fun hK => by
  subst hK
  refine PE.imp (pe_op op_repR (ha.pe rfl) (hb.pe rfl)) fun σ H Q ⟨F, O, G, r, out, P, em, f⟩ => ?_
  refine tM.run P f em fun xs r1 x G1 H1 P1 g1 q1 e1 f1 => ?_
  refine tM.run P1 f1 e1 fun d r2 y G2 H2 P2 g2 q2 e2 f2 => ?_
  obtain ⟨z, hz, rfl⟩ := lift_ok e2
  obtain ⟨p, vs, rfl, hs, hg, h0, ho, hp, hx⟩ := q1
  unfold repM at hz
  split at hz
  · split at hz
    · rename_i hl
      cases hz
      cases q2
      have hx2 := hx.sm g2.gg
      exact ⟨_, _, _, rfl, rfl, .inl (g2.keep _ _ hp ho), by omega, by omega, line_le (by rw [hx.length]; exact hl.2), fun q H' s n e' => f2.ok (Ps.of_same P2.sub s) P2 ⟨q, _, rfl, n, P2.sub.free n, P2.nf _ n, fun i z => (P2.on i q z).2.2.1 n, e', hx2.rep _⟩⟩
    · cases hz
  · cases hz⟩
/-- -a -/
def negM : PyData → Option PyData
  | .int a => some (.int (-a))
  | _ => none
section
variable {K : PySem.W.Frag} {E : XE} {X : Cx} {a b c e : Expr} {es : List Expr} {ma mb mc : M PyData} {pos : Pos}
/-- a < b < c -/
def mChain (f g : PyData → PyData → Option PyData) (ma mb mc : M PyData) : M PyData :=
  ma.bind fun d => mb.bind fun e => (M.lift ((f d e).bind asBool)).bind fun k => if k then mc.bind fun h => M.lift ((g e h).bind fun z => (asBool z).map PyData.bool) else M.ret (.bool false)
theorem de_chain {op op' : CmpOp} {f g : PyData → PyData → Option PyData} (ho : OpD K X (compareOp op) f) (ho' : OpD K X (compareOp op') g) (ha : DE K E X a ma) (hb : DE K E X b mb) (hc : DE K E X c mc)
    (h1 : lastMarks [op, op'] [b, c] = false := by with_unfolding_all rfl) : DE K E X (.Compare a [op, op'] [b, c] pos) (mChain f g ma mb mc) :=
  ⟨fun hK => PE.imp (pe_chain (ho hK) (ho' hK) (ha.pe hK) (hb.pe hK) (hc.pe hK) h1) fun σ H Q ⟨F, O, G, r, out, P, em, ff⟩ => by
  refine tM.run P ff em fun d r1 x G1 H1 P1 g1 q1 e1 f1 => ?_
  refine tM.run P1 f1 e1 fun ds r2 y G2 H2 P2 g2 q2 e2 f2 => ?_
  obtain ⟨k, hz, e3⟩ := bind_lift_ok e2
  obtain ⟨z, h1, h2⟩ := Option.bind_eq_some_iff.mp hz
  cases asBool_some h2
  refine ⟨G2, _, _, _, P2.sub, q1.sm g2.gg, q2, h1, fun v G' H' p q => ⟨k, dp_bool q, ?_⟩⟩
  have P2' := P2.ps p
  have f2' := f2.via (p.go : Go O G2 H2 G' H')
  cases k with
  | true =>
    refine iteT (tM.run P2' f2' e3 fun h r3 w G3 H3 P3 g3 q3 e4 f3 => ?_)
    obtain ⟨o, ho, rfl⟩ := lift_ok e4
    obtain ⟨z', h3, h4⟩ := Option.bind_eq_some_iff.mp ho
    obtain ⟨b', h5, rfl⟩ := Option.map_eq_some_iff.mp h4
    cases asBool_some h5
    exact ⟨G3, _, _, _, P3.sub, (q2.sm p.gg).sm g3.gg, q3, h3, fun v G' H' p q => f3.ok p P3 q⟩
  | false =>
    cases e3
    exact iteF (f2'.ok (Ps.refl P2'.sub) P2' (.bl _))⟩
end
end DL
namespace DL
open PySem PySem.Spec PyProof.Rows L2 Lk
def intsOf : List PyData → Option (List Int)
  | [] => some []
  | .int i :: ds => (intsOf ds).map (i :: ·)
  | _ :: _ => none
def boolsOf : List PyData → Option (List Bool)
  | [] => some []
  | .bool i :: ds => (boolsOf ds).map (i :: ·)
  | _ :: _ => none
theorem intsOf_some : ∀ {ds : List PyData} {ns : List Int}, intsOf ds = some ns → ds = ns.map PyData.int
  | [], _, h => by cases h; rfl
  | .int i :: ds, ns, h => by
    obtain ⟨ms, h1, rfl⟩ := Option.map_eq_some_iff.mp (show (intsOf ds).map (i :: ·) = some ns from h)
    rw [intsOf_some h1]
    rfl
  | .none :: _, _, h | .bool _ :: _, _, h | .str _ :: _, _, h | .list _ :: _, _, h | .tuple _ :: _, _, h | .dict _ :: _, _, h => by cases h
@[simp] theorem intsOf_map : ∀ ns : List Int, intsOf (ns.map PyData.int) = some ns
  | [] => rfl
  | n :: ns => by
    show (intsOf (ns.map PyData.int)).map (n :: ·) = _
    rw [intsOf_map ns]
    rfl
theorem boolsOf_some : ∀ {ds : List PyData} {ns : List Bool}, boolsOf ds = some ns → ds = ns.map PyData.bool
  | [], _, h => by cases h; rfl
  | .bool i :: ds, ns, h => by
    obtain ⟨ms, h1, rfl⟩ := Option.map_eq_some_iff.mp (show (boolsOf ds).map (i :: ·) = some ns from h)
    rw [boolsOf_some h1]
    rfl
  | .none :: _, _, h | .int _ :: _, _, h | .str _ :: _, _, h | .list _ :: _, _, h | .tuple _ :: _, _, h | .dict _ :: _, _, h => by cases h
@[simp] theorem boolsOf_map : ∀ ns : List Bool, boolsOf (ns.map PyData.bool) = some ns
  | [] => rfl
  | n :: ns => by
    show (boolsOf (ns.map PyData.bool)).map (n :: ·) = _
    rw [boolsOf_map ns]
    rfl
def lenM : List PyData → Option PyData
  | [.list ds] => some (.int ds.length)
  | [.tuple ds] => some (.int ds.length)
  | [.str x] => if x.length ≤ 1000000 then some (.int x.length) else none
  | _ => none
def sumM : List PyData → Option PyData
  | [.list ds] => (intsOf ds).map fun ns => .int ns.sum
  | _ => none
def allM : List PyData → Option PyData
  | [.list ds] => (boolsOf ds).map fun bs => .bool (bs.all id)
  | _ => none
def anyM : List PyData → Option PyData
  | [.list ds] => (boolsOf ds).map fun bs => .bool (bs.any id)
  | _ => none
def intM : List PyData → Option PyData
  | [.int a] => some (.int a)
  | [.bool b] => some (.int (if b then 1 else 0))
  | _ => none
def tupleM : List PyData → Option PyData
  | [.list ds] => some (.tuple ds)
  | [.tuple ds] => some (.tuple ds)
  | _ => none
def listM : List PyData → Option (List PyData)
  | [.list ds] => some ds
  | [.tuple ds] => some ds
  | _ => none
section
variable {K : PySem.W.Frag} {X : Cx}
theorem one_of {G : Hp} {vs : List V} {d : PyData} (h : DqAll K G vs [d]) : ∃ v, vs = [v] ∧ Dq K G v d := by
  cases h with
  | cons h1 h2 =>
    cases h2
    exact ⟨_, rfl, h1⟩
theorem two_of {G : Hp} {vs : List V} {d e : PyData} (h : DqAll K G vs [d, e]) : ∃ v w, vs = [v, w] ∧ Dq K G v d ∧ Dq K G w e := by
  cases h with
  | cons h1 h2 =>
    cases h2 with
    | cons h3 h4 =>
      cases h4
      exact ⟨_, _, rfl, h1, h3⟩
theorem lst_ints {G : Hp} {v : V} {ds : List PyData} {ns : List Int} (h : Dq K G v (.list ds)) (e : intsOf ds = some ns) : ∃ p, v = .ref p ∧ SqL K G p (ns.map V.int) := by
  cases h with
  | lst hs ha =>
    rw [intsOf_some e] at ha
    rw [ha.of_ints] at hs
    exact ⟨_, rfl, hs⟩
theorem lst_bools {G : Hp} {v : V} {ds : List PyData} {ns : List Bool} (h : Dq K G v (.list ds)) (e : boolsOf ds = some ns) : ∃ p, v = .ref p ∧ SqL K G p (ns.map V.bl) := by
  cases h with
  | lst hs ha =>
    rw [boolsOf_some e] at ha
    rw [ha.of_bools] at hs
    exact ⟨_, rfl, hs⟩
theorem cd_len : CallD K X (.builtin "len") lenM := fun hK => by
  subst hK
  intro pins s σ H xs us Q I r h
  obtain ⟨G, ds, z, sg, hd, hz, q⟩ := h
  unfold lenM at hz
  split at hz
  · cases hz
    obtain ⟨v, rfl, hv⟩ := one_of hd
    cases hv with
    | lst hs ha => exact call_len_seq pins s σ H _ us Q I r ⟨_, _, rfl, .inl ((sg.seq hs)), by rw [ha.length]; exact q _ G H (Ps.refl sg) (.int _)⟩
  · cases hz
    obtain ⟨v, rfl, hv⟩ := one_of hd
    cases hv with
    | tup hs ha => exact call_len_seq pins s σ H _ us Q I r ⟨_, _, rfl, .inr (Lk.Same.tup sg hs), by rw [ha.length]; exact q _ G H (Ps.refl sg) (.int _)⟩
  · split at hz
    · rename_i hl
      cases hz
      obtain ⟨v, rfl, hv⟩ := one_of hd
      cases hv
      exact call_len_str pins s σ H _ us Q I r ⟨_, rfl, line_le hl, q _ G H (Ps.refl sg) (.int _)⟩
    · cases hz
  · cases hz
theorem cd_sum (hc : X.calm = true) : CallD K X (.builtin "sum") sumM := fun hK => by
  subst hK
  intro pins s σ H xs us Q I r h
  obtain ⟨G, ds, z, sg, hd, hz, q⟩ := h
  unfold sumM at hz
  split at hz
  · obtain ⟨ns, hn, rfl⟩ := Option.map_eq_some_iff.mp hz
    obtain ⟨v, rfl, hv⟩ := one_of hd
    obtain ⟨p, rfl, hp⟩ := lst_ints hv hn
    exact cr_sum hc pins s σ H _ us Q I r ⟨p, ns, rfl, (sg.seq hp), q _ G H (Ps.refl sg) (.int _)⟩
  · cases hz
theorem cd_all (hc : X.calm = true) : CallD K X (.builtin "all") allM := fun hK => by
  subst hK
  intro pins s σ H xs us Q I r h
  obtain ⟨G, ds, z, sg, hd, hz, q⟩ := h
  unfold allM at hz
  split at hz
  · obtain ⟨ns, hn, rfl⟩ := Option.map_eq_some_iff.mp hz
    obtain ⟨v, rfl, hv⟩ := one_of hd
    obtain ⟨p, rfl, hp⟩ := lst_bools hv hn
    exact cr_all hc pins s σ H _ us Q I r ⟨p, ns, rfl, (sg.seq hp), q _ G H (Ps.refl sg) (.bl _)⟩
  · cases hz
theorem cd_int : CallD K X (.type "int") intM := fun hK => by
  intro pins s σ H xs us Q I r h
  obtain ⟨G, ds, z, sg, hd, hz, q⟩ := h
  unfold intM at hz
  split at hz
  · cases hz
    obtain ⟨v, rfl, hv⟩ := one_of hd
    cases hv
    exact call_int1 pins s σ H _ us Q I r (.inl ⟨_, rfl, q _ G H (Ps.refl sg) (.int _)⟩)
  · cases hz
    obtain ⟨v, rfl, hv⟩ := one_of hd
    cases hv
    exact call_int1 pins s σ H _ us Q I r (.inr ⟨_, rfl, q _ G H (Ps.refl sg) (.int _)⟩)
  · cases hz
theorem cd_tuple : CallD K X (.type "tuple") tupleM := fun hK => by
  subst hK
  intro pins s σ H xs us Q I r h
  obtain ⟨G, ds, z, sg, hd, hz, q⟩ := h
  unfold tupleM at hz
  split at hz
  · cases hz
    obtain ⟨v, rfl, hv⟩ := one_of hd
    cases hv with
    | lst hs ha => exact call_tuple_of pins s σ H _ us Q I r ⟨_, _, rfl, .inl ⟨(sg.seq hs), fun p n => q _ _ _ (Ps.new sg (same_new n) n upd_same) (.tup (.inl (.inl upd_same)) (ha.sm (same_new (sg.free n))))⟩⟩
  · cases hz
    obtain ⟨v, rfl, hv⟩ := one_of hd
    cases hv with
    | tup hs ha => exact call_tuple_of pins s σ H _ us Q I r ⟨_, _, rfl, .inr ⟨Lk.Same.tup sg hs, q _ _ _ (Ps.refl sg) (.tup hs ha)⟩⟩
  · cases hz
theorem cf_list : CallF K X (.type "list") listM := fun hK => by
  subst hK
  intro pins s σ H xs us Q I r h
  obtain ⟨G, ds, z, sg, hd, hz, q⟩ := h
  unfold listM at hz
  split at hz
  · cases hz
    obtain ⟨v, rfl, hv⟩ := one_of hd
    cases hv with
    | lst hs ha => exact call_listN pins s σ H _ us Q I r ⟨_, _, rfl, .inl ((sg.seq hs)), fun p H' sm n e => q p _ G H' (Ps.of_same sg sm) (sg.free n) n e ha⟩
  · cases hz
    obtain ⟨v, rfl, hv⟩ := one_of hd
    cases hv with
    | tup hs ha => exact call_listN pins s σ H _ us Q I r ⟨_, _, rfl, .inr (Lk.Same.tup sg hs), fun p H' sm n e => q p _ G H' (Ps.of_same sg sm) (sg.free n) n e ha⟩
  · cases hz
end
def Gives (K : PySem.W.Frag) (J : It) (items : List PyData) (G : Hp) : Prop := ∀ (i : Nat) (H' G1 : Hp), Same G G1 → Same G1 H' →
  (∀ d, items[i]? = some d → J.go i H' ∧ ∀ x H'', J.yld i H' x H'' → ∃ G2, Ps G1 H' G2 H'' ∧ Dq K G2 x d) ∧ (items.length ≤ i → J.stop i H')
def rIt (K : PySem.W.Frag) : RR It (List PyData) := fun _ _ _ G _ J items => Gives K J items G
instance {K : PySem.W.Frag} : Anti (rIt K) := ⟨fun _ h => h⟩
structure DI (K : PySem.W.Frag) (E : XE) (X : Cx) (tg iter : Expr) (m : M (List PyData)) : Prop where
  pi : X.K = K → PI X tg iter (tM K E (rIt K) m)
theorem PI.imp {X : Cx} {tg iter : Expr} {t t' : TI} (h : PI X tg iter t) (i : ∀ σ H Q, t' σ H Q → t σ H Q) : PI X tg iter t' := ⟨fun pins s σ H Q I q => h.run pins s σ H Q I (i _ _ _ q)⟩
def asSeq : PyData → Option (List PyData)
  | .list ds => some ds
  | .tuple ds => some ds
  | _ => none
section
variable {K : PySem.W.Frag} {E : XE} {X : Cx} {tg a b e : Expr} {es : List Expr} {ma mb : M PyData} {m : M (List PyData)} {pos : Pos}
theorem gives_list {G : Hp} {a : Addr} {xs : List V} {ds : List PyData} (hs : SqL K G a xs) (ha : DqAll K G xs ds) : Gives K (Itl K a) ds G := fun i H' G1 s1 s2 => by
  have hq : SqL K H' a xs := s2.seq (s1.seq hs)
  refine ⟨fun d hd => ?_, fun hl => ⟨xs, hq, by rw [ha.length]; exact hl⟩⟩
  obtain ⟨v, h1, h2⟩ := ha.get hd
  refine ⟨⟨xs, v, hq, h1⟩, fun x H'' y => ?_⟩
  obtain ⟨rfl, y⟩ := y
  rw [y xs hq] at h1
  cases h1
  exact ⟨G1, Ps.refl s2, h2.sm s1⟩
theorem gives_tup {G : Hp} {a : Addr} {xs : List V} {ds : List PyData} (hs : SqT K G a xs) (ha : DqAll K G xs ds) : Gives K (Itt K a) ds G := fun i H' G1 s1 s2 => by
  have hq : SqT K H' a xs := Lk.Same.tup s2 (Lk.Same.tup s1 hs)
  refine ⟨fun d hd => ?_, fun hl => ⟨xs, hq, by rw [ha.length]; exact hl⟩⟩
  obtain ⟨v, h1, h2⟩ := ha.get hd
  refine ⟨⟨xs, v, hq, h1⟩, fun x H'' y => ?_⟩
  obtain ⟨rfl, y⟩ := y
  rw [y xs hq] at h1
  cases h1
  exact ⟨G1, Ps.refl s2, h2.sm s1⟩
theorem di_seq (hl : DE K E X e ma) : DI K E X tg e (ma.bind fun d => M.lift (asSeq d)) := ⟨fun hK => by
  subst hK
  refine ⟨fun pins s σ H R I h => ?_⟩
  obtain ⟨F, O, G, r, out, P, em, f⟩ := h
  have q := tM.run (Q1 := fun (x : V) H1 => (∃ a, x = V.ref a ∧ (∃ xs, SqL X.K H1 a xs) ∧ R (Itl X.K a) H1) ∨ ∃ a, x = V.ref a ∧ (∃ xs, SqT X.K H1 a xs) ∧ R (Itt X.K a) H1) (R1 := rD X.K) P f em fun d r1 x G1 H1 P1 g1 q1 e1 f1 => by
    obtain ⟨ds, hz, rfl⟩ := lift_ok e1
    cases d <;> first | cases hz | skip
    · cases q1 with
      | lst hs ha => exact .inl ⟨_, rfl, ⟨_, (P1.sub.seq hs)⟩, f1.ok (Ps.refl P1.sub) P1 (gives_list hs ha)⟩
    · cases q1 with
      | tup hs ha => exact .inr ⟨_, rfl, ⟨_, Lk.Same.tup P1.sub hs⟩, f1.ok (Ps.refl P1.sub) P1 (gives_tup hs ha)⟩
  refine thn ((hl.pe rfl).run pins s σ H _ I q) fun v s1 ⟨x, H1, I1, r1, q1⟩ => ?_
  rcases q1 with ⟨a, e, ⟨xs, hq⟩, q⟩ | ⟨a, e, ⟨xs, hq⟩, q⟩
  · subst e
    cases r1
    obtain ⟨its, rv, p, hz⟩ := I1.list hq
    refine wpAny_pyIter_list p.isList ?_
    refine ⟨s1.heap.objs.size, [s1.heap.objs.size], _, _, H1, rfl, I1.kept (t' := s1.toks) fun b o e => Heap.get?_push_of_some _ e, turn_list a _, ⟨_, Heap.get?_push_size _ rfl, rfl, rfl⟩, fun b hb => ?_, q⟩
    have e : b = s1.heap.objs.size := by simpa using hb
    subst e
    exact I1.fpOk (Nat.le_refl _) (I1.hok.fresh (Nat.le_refl _))
  · subst e
    cases r1
    obtain ⟨its, rv, p, hz⟩ := I1.tuple hq
    refine wpAny_pyIter_tuple (show s1.heap.IsTuple a its.toArray from p) ?_
    refine ⟨s1.heap.objs.size, [s1.heap.objs.size], _, _, H1, rfl, I1.kept (t' := s1.toks) fun b o e => Heap.get?_push_of_some _ e, turn_tuple a _, ⟨_, Heap.get?_push_size _ rfl, rfl, rfl⟩, fun b hb => ?_, q⟩
    have e : b = s1.heap.objs.size := by simpa using hb
    subst e
    exact I1.fpOk (Nat.le_refl _) (I1.hok.fresh (Nat.le_refl _))⟩
def rngL (lo : Int) (n : Nat) : List PyData := (List.range n).map fun i => .int (lo + (i : Nat))
def rngM : List PyData → Option (List PyData)
  | [.int j] => if j.natAbs ≤ 1000000 then some (rngL 0 j.toNat) else none
  | [.int i, .int j] => if i.natAbs ≤ 1000000 ∧ j.natAbs ≤ 1000000 then some (rngL i (j - i).toNat) else none
  | _ => none
theorem rngL_at {lo : Int} {n i : Nat} {d : PyData} (h : (rngL lo n)[i]? = some d) : i < n ∧ d = .int (lo + (i : Nat)) := by
  unfold rngL at h
  rw [List.getElem?_map] at h
  obtain ⟨k, h1, rfl⟩ := Option.map_eq_some_iff.mp h
  obtain ⟨h2, h3⟩ := List.getElem?_eq_some_iff.mp h1
  rw [List.length_range] at h2
  rw [List.getElem_range] at h3
  exact ⟨h2, by rw [h3]⟩
theorem gives_range {G : Hp} {lo : Int} {n : Nat} : Gives K (Itr lo n) (rngL lo n) G := fun i H' G1 s1 s2 => by
  refine ⟨fun d hd => ?_, fun hl => ?_⟩
  · obtain ⟨h1, rfl⟩ := rngL_at hd
    refine ⟨h1, fun x H'' y => ?_⟩
    obtain ⟨rfl, rfl⟩ := y
    exact ⟨G1, Ps.refl s2, .int _⟩
  · rw [rngL, List.length_map, List.length_range] at hl
    exact hl
theorem di_range1 {p : Pos} (hg : Gl X "range") (hm : X.mg "range" = none) (ha : DA K E X [a] m) (hs : starEach [a] X.env = [(false, eval a X.env)] := by rfl) : DI K E X tg (.Call (.Name "range" p) [a] [] pos) (m.bind fun ds => M.lift (if ds.length = 1 then rngM ds else none)) :=
  ⟨fun hK => PI.imp (pi_range1 hg hm (ha.pa hK) hs) fun σ H Q ⟨F, O, G, r, out, P, em, f⟩ => by
  refine tM.run P f em fun ds r1 xs G1 H1 P1 g1 q1 e1 f1 => ?_
  obtain ⟨z, hz, rfl⟩ := lift_ok e1
  split at hz
  · unfold rngM at hz
    split at hz
    · split at hz
      · rename_i hl
        cases hz
        obtain ⟨v, rfl, hv⟩ := one_of q1
        cases hv
        exact ⟨_, rfl, by omega, by omega, f1.ok (Ps.refl P1.sub) P1 gives_range⟩
      · cases hz
    · rename_i h2
      cases h2
    · cases hz
  · cases hz⟩
end
end DL
namespace DL
open PySem PySem.Spec PyProof.Rows L2 Lk
section
variable {K : PySem.W.Frag} {F : Fm} {O : Ow} {G G' H H' : Hp} {σ : L2.St} {r : En}
/-- slot i gets the cell c, the value v; it is no list of our own -/
theorem Rp.put (R : Rp K F O G σ H r) {i : Nat} (o : O i = none) {v : Option V} {c : Cel} (hc : c = .un ∨ ∃ d x, c = .pl d ∧ v = some x ∧ Dq K G x d) : Rp K F O G (σ.set i v) H (r.set i c) := by
  have co : ∀ (j : Nat) (ds : List PyData), (r.set i c)[j]? = some (Cel.ow ds) ∨ (r.set i c)[j]? = some (Cel.io ds) → j ≠ i := fun j ds e z => by
    subst z
    have nc : ∀ ds, c ≠ .ow ds ∧ c ≠ .io ds := fun ds => by
      rcases hc with rfl | ⟨d, x, rfl, _⟩
      · exact ⟨fun z => Cel.noConfusion z, fun z => Cel.noConfusion z⟩
      · exact ⟨fun z => Cel.noConfusion z, fun z => Cel.noConfusion z⟩
    rw [List.getElem?_set] at e
    simp only [if_true] at e
    split at e
    · rcases e with e | e
      · exact (nc ds).1 (Option.some.inj e)
      · exact (nc ds).2 (Option.some.inj e)
    · rcases e with e | e <;> cases e
  refine ⟨R.sub, by rw [List.length_set, List.length_set]; exact R.len, fun j d e => ?_, fun j ds e => ?_, fun j ds e => ?_, fun j ks e => ?_, fun j p e => ?_, R.inj, R.old, R.nf, R.g0, R.gn⟩
  · by_cases z : i = j
    · subst z
      have li : i < r.length := by
        have := (List.getElem?_eq_some_iff.mp e).1
        rw [List.length_set] at this
        exact this
      rw [List.getElem?_set_self li] at e
      cases e
      rcases hc with h | ⟨d', x, h, rfl, hd⟩
      · cases h
      · cases h
        exact ⟨x, by rw [List.getElem?_set_self (by rw [R.len]; exact li)], hd⟩
    · rw [List.getElem?_set_ne z] at e ⊢
      exact R.pl j d e
  · have z := co j ds (.inl e)
    rw [List.getElem?_set_ne (Ne.symm z)] at e ⊢
    exact R.ow j ds e
  · have z := co j ds (.inr e)
    rw [List.getElem?_set_ne (Ne.symm z)] at e ⊢
    exact R.io j ds e
  · have z : i ≠ j := fun z => by
      subst z
      have li := (List.getElem?_eq_some_iff.mp e).1
      rw [List.length_set] at li
      rw [List.getElem?_set_self li] at e
      cases e
      rcases hc with h | ⟨_, _, h, _⟩ <;> cases h
    rw [List.getElem?_set_ne z] at e ⊢
    exact R.dk j ks e
  · obtain ⟨⟨c', h1, h2⟩, h3⟩ := R.on j p e
    have z : i ≠ j := fun z => by rw [← z, o] at e; cases e
    exact ⟨⟨c', by rw [List.getElem?_set_ne z]; exact h1, h2⟩, h3⟩
theorem Rp.forget (R : Rp K F O G (σ.set i none) H r) (o : O i = none) : Rp K F O G σ H (r.set i .un) := by
  have P := R.put (i := i) o (v := none) (c := .un) (.inl rfl)
  rw [List.set_set] at P
  refine ⟨P.sub, by have := P.len; rw [List.length_set] at this; exact this, fun j d e => ?_, fun j ds e => ?_, fun j ds e => ?_, fun j ks e => ?_, P.on, P.inj, P.old, P.nf, P.g0, P.gn⟩
  · have z : i ≠ j := fun z => by
      subst z
      have li := (List.getElem?_eq_some_iff.mp e).1
      rw [List.length_set] at li
      rw [List.getElem?_set_self li] at e
      cases e
    have := P.pl j d e
    rw [List.getElem?_set_ne z] at this
    exact this
  · have z : i ≠ j := fun z => by
      subst z
      have li := (List.getElem?_eq_some_iff.mp e).1
      rw [List.length_set] at li
      rw [List.getElem?_set_self li] at e
      cases e
    have := P.ow j ds e
    rw [List.getElem?_set_ne z] at this
    exact this
  · have z : i ≠ j := fun z => by
      subst z
      have li := (List.getElem?_eq_some_iff.mp e).1
      rw [List.length_set] at li
      rw [List.getElem?_set_self li] at e
      cases e
    have := P.io j ds e
    rw [List.getElem?_set_ne z] at this
    exact this
  · have z : i ≠ j := fun z => by
      subst z
      have li := (List.getElem?_eq_some_iff.mp e).1
      rw [List.length_set] at li
      rw [List.getElem?_set_self li] at e
      cases e
    have := P.dk j ks e
    rw [List.getElem?_set_ne z] at this
    exact this
/-- slot i is given a cell that its value bears -/
theorem Rp.tell (R : Rp K F O G σ H r) (o : O i = none) {c : Cel} (hc : c = .un ∨ ∃ d x, c = .pl d ∧ σ[i]? = some (some x) ∧ Dq K G x d) : Rp K F O G σ H (r.set i c) := by
  rcases hc with rfl | ⟨d, x, rfl, hx, hd⟩
  · have P := R.put o (v := none) (c := .un) (.inl rfl)
    have Q := Rp.forget P o
    rw [List.set_set] at Q
    exact Q
  · have P := R.put o (v := some x) (c := .pl d) (.inr ⟨d, x, rfl, rfl, hd⟩)
    rw [show σ.set i (some x) = σ from ?_] at P
    · exact P
    · have li := (List.getElem?_eq_some_iff.mp hx).1
      have e := (List.getElem?_eq_some_iff.mp hx).2
      rw [← e, List.set_getElem_self]
def wipeE (r : En) : List Nat → En
  | [] => r
  | v :: vs => (wipeE r vs).set v .un
theorem Rp.wipe : ∀ {vs : List Nat}, Rp K F O G σ H r → (∀ v ∈ vs, O v = none) → Rp K F O G (L2.wipe σ vs) H (wipeE r vs)
  | [], R, _ => R
  | _ :: _, R, o => (Rp.wipe R fun w hw => o w (List.mem_cons_of_mem _ hw)).put (o _ (List.mem_cons_self ..)) (.inl rfl)
def restE (r : En) : En → List Nat → En
  | r', [] => r'
  | r', v :: vs => (restE r (r'.set v .un) vs).set v ((r[v]?).getD .un)
theorem Rp.rest {r0 : En} : ∀ {vs : List Nat} {r' : En}, (∀ v ∈ vs, ∀ d, r0[v]? = some (Cel.pl d) → ∃ x, σ[v]? = some (some x) ∧ Dq K G x d) → (∀ v ∈ vs, ∀ ds, r0[v]? ≠ some (Cel.ow ds) ∧ r0[v]? ≠ some (Cel.io ds) ∧ r0[v]? ≠ some (Cel.dk ds)) →
    Rp K F O G (L2.wipe σ vs) H r' → (∀ v ∈ vs, O v = none) → Rp K F O G σ H (restE r0 r' vs)
  | [], _, _, _, R, _ => R
  | v :: vs, r', h1, h2, R, o => by
    have ov := o v (List.mem_cons_self ..)
    have R1 : Rp K F O G (L2.wipe σ vs) H (r'.set v .un) := Rp.forget R ov
    refine (Rp.rest (fun w hw => h1 w (List.mem_cons_of_mem _ hw)) (fun w hw => h2 w (List.mem_cons_of_mem _ hw)) R1 fun w hw => o w (List.mem_cons_of_mem _ hw)).tell ov ?_
    cases e : r0[v]? with
    | none => exact .inl rfl
    | some c =>
      cases c with
      | un => exact .inl rfl
      | pl d =>
        obtain ⟨x, hx, hd⟩ := h1 v (List.mem_cons_self ..) d e
        exact .inr ⟨d, x, rfl, hx, hd⟩
      | ow ds => exact absurd e (h2 v (List.mem_cons_self ..) ds).1
      | io ds => exact absurd e (h2 v (List.mem_cons_self ..) ds).2.1
      | dk ds => exact absurd e (h2 v (List.mem_cons_self ..) ds).2.2
/-- an object that nobody sees is written -/
theorem Rp.wr (R : Rp K F O G σ H r) {D : Addr} {o : HO} (g : G D = none) (h0 : F.H0 D = none) (ho : ∀ i, O i ≠ some D) : Rp K F O G σ (upd H D o) r where
  sub := fun c x e => by
    rw [upd_ne (ne_of_none e g)]
    exact R.sub _ _ e
  len := R.len
  pl := R.pl
  ow := fun i ds e => by
    obtain ⟨p, xs, h1, h2, h3, h4, h5⟩ := R.ow i ds e
    exact ⟨p, xs, h1, h2, h3, by rw [upd_ne fun z => ho i (by rw [h1, z])]; exact h4, h5⟩
  io := fun i ds e => by
    obtain ⟨p, xs, h0, h1, h2, h4, h5⟩ := R.io i ds e
    exact ⟨p, xs, h0, h1, h2, by rw [upd_ne fun z => ho i (by rw [h1, z])]; exact h4, h5⟩
  dk := R.dk
  on := fun i p e => by
    obtain ⟨h1, h2, h3, h4⟩ := R.on i p e
    exact ⟨h1, h2, by rw [upd_ne fun z => ho i (by rw [e, z])]; exact h3, h4⟩
  inj := R.inj
  old := fun c x e n => by
    rw [upd_ne (ne_of_none e h0)]
    exact R.old c x e n
  nf := fun c e => by
    by_cases z : c = D
    · rw [z]
      exact h0
    · rw [upd_ne z] at e
      exact R.nf c e
  g0 := R.g0
  gn := R.gn
theorem Go.wr {G1 H1 : Hp} (g : Go O G1 H1 G H) {D : Addr} {o : HO} (n : H1 D = none) : Go O G1 H1 G (upd H D o) := by
  refine ⟨g.gg, fun c x e no => ?_, g.gn, fun c e => ?_⟩
  · rw [upd_ne (ne_of_none e n)]
    exact g.keep c x e no
  · by_cases z : c = D
    · rw [z]
      exact n
    · rw [upd_ne z] at e
      exact g.nf c e
end
def gN (i : Nat) : PyData → En → Option En := fun d r => match r[i]? with
  | some c => if c.own then none else some (r.set i (.pl d))
  | none => none
def tG (K : PySem.W.Frag) (ts : List Nat) (g : PyData → En → Option En) : TG := fun x σ H Q => ∃ F O G r r' d, Rp K F O G σ H r ∧ Dq K G x d ∧ g d r = some r' ∧
  ∀ σ', Rp K F O G σ' H r' → σ'.length = σ.length → (∀ j, j ∉ ts → σ'[j]? = σ[j]?) → Q σ' H
structure DG (K : PySem.W.Frag) (X : Cx) (tg : Expr) (ts : List Nat) (g : PyData → En → Option En) : Prop where
  pg : X.K = K → PG X tg (tG K ts g)
theorem PG.imp {X : Cx} {tg : Expr} {t t' : TG} (h : PG X tg t) (i : ∀ v σ H Q, t' v σ H Q → t v σ H Q) : PG X tg t' := ⟨fun pins s σ H v u Q I r q => h.run pins s σ H v u Q I r (i _ _ _ _ q)⟩
theorem PGs.imp {X : Cx} {tg : List Expr} {t t' : TGs} (h : PGs X tg t) (i : ∀ v σ H Q, t' v σ H Q → t v σ H Q) : PGs X tg t' := ⟨fun pins s σ H v u Q I r q => h.run pins s σ H v u Q I r (i _ _ _ _ q)⟩
def gNilD : List PyData → En → Option En := fun ds r => if ds.isEmpty then some r else none
def gConsD (g : PyData → En → Option En) (h : List PyData → En → Option En) : List PyData → En → Option En := fun ds r => match ds with
  | [] => none
  | d :: ds => (g d r).bind (h ds)
def tGs (K : PySem.W.Frag) (ts : List Nat) (g : List PyData → En → Option En) : TGs := fun xs σ H Q => ∃ F O G r r' ds, Rp K F O G σ H r ∧ DqAll K G xs ds ∧ g ds r = some r' ∧
  ∀ σ', Rp K F O G σ' H r' → σ'.length = σ.length → (∀ j, j ∉ ts → σ'[j]? = σ[j]?) → Q σ' H
structure DGs (K : PySem.W.Frag) (X : Cx) (tg : List Expr) (ts : List Nat) (g : List PyData → En → Option En) : Prop where
  pg : X.K = K → PGs X tg (tGs K ts g)
def gTupD (n : Nat) (g : List PyData → En → Option En) : PyData → En → Option En := fun d r => match d with
  | .tuple ds => if ds.length = n then g ds r else none
  | _ => none
section
variable {K : PySem.W.Frag} {X : Cx} {pos : Pos}
theorem Rp.not_own {F : Fm} {O : Ow} {G H : Hp} {σ : L2.St} {r : En} (R : Rp K F O G σ H r) {i : Nat} {c : Cel} (e : r[i]? = some c) (n : ¬ c.own = true) : O i = none := by
  cases q : O i with
  | none => rfl
  | some p =>
    obtain ⟨⟨c', h1, h2⟩, _⟩ := R.on i p q
    rw [e] at h1
    cases h1
    exact absurd h2 n
theorem dg_name (i : Nat) {x : Str} (hN : X.N.Nodup) (hi : X.N[i]? = some x) (hx : Loc X.env.scope x) (hf : X.fn x = true ∨ X.env.scope.names.lookup x = some .local := by first | exact .inl rfl | exact .inr rfl | assumption) : DG K X (.Name x pos) [i] (gN i) :=
  ⟨fun hK => PG.imp (pg_name hN hi hx hf) fun v σ H Q ⟨F, O, G, r, r', d, P, hd, hg, q⟩ => by
  unfold gN at hg
  split at hg
  · rename_i c e
    split at hg
    · cases hg
    · rename_i n
      cases hg
      refine q _ (P.put (P.not_own e n) (.inr ⟨d, v, rfl, rfl, hd⟩)) (List.length_set ..) fun j hj => ?_
      rw [List.getElem?_set_ne]
      intro z
      exact hj (by rw [z]; exact List.mem_cons_self ..)
  · cases hg⟩
end
def lcGo (vs : List Nat) (g : PyData → En → Option En) (mt : M Bool) (me : M PyData) : List PyData → En → Option (List PyData × En)
  | [], r => some ([], wipeE r vs)
  | x :: xs, r => (g x (wipeE r vs)).bind fun r1 => match mt r1 with
    | some (.ok true r2) => (match me r2 with
      | some (.ok d r3) => (lcGo vs g mt me xs r3).map fun z => (d :: z.1, z.2)
      | _ => none)
    | some (.ok false r2) => lcGo vs g mt me xs r2
    | _ => none
def freeAt (r : En) (vs : List Nat) : Bool := vs.all fun v => match r[v]? with
  | some c => !c.own
  | none => true
def mLc (vs : List Nat) (mi : M (List PyData)) (g : PyData → En → Option En) (mt : M Bool) (me : M PyData) : M (List PyData) := mi.bind fun items r =>
  if freeAt r vs && decide (items.length ≤ 1000000) then (lcGo vs g mt me items r).map fun z => .ok z.1 (restE r z.2 vs) else none
abbrev mYes : M Bool := M.ret true
structure DTs (K : PySem.W.Frag) (X : Cx) (ifs : List Expr) (m : M Bool) : Prop where
  pt : X.K = K → PTs X ifs (tM K XN rB m)
theorem PTs.imp {X : Cx} {es : List Expr} {t t' : TT} (h : PTs X es t) (i : ∀ σ H Q, t' σ H Q → t σ H Q) : PTs X es t' := ⟨fun pins s σ H Q I q => h.run pins s σ H Q I (i _ _ _ q)⟩
section
variable {K : PySem.W.Frag} {E : XE} {X : Cx} {pos : Pos}
theorem dts_nil : DTs K X [] mYes := ⟨fun _ => PTs.imp pts_nil fun σ H Q ⟨F, O, G, r, out, P, em, f⟩ => by
  cases em
  exact f.ok (Ps.refl P.sub) P rfl⟩
theorem dts_one {c : Expr} {m : M Bool} (h : DT K XN X c m) : DTs K X [c] m := ⟨fun hK => pts_one (h.pt hK)⟩
theorem free_own {F : Fm} {O : Ow} {G H : Hp} {σ : L2.St} {r : En} {vs : List Nat} (R : Rp K F O G σ H r) (h : freeAt r vs = true) : ∀ v ∈ vs, O v = none := fun v hv => by
  have q := List.all_eq_true.mp h v hv
  cases z : O v with
  | none => rfl
  | some p =>
    obtain ⟨⟨c, h1, h2⟩, _⟩ := R.on v p z
    rw [h1] at q
    simp only [h2] at q
    cases q
theorem wipe_eq {σ σ' : L2.St} (hl : σ'.length = σ.length) : ∀ {vs : List Nat}, (∀ j, j ∉ vs → σ'[j]? = σ[j]?) → L2.wipe σ' vs = L2.wipe σ vs := fun {vs} h => by
  refine List.ext_getElem? fun j => ?_
  by_cases hj : j ∈ vs
  · have w : ∀ {σ : L2.St} {vs : List Nat}, j ∈ vs → (L2.wipe σ vs)[j]? = if j < σ.length then some none else none := fun {σ vs} => by
      induction vs with
      | nil => intro h; cases h
      | cons v vs ih =>
        intro h
        show ((L2.wipe σ vs).set v none)[j]? = _
        by_cases e : v = j
        · subst e
          rw [List.getElem?_set]
          simp only [if_true, wipe_length]
        · rw [List.getElem?_set_ne e]
          rcases List.mem_cons.mp h with z | z
          · exact absurd z.symm e
          · exact ih z
    rw [w hj, w hj, hl]
  · rw [wipe_out hj, wipe_out hj, h j hj]
theorem wipe_wipe {σ : L2.St} {vs : List Nat} : L2.wipe (L2.wipe σ vs) vs = L2.wipe σ vs := wipe_eq (wipe_length _ _) fun j hj => by rw [wipe_out hj]
theorem lc_run {vs ts : List Nat} {mi : M (List PyData)} {g : PyData → En → Option En} {mt : M Bool} {me : M PyData} (hts : ∀ t ∈ ts, t ∈ vs) {σ : L2.St} {H : Hp} {Q : VK} (h : tM K E (rF K) (mLc vs mi g mt me) σ H Q) :
    tLc (tM K E (rIt K) mi) (tG K ts g) (tM K XN rB mt) (tM K XN (rD K) me) vs σ H Q := by
  obtain ⟨F, O, G, r, out, P, em, f⟩ := h
  refine tM.run P f em fun items r1 J G1 H1 P1 g1 q1 e1 f1 => ?_
  split at e1
  · rename_i hcond
    rw [Bool.and_eq_true, decide_eq_true_eq] at hcond
    obtain ⟨hfree, hlen⟩ := hcond
    obtain ⟨⟨ds, r'⟩, hgo, rfl⟩ := Option.map_eq_some_iff.mp e1
    have ov := free_own P1 hfree
    intro D nD
    have hD0 : F.H0 D = none := P1.nf _ nD
    have hDo : ∀ i, O i ≠ some D := fun i z => (P1.on i D z).2.2.1 nD
    have hDG : G1 D = none := P1.sub.free nD
    refine ⟨fun i m H' => m = items.length - i ∧ i ≤ items.length ∧ ∃ G' r2 xs ds0 ds1, Rp K F O G' (L2.wipe σ vs) H' (wipeE r2 vs) ∧ Go O G1 H1 G' H' ∧ G' D = none ∧ H' D = some (.lst xs) ∧ DqAll K G' xs ds0 ∧ xs.length ≤ i ∧ lcGo vs g mt me (items.drop i) r2 = some (ds1, r') ∧ ds = ds0 ++ ds1,
      ⟨items.length, by simp, Nat.zero_le _, G1, r1, [], [], ds, ?_, ?_, hDG, upd_same, .nil, Nat.zero_le _, hgo, rfl⟩, ?_⟩
    · exact (P1.wr hDG hD0 hDo).wipe ov
    · exact Go.refl.wr nD
    rintro i m H' ⟨rfl, hi, G', r2, xs, ds0, ds1, P2, g2, gD, hD, hx, lx, hgo2, rfl⟩
    by_cases hlt : i < items.length
    · refine .inr ?_
      have e3 := List.getElem?_eq_getElem hlt
      rw [List.drop_eq_getElem_cons hlt] at hgo2
      obtain ⟨jgo, jy⟩ := (q1 i H' G' g2.gg P2.sub).1 _ e3
      refine ⟨jgo, _, fun H4 p => ⟨_, (by omega : items.length - (i + 1) < items.length - i), p⟩, fun x H'' y => ?_⟩
      obtain ⟨G2, ps, hd⟩ := jy x H'' y
      obtain ⟨r3, e4, e5⟩ := Option.bind_eq_some_iff.mp hgo2
      have g2D : G2 D = none := by
        cases z : G2 D with
        | none => rfl
        | some o =>
          rcases ps.gn D (some_ne z) with w | w
          · exact absurd gD w
          · rw [hD] at w
            cases w
      refine ⟨F, O, G2, _, r3, _, P2.ps ps, hd, e4, fun σ2 P3 l3 k3 => ⟨?_, ?_⟩⟩
      · have := wipe_eq l3 (vs := vs) fun j hj => k3 j fun z => hj (hts j z)
        rw [this, wipe_wipe]
      have w3 : L2.wipe σ2 vs = L2.wipe σ vs := by
        have := wipe_eq l3 (vs := vs) fun j hj => k3 j fun z => hj (hts j z)
        rw [this, wipe_wipe]
      have gg3 := g2.trans (ps.go (O := O))
      have hD3 := ps.hh _ _ hD
      cases em3 : mt r3 with
      | none => rw [em3] at e5; cases e5
      | some o3 =>
        rw [em3] at e5
        cases o3 with
        | ex c p => cases e5
        | ok b r4 =>
          refine ⟨F, O, G2, r3, _, P3, em3, fun b' G4 H4 P4 g4 hb => ?_⟩
          cases hb
          have hD4 := g4.keep _ _ hD3 hDo
          have gD4 : G4 D = none := by
            cases z : G4 D with
            | none => rfl
            | some o =>
              rcases g4.gn D (some_ne z) with w | w
              · exact absurd g2D w
              · rw [hD3] at w
                cases w
          have gg4 := gg3.trans g4
          cases b with
          | false =>
            refine iteF ⟨rfl, hlt, G4, r4, xs, ds0, ds1, ?_, gg4, gD4, hD4, hx.sm (ps.gg.trans g4.gg), by omega, e5, rfl⟩
            have := P4.wipe ov
            rw [w3] at this
            exact this
          | true =>
            refine iteT ?_
            cases em5 : me r4 with
            | none =>
              simp only [em5] at e5
              cases e5
            | some o5 =>
              cases o5 with
              | ex c p =>
                simp only [em5] at e5
                cases e5
              | ok d r5 =>
                simp only [em5] at e5
                obtain ⟨⟨ds2, r6⟩, hgo6, e6⟩ := Option.map_eq_some_iff.mp e5
                cases e6
                refine ⟨F, O, G4, r4, _, P4, em5, fun y G5 H5 P5 g5 hy => ?_⟩
                have hD5 := g5.keep _ _ hD4 hDo
                have gD5 : G5 D = none := by
                  cases z : G5 D with
                  | none => rfl
                  | some o =>
                    rcases g5.gn D (some_ne z) with w | w
                    · exact absurd gD4 w
                    · rw [hD4] at w
                      cases w
                refine ⟨xs, hD5, line_lt (by omega), rfl, hlt, G5, r5, xs ++ [y], ds0 ++ [d], ds2, ?_, (gg4.trans g5).wr nD, gD5, upd_same, (hx.sm ((ps.gg.trans g4.gg).trans g5.gg)).append (.cons hy .nil), by rw [List.length_append]; simp; omega, hgo6, by rw [List.append_assoc]; rfl⟩
                have := (P5.wr (o := .lst (xs ++ [y])) gD5 hD0 hDo).wipe ov
                rw [w3] at this
                exact this
    · refine .inl ?_
      have e3 : i = items.length := by omega
      subst e3
      rw [List.drop_length] at hgo2
      cases hgo2
      rw [List.append_nil] at f1
      refine ⟨(q1 _ H' G' g2.gg P2.sub).2 (Nat.le_refl _), f1 _ G' H' (Rp.rest (fun v hv d e => ?_) (fun v hv ds => ?_) P2 ov) g2 ⟨D, xs, rfl, nD, gD, hD0, hDo, hD, hx⟩⟩
      · obtain ⟨x, h1, h2⟩ := P1.pl v d e
        exact ⟨x, h1, h2.sm g2.gg⟩
      · have q := List.all_eq_true.mp hfree v hv
        refine ⟨fun e => ?_, fun e => ?_, fun e => ?_⟩ <;>
        · rw [e] at q
          cases q
  · cases e1
theorem df_lc {elt tg iter : Expr} {ifs : List Expr} {scope : Scope} {own : List (Str × Nat)} {ts : List Nat} {mi : M (List PyData)} {g : PyData → En → Option En} {mt : M Bool} {me : M PyData} (hc : X.calm = true) (hN : X.N.Nodup) (hi : DI K E X tg iter mi) (ok : BlkOk X.N X.env.scope scope own)
    (hg : ∀ (s : Shared) (H : Hp) (C : Addr) (cl : List (Str × Addr)) (fp : List Addr), DG K (X.blk s H scope (compEnvC scope cl C X.env) fp) tg ts g) (ht : ∀ (s : Shared) (H : Hp) (C : Addr) (cl : List (Str × Addr)) (fp : List Addr), DTs K (X.blk s H scope (compEnvC scope cl C X.env) fp) ifs mt)
    (he : ∀ (s : Shared) (H : Hp) (C : Addr) (cl : List (Str × Addr)) (fp : List Addr), DE K XN (X.blk s H scope (compEnvC scope cl C X.env) fp) elt me) (hts : ∀ t ∈ ts, t ∈ own.map (·.2) := by decide) (hs : ∀ x, foldedSetIterable iter X.env x = pure x := by intro _; rfl) :
    DF K E X (.ListComp elt [⟨tg, iter, ifs, 0⟩] scope pos) (mLc (own.map (·.2)) mi g mt me) :=
  ⟨fun hK => PE.imp (pe_lc hc hN (hi.pi hK) ok (fun s H C cl fp => (hg s H C cl fp).pg hK) (fun s H C cl fp => (ht s H C cl fp).pt hK) (fun s H C cl fp => (he s H C cl fp).pe hK) hs) fun _ _ _ h => lc_run hts h⟩
end
end DL
namespace DL
open PySem PySem.Spec PyProof.Rows L2 Lk
inductive Fl where
  | nx (r : En) | rt (d : PyData) (r : En) | bk (r : En) | ct (r : En) | ex (c : Str) (p : List PyData) | rf (ds : List PyData) (r : En)
abbrev SM := En → Option Fl
def FinS (K : PySem.W.Frag) (E : XE) (F : Fm) (G : Hp) (D : Ends) : Fl → Prop
  | .nx r' => ∀ O' G' σ' H', Rp K F O' G' σ' H' r' → Same G G' → D.nx σ' H'
  | .bk r' => ∀ O' G' σ' H', Rp K F O' G' σ' H' r' → Same G G' → D.bk σ' H'
  | .ct r' => ∀ O' G' σ' H', Rp K F O' G' σ' H' r' → Same G G' → D.ct σ' H'
  | .rt d r' => ∀ O' G' σ' H' v, Rp K F O' G' σ' H' r' → Same G G' → Dq K G' v d → D.rt v H'
  | .ex c p => ∀ H', (∀ c o, F.H0 c = some o → (∀ i, F.ios i ≠ some c) → H' c = some o) → E c p H'
  | .rf ds r' => ∀ O' G' σ' H' p xs, Rp K F O' G' σ' H' r' → Same G G' → G' p = none → F.H0 p = none → H' p = some (.lst xs) → DqAll K G' xs ds → D.rt (.ref p) H'
def tS (K : PySem.W.Frag) (E : XE) (m : SM) : TS := fun D σ H => ∃ F O G r fl, Rp K F O G σ H r ∧ m r = some fl ∧ FinS K E F G D fl
structure DS (K : PySem.W.Frag) (E : XE) (X : Cx) (st : Stmt) (m : SM) : Prop where
  ps : X.K = K → PS X st (tS K E m)
structure DSs (K : PySem.W.Frag) (E : XE) (X : Cx) (st : List Stmt) (m : SM) : Prop where
  ps : X.K = K → PSs X st (tS K E m)
def sBind {α : Type} (m : M α) (k : α → SM) : SM := fun r => match m r with
  | some (.ok a r') => k a r'
  | some (.ex c p) => some (.ex c p)
  | none => none
def sNil : SM := fun r => some (.nx r)
def sSeq (a b : SM) : SM := fun r => match a r with
  | some (.nx r') => b r'
  | o => o
section
variable {X : Cx} {st : Stmt} {sts : List Stmt}
theorem PS.imp {t t' : TS} (h : PS X st t) (i : ∀ D σ H, t' D σ H → t D σ H) : PS X st t' := ⟨fun pins s σ H D I q => h.run pins s σ H D I (i _ _ _ q)⟩
theorem PSs.imp {t t' : TS} (h : PSs X sts t) (i : ∀ D σ H, t' D σ H → t D σ H) : PSs X sts t' := ⟨fun pins s σ H D I q => h.run pins s σ H D I (i _ _ _ q)⟩
end
section
variable {K : PySem.W.Frag} {E : XE} {F : Fm} {O : Ow} {G G1 H H1 : Hp} {σ : L2.St} {r : En} {α β : Type} {D : Ends} {fl : Fl}
theorem FinS.via (g : Same G G1) (f : FinS K E F G D fl) : FinS K E F G1 D fl := by
  cases fl with
  | nx r' => exact fun O' G' σ' H' p q => f O' G' σ' H' p (g.trans q)
  | bk r' => exact fun O' G' σ' H' p q => f O' G' σ' H' p (g.trans q)
  | ct r' => exact fun O' G' σ' H' p q => f O' G' σ' H' p (g.trans q)
  | rt d r' => exact fun O' G' σ' H' v p q => f O' G' σ' H' v p (g.trans q)
  | ex c p => exact f
  | rf ds r' => exact fun O' G' σ' H' p xs q s => f O' G' σ' H' p xs q (g.trans s)
theorem tS.run {R1 : RR β α} {Q1 : β → Hp → Prop} {m : M α} {k : α → SM} (P : Rp K F O G σ H r) (f : FinS K E F G D fl) (e : sBind m k r = some fl)
    (h : ∀ a r1 b G1 H1, Rp K F O G1 σ H1 r1 → Go O G H G1 H1 → R1 H O F G1 H1 b a → k a r1 = some fl → FinS K E F G1 D fl → Q1 b H1) : tM K E R1 m σ H Q1 := by
  cases em : m r with
  | none =>
    rw [sBind, em] at e
    cases e
  | some o =>
    cases o with
    | ok a r1 =>
      rw [sBind, em] at e
      exact ⟨F, O, G, r, _, P, em, fun b G1 H1 P1 g1 q => h a r1 b G1 H1 P1 g1 q e (f.via g1.gg)⟩
    | ex c p =>
      rw [sBind, em] at e
      cases e
      exact ⟨F, O, G, r, _, P, em, f⟩
end
def sExpr (m : M PyData) : SM := sBind m fun _ => sNil
def sRet (m : M PyData) : SM := sBind m fun d r => some (.rt d r)
def sRetN : SM := fun r => some (.rt .none r)
def sIf (c : M Bool) (a b : SM) : SM := sBind c fun k => if k then a else b
/-- slot i holds d from now on -/
def sPut (i : Nat) (d : PyData) : SM := fun r => match r[i]? with
  | some (.io _) => none
  | some _ => some (.nx (r.set i (.pl d)))
  | none => none
def sSet (i : Nat) (m : M PyData) : SM := sBind m (sPut i)
def sPutO (i : Nat) (ds : List PyData) : SM := fun r => match r[i]? with
  | some (.io _) => none
  | some _ => some (.nx (r.set i (.ow ds)))
  | none => none
/-- slot i owns a new list -/
def sOwn (i : Nat) (m : M (List PyData)) : SM := sBind m (sPutO i)
/-- the list in slot i is never changed again -/
def sFrz (i : Nat) (m : SM) : SM := fun r => match r[i]? with
  | some (.ow ds) => m (r.set i (.pl (.list ds)))
  | _ => m r
def ownOf : Option Cel → Option (List PyData)
  | some (.ow ds) => some ds
  | some (.io ds) => some ds
  | _ => none
def reOwn (ds : List PyData) : Cel → Cel
  | .io _ => .io ds
  | _ => .ow ds
/-- what is in the list in slot i -/
def upO (i : Nat) (ds : List PyData) (r : En) : En := match r[i]? with
  | some c => r.set i (reOwn ds c)
  | none => r
section
variable {K : PySem.W.Frag} {F : Fm} {O : Ow} {G H : Hp} {σ : L2.St} {r : En}
theorem dropO (R : Rp K F O G σ H r) {i : Nat} (hio : ∀ ds, r[i]? ≠ some (Cel.io ds)) : Rp K F (fun j => if j = i then none else O j) G σ H (r.set i .un) := by
  have ne : ∀ (j : Nat) (c : Cel), (r.set i .un)[j]? = some c → c ≠ .un → j ≠ i ∧ r[j]? = some c := fun j c e n => by
    by_cases z : i = j
    · subst z
      rw [List.getElem?_set] at e
      simp only [if_true] at e
      split at e
      · exact absurd (Option.some.inj e).symm n
      · cases e
    · rw [List.getElem?_set_ne z] at e
      exact ⟨Ne.symm z, e⟩
  refine ⟨R.sub, by rw [List.length_set]; exact R.len, fun j d e => ?_, fun j ds e => ?_, fun j ds e => ?_, fun j ks e => R.dk j ks (ne j _ e fun z => Cel.noConfusion z).2, fun j p e => ?_, fun a b p e1 e2 => ?_, R.old, R.nf, R.g0, R.gn⟩
  · exact R.pl j d (ne j _ e fun z => Cel.noConfusion z).2
  · obtain ⟨z, e'⟩ := ne j _ e fun z => Cel.noConfusion z
    obtain ⟨p, xs, h1, h2⟩ := R.ow j ds e'
    exact ⟨p, xs, by rw [if_neg z]; exact h1, h2⟩
  · obtain ⟨z, e'⟩ := ne j _ e fun z => Cel.noConfusion z
    obtain ⟨p, xs, h0, h1, h2⟩ := R.io j ds e'
    exact ⟨p, xs, h0, by rw [if_neg z]; exact h1, h2⟩
  · split at e
    · cases e
    · rename_i z
      obtain ⟨⟨c, h1, h2⟩, h3⟩ := R.on j p e
      exact ⟨⟨c, by rw [List.getElem?_set_ne (Ne.symm z)]; exact h1, h2⟩, h3⟩
  · split at e1
    · cases e1
    · split at e2
      · cases e2
      · exact R.inj a b p e1 e2
theorem Rp.put0 (R : Rp K F O G σ H r) {i : Nat} (hio : ∀ ds, r[i]? ≠ some (Cel.io ds)) {v : V} {d : PyData} (hd : Dq K G v d) : Rp K F (fun j => if j = i then none else O j) G (σ.set i (some v)) H (r.set i (.pl d)) := by
  have P := (dropO R hio).put (i := i) (by show (if i = i then none else O i) = none; rw [if_pos rfl]) (v := some v) (c := .pl d) (.inr ⟨d, v, rfl, rfl, hd⟩)
  rw [List.set_set] at P
  exact P
theorem Rp.own0 (R : Rp K F O G σ H r) {i : Nat} (hi : i < r.length) (hio : ∀ ds, r[i]? ≠ some (Cel.io ds)) {p : Addr} {xs : List V} {ds : List PyData} (g : G p = none) (h0 : F.H0 p = none) (ho : ∀ j, O j ≠ some p) (hp : H p = some (.lst xs)) (ha : DqAll K G xs ds) :
    Rp K F (fun j => if j = i then some p else O j) G (σ.set i (some (.ref p))) H (r.set i (.ow ds)) := by
  have P := dropO R hio
  have ne : ∀ (j : Nat) (c : Cel), (r.set i (.ow ds))[j]? = some c → j ≠ i → (r.set i .un)[j]? = some c := fun j c e z => by
    rw [List.getElem?_set_ne (Ne.symm z)] at e ⊢
    exact e
  have li : i < σ.length := by rw [R.len]; exact hi
  refine ⟨P.sub, by rw [List.length_set, List.length_set]; exact R.len, fun j d e => ?_, fun j ds' e => ?_, fun j ds' e => ?_, fun j ks e => by
    by_cases z : j = i
    · subst z
      rw [List.getElem?_set_self hi] at e
      cases e
    · obtain ⟨q, h1, h2⟩ := P.dk j ks (ne j _ e z)
      exact ⟨q, by rw [List.getElem?_set_ne (Ne.symm z)]; exact h1, h2⟩, fun j q e => ?_, fun a b q e1 e2 => ?_, R.old, R.nf, R.g0, R.gn⟩
  · by_cases z : j = i
    · subst z
      rw [List.getElem?_set_self hi] at e
      cases e
    · obtain ⟨v, h1, h2⟩ := P.pl j d (ne j _ e z)
      exact ⟨v, by rw [List.getElem?_set_ne (Ne.symm z)]; exact h1, h2⟩
  · by_cases z : j = i
    · subst z
      rw [List.getElem?_set_self hi] at e
      cases e
      exact ⟨p, xs, by rw [if_pos rfl], by rw [List.getElem?_set_self li], h0, hp, ha⟩
    · obtain ⟨q, ys, h1, h2, h3⟩ := P.ow j ds' (ne j _ e z)
      rw [if_neg z] at h1
      exact ⟨q, ys, by rw [if_neg z]; exact h1, by rw [List.getElem?_set_ne (Ne.symm z)]; exact h2, h3⟩
  · by_cases z : j = i
    · subst z
      rw [List.getElem?_set_self hi] at e
      cases e
    · obtain ⟨q, ys, h0, h1, h2, h3⟩ := P.io j ds' (ne j _ e z)
      rw [if_neg z] at h1
      exact ⟨q, ys, h0, by rw [if_neg z]; exact h1, by rw [List.getElem?_set_ne (Ne.symm z)]; exact h2, h3⟩
  · split at e
    · rename_i z
      subst z
      cases e
      exact ⟨⟨_, List.getElem?_set_self hi, rfl⟩, g, some_ne hp, .inl h0⟩
    · rename_i z
      obtain ⟨⟨c, h1, h2⟩, h3⟩ := R.on j q e
      exact ⟨⟨c, by rw [List.getElem?_set_ne (Ne.symm z)]; exact h1, h2⟩, h3⟩
  · split at e1
    · rename_i z1
      split at e2
      · rename_i z2
        rw [z1, z2]
      · cases e1
        exact absurd e2 (ho b)
    · split at e2
      · cases e2
        exact absurd e1 (ho a)
      · exact R.inj a b q e1 e2
theorem Rp.frz (R : Rp K F O G σ H r) {i : Nat} {ds : List PyData} (e : r[i]? = some (Cel.ow ds)) : ∃ O' G', Same G G' ∧ Rp K F O' G' σ H (r.set i (.pl (.list ds))) := by
  obtain ⟨p, xs, h1, h2, h0, h3, h4⟩ := R.ow i ds e
  have hio : ∀ ds', r[i]? ≠ some (Cel.io ds') := fun ds' z => by rw [e] at z; cases z
  have gp : G p = none := (R.on i p h1).2.1
  have P := dropO R hio
  have no : ∀ j, (fun j => if j = i then none else O j) j ≠ some p := fun j z => by
    dsimp only at z
    split at z
    · cases z
    · rename_i n
      exact n (R.inj j i p z h1)
  have Q := P.see h3 gp h0 no
  have S := Q.tell (i := i) (c := .pl (.list ds)) (by show (if i = i then none else O i) = none; rw [if_pos rfl]) (.inr ⟨_, .ref p, rfl, h2, .lst (.inl (.inl upd_same)) (h4.sm (same_new gp))⟩)
  rw [List.set_set] at S
  exact ⟨_, _, same_new gp, S⟩
/-- the list of slot i -/
theorem Rp.own_at (R : Rp K F O G σ H r) {i : Nat} {ds : List PyData} (e : ownOf r[i]? = some ds) : ∃ p xs, O i = some p ∧ σ[i]? = some (some (.ref p)) ∧ H p = some (.lst xs) ∧ DqAll K G xs ds := by
  cases h : r[i]? with
  | none => rw [h] at e; cases e
  | some c =>
    rw [h] at e
    cases c with
    | ow ds' =>
      cases e
      obtain ⟨p, xs, h1, h2, _, h3, h4⟩ := R.ow i _ h
      exact ⟨p, xs, h1, h2, h3, h4⟩
    | io ds' =>
      cases e
      obtain ⟨p, xs, _, h1, h2, h3, h4⟩ := R.io i _ h
      exact ⟨p, xs, h1, h2, h3, h4⟩
    | _ => cases e
/-- the list of slot i changes -/
theorem Rp.chg (R : Rp K F O G σ H r) {i : Nat} {ds ds' : List PyData} (e : ownOf r[i]? = some ds) {p : Addr} (hp : O i = some p) {H' G' : Hp} {xs : List V} (gg : Same G G') (gh : Same G' H') (gp : G' p = none) (k : ∀ c o, c ≠ p → H c = some o → H' c = some o) (gn : ∀ c, G' c ≠ none → G c ≠ none ∨ H c = none)
    (hx : H' p = some (.lst xs)) (ha : DqAll K G' xs ds') : Rp K F O G' σ H' (upO i ds' r) ∧ Go O G H G' H' := by
  obtain ⟨c, hc, hown⟩ : ∃ c, r[i]? = some c ∧ c.own = true := by
    obtain ⟨h1, _⟩ := R.on i p hp
    exact h1
  have hnd : ∀ ks, c ≠ .dk ks := fun ks z => by
    rw [hc, z] at e
    cases e
  have li := (List.getElem?_eq_some_iff.mp hc).1
  have eu : upO i ds' r = r.set i (reOwn ds' c) := by unfold upO; rw [hc]
  have hpn : H p ≠ none := (R.on i p hp).2.2.1
  have nf : ∀ c, H' c = none → H c = none := fun c e => by
    by_cases z : c = p
    · rw [z, hx] at e
      cases e
    · cases q : H c with
      | none => rfl
      | some o => rw [k c o z q] at e; cases e
  refine ⟨?_, gg, fun c o e n => k c o (fun z => n i (by rw [z]; exact hp)) e, gn, nf⟩
  rw [eu]
  have ne : ∀ (j : Nat) (c' : Cel), (r.set i (reOwn ds' c))[j]? = some c' → j ≠ i → r[j]? = some c' := fun j c' e z => by
    rw [List.getElem?_set_ne (Ne.symm z)] at e
    exact e
  refine ⟨gh, by rw [List.length_set]; exact R.len, fun j d e => ?_, fun j es e => ?_, fun j es e => ?_, fun j ks e => ?_, fun j q e => ?_, R.inj, fun c o e n => ?_, fun c e => R.nf c (nf c e), R.g0.trans gg, fun c e => ?_⟩
  · by_cases z : j = i
    · subst z
      rw [List.getElem?_set_self li] at e
      cases c <;> cases e
    · obtain ⟨v, h1, h2⟩ := R.pl j d (ne j _ e z)
      exact ⟨v, h1, h2.sm gg⟩
  · by_cases z : j = i
    · subst z
      rw [List.getElem?_set_self li] at e
      cases c with
      | ow es' =>
        cases e
        obtain ⟨q, ys, h1, h2, h3, _⟩ := R.ow j es' hc
        rw [hp] at h1
        cases h1
        exact ⟨p, xs, hp, h2, h3, hx, ha⟩
      | io _ => cases e
      | dk _ => exact absurd rfl (hnd _)
      | _ => cases hown
    · obtain ⟨q, ys, h1, h2, h3, h4, h5⟩ := R.ow j es (ne j _ e z)
      exact ⟨q, ys, h1, h2, h3, k q _ (fun w => z (R.inj j i p (by rw [h1, w]) hp)) h4, h5.sm gg⟩
  · by_cases z : j = i
    · subst z
      rw [List.getElem?_set_self li] at e
      cases c with
      | io es' =>
        cases e
        obtain ⟨q, ys, h0, h1, h2, _⟩ := R.io j es' hc
        rw [hp] at h1
        cases h1
        exact ⟨p, xs, h0, hp, h2, hx, ha⟩
      | ow _ => cases e
      | dk _ => cases e
      | _ => cases hown
    · obtain ⟨q, ys, h0, h1, h2, h4, h5⟩ := R.io j es (ne j _ e z)
      exact ⟨q, ys, h0, h1, h2, k q _ (fun w => z (R.inj j i p (by rw [h1, w]) hp)) h4, h5.sm gg⟩
  · by_cases z : j = i
    · subst z
      rw [List.getElem?_set_self li] at e
      cases c <;> cases e
    · obtain ⟨q, h1, h2⟩ := R.dk j ks (ne j _ e z)
      exact ⟨q, h1, h2.sm gg⟩
  · obtain ⟨⟨c', h1, h2⟩, h3, h4, h5⟩ := R.on j q e
    refine ⟨?_, ?_, ?_, h5⟩
    · by_cases z : j = i
      · subst z
        refine ⟨_, List.getElem?_set_self li, ?_⟩
        cases c <;> first | rfl | cases hown | exact absurd rfl (hnd _)
      · exact ⟨c', by rw [List.getElem?_set_ne (Ne.symm z)]; exact h1, h2⟩
    · cases w : G' q with
      | none => rfl
      | some o =>
        rcases gn q (some_ne w) with y | y
        · exact absurd h3 y
        · exact absurd y h4
    · intro w
      exact h4 (nf q w)
  · refine k c o (fun z => ?_) (R.old c o e n)
    subst z
    rcases (R.on i _ hp).2.2.2 with w | ⟨j, w⟩
    · rw [w] at e
      cases e
    · exact n j w
  · rcases gn c e with z | z
    · exact R.gn c z
    · exact .inr (R.nf c z)
end
section
variable {K : PySem.W.Frag} {E : XE} {X : Cx} {st : Stmt} {sts : List Stmt} {a b : SM} {m : M PyData} {mc : M Bool} {ml : M (List PyData)} {e c : Expr} {pos : Pos}
theorem dss_nil : DSs K E X [] sNil := ⟨fun _ => PSs.imp pss_nil fun D σ H ⟨F, O, G, r, fl, P, em, f⟩ => by
  cases em
  exact f O G σ H P (Same.refl _)⟩
theorem dss_cons (h1 : DS K E X st a) (h2 : DSs K E X sts b) : DSs K E X (st :: sts) (sSeq a b) := ⟨fun hK => PSs.imp (pss_cons (h1.ps hK) (h2.ps hK)) fun D σ H ⟨F, O, G, r, fl, P, em, f⟩ => by
  unfold sSeq at em
  cases ea : a r with
  | none => rw [ea] at em; cases em
  | some fa =>
    rw [ea] at em
    refine ⟨F, O, G, r, fa, P, ea, ?_⟩
    cases fa with
    | nx r' => exact fun O' G' σ' H' P' g => ⟨F, O', G', r', fl, P', em, f.via g⟩
    | rt d r' => cases em; exact f
    | bk r' => cases em; exact f
    | ct r' => cases em; exact f
    | ex c p => cases em; exact f
    | rf ds r' => cases em; exact f⟩
theorem dss_one (h : DS K E X st a) : DSs K E X [st] a := ⟨fun hK => pss_one (h.ps hK)⟩
theorem ds_expr (he : DE K E X e m) (hs : swapsWith e none pos.line X.env = pure false := by rfl) : DS K E X (.Expr e pos) (sExpr m) := ⟨fun hK => PS.imp (ps_expr (he.pe hK) hs) fun D σ H ⟨F, O, G, r, fl, P, em, f⟩ => by
  refine tS.run P f em fun d r1 x G1 H1 P1 g1 q1 e1 f1 => ?_
  cases e1
  exact f1 O G1 σ H1 P1 (Same.refl _)⟩
theorem ds_ret (he : DE K E X e m) : DS K E X (.Return (some e) pos) (sRet m) := ⟨fun hK => PS.imp (ps_ret (he.pe hK)) fun D σ H ⟨F, O, G, r, fl, P, em, f⟩ => by
  refine tS.run P f em fun d r1 x G1 H1 P1 g1 q1 e1 f1 => ?_
  cases e1
  exact f1 O G1 σ H1 x P1 (Same.refl _) q1⟩
theorem ds_if {sa sb : List Stmt} (hc : DT K E X c mc) (ha : DSs K E X sa a) (hb : DSs K E X sb b) : DS K E X (.If c sa sb pos) (sIf mc a b) := ⟨fun hK => PS.imp (ps_if (hc.pt hK) (ha.ps hK) (hb.ps hK)) fun D σ H ⟨F, O, G, r, fl, P, em, f⟩ => by
  refine tS.run P f em fun d r1 x G1 H1 P1 g1 q1 e1 f1 => ?_
  cases q1
  cases d with
  | true => exact iteT ⟨F, O, G1, r1, fl, P1, e1, f1⟩
  | false => exact iteF ⟨F, O, G1, r1, fl, P1, e1, f1⟩⟩
theorem ds_never : DS K E X st (fun _ => none) := ⟨fun _ => PS.imp ps_never fun D σ H ⟨F, O, G, r, fl, P, em, f⟩ => by cases em⟩
/-- name = e, the name from now on a datum -/
theorem ds_set_t {te : TE} {i : Nat} (h : PS X st (tAsg te (gName i))) (ht : ∀ σ H Q, tM K E (rD K) m σ H Q → te σ H Q) : PS X st (tS K E (sSet i m)) := PS.imp h fun D σ H ⟨F, O, G, r, fl, P, em, f⟩ => by
  refine ht _ _ _ (tS.run P f em fun d r1 x G1 H1 P1 g1 q1 e1 f1 => ?_)
  unfold sPut at e1
  split at e1
  · cases e1
  · rename_i cel hne hc
    cases e1
    exact f1 _ G1 _ H1 (P1.put0 (fun ds z => hne ds (Option.some.inj (hc.symm.trans z))) q1) (Same.refl _)
  · cases e1
theorem ds_own_t {te : TE} {i : Nat} (h : PS X st (tAsg te (gName i))) (ht : ∀ σ H Q, tM K E (rF K) ml σ H Q → te σ H Q) : PS X st (tS K E (sOwn i ml)) := PS.imp h fun D σ H ⟨F, O, G, r, fl, P, em, f⟩ => by
  refine ht _ _ _ (tS.run P f em fun ds r1 x G1 H1 P1 g1 q1 e1 f1 => ?_)
  obtain ⟨p, xs, rfl, _, hg, h0, ho, hp, ha⟩ := q1
  unfold sPutO at e1
  split at e1
  · cases e1
  · rename_i cel hne hc
    cases e1
    exact f1 _ G1 _ H1 (P1.own0 (List.getElem?_eq_some_iff.mp hc).1 (fun ds z => hne ds (Option.some.inj (hc.symm.trans z))) hg h0 ho hp ha) (Same.refl _)
  · cases e1
theorem ds_set {i : Nat} {x : Str} {pos' : Pos} (hN : X.N.Nodup) (hi : X.N[i]? = some x) (hx : Loc X.env.scope x) (he : DE K E X e m) (hs : swapsWith e (some (.Name x pos')) pos.line X.env = pure false := by rfl) (hf : X.fn x = true ∨ X.env.scope.names.lookup x = some .local := by first | exact .inl rfl | exact .inr rfl | assumption) :
    DS K E X (.Assign [.Name x pos'] e pos) (sSet i m) := ⟨fun hK => ds_set_t (ps_set hN hi hx (he.pe hK) hs hf) fun _ _ _ h => h⟩
theorem ds_own {i : Nat} {x : Str} {pos' : Pos} (hN : X.N.Nodup) (hi : X.N[i]? = some x) (hx : Loc X.env.scope x) (he : DF K E X e ml) (hs : swapsWith e (some (.Name x pos')) pos.line X.env = pure false := by rfl) (hf : X.fn x = true ∨ X.env.scope.names.lookup x = some .local := by first | exact .inl rfl | exact .inr rfl | assumption) :
    DS K E X (.Assign [.Name x pos'] e pos) (sOwn i ml) := ⟨fun hK => ds_own_t (ps_set hN hi hx (he.pe hK) hs hf) fun _ _ _ h => h⟩
/-- what a new list gives as a datum -/
theorem fr_t {σ : L2.St} {H : Hp} {Q : VK} (h : tM K E (rD K) (ml.map PyData.list) σ H Q) : tM K E (rF K) ml σ H Q := by
  obtain ⟨F, O, G, r, out, P, em, f⟩ := h
  refine tM.run P f em fun ds r1 v G1 H1 P1 g1 q1 e1 f1 => ?_
  cases e1
  obtain ⟨p, xs, rfl, hs, hg, h0, ho, hp, ha⟩ := q1
  cases em2 : ml r with
  | none =>
    rw [M.map, M.bind, em2] at em
    cases em
  | some o =>
    cases o with
    | ex c z =>
      rw [M.map, M.bind, em2] at em
      cases em
    | ok ds' r' =>
      rw [M.map, M.bind, em2] at em
      cases em
      refine f _ _ _ (P1.see hp hg h0 ho) ?_ (.lst (.inl (.inl upd_same)) (ha.sm (same_new hg)))
      refine ⟨g1.gg.trans (same_new hg), g1.keep, fun c e => ?_, g1.nf⟩
      by_cases z : c = p
      · rw [z]
        exact .inr hs
      · rw [upd_ne z] at e
        exact g1.gn c e
section
variable {i : Nat} {y : Str} {py : Pos} {elt tg iter : Expr} {ifs : List Expr} {scope : Scope} {own : List (Str × Nat)} {ts : List Nat} {spos : Pos} {mi : M (List PyData)} {g : PyData → En → Option En} {mt : M Bool} {me : M PyData}
/-- name = [..] on one line -/
theorem ds_setLc (hc : X.calm = true) (hN : X.N.Nodup) (hy : X.N[i]? = some y) (hyl : X.env.scope.names.lookup y = some .local)
    (hsw : swapsWith (.ListComp elt [⟨tg, iter, ifs, 0⟩] scope pos) (some (.Name y py)) spos.line X.env = pure true) (hi : DI K E X tg iter mi) (ok : BlkOk X.N X.env.scope scope own)
    (hg : ∀ (s : Shared) (H : Hp) (C : Addr) (cl : List (Str × Addr)) (fp : List Addr), DG K (X.blk s H scope (compEnvC scope cl C X.env) fp) tg ts g) (ht : ∀ (s : Shared) (H : Hp) (C : Addr) (cl : List (Str × Addr)) (fp : List Addr), DTs K (X.blk s H scope (compEnvC scope cl C X.env) fp) ifs mt)
    (he : ∀ (s : Shared) (H : Hp) (C : Addr) (cl : List (Str × Addr)) (fp : List Addr), DE K XN (X.blk s H scope (compEnvC scope cl C X.env) fp) elt me) (hts : ∀ t ∈ ts, t ∈ own.map (·.2) := by decide) (hs : ∀ x, foldedSetIterable iter X.env x = pure x := by intro _; rfl) :
    DS K E X (.Assign [.Name y py] (.ListComp elt [⟨tg, iter, ifs, 0⟩] scope pos) spos) (sSet i ((mLc (own.map (·.2)) mi g mt me).map PyData.list)) :=
  ⟨fun hK => ds_set_t (ps_setLc hc hN hy hyl hsw (hi.pi hK) ok (fun s H C cl fp => (hg s H C cl fp).pg hK) (fun s H C cl fp => (ht s H C cl fp).pt hK) (fun s H C cl fp => (he s H C cl fp).pe hK) hs) fun _ _ _ h => lc_run hts (fr_t h)⟩
end
theorem ds_frz (i : Nat) (h : DS K E X st a) : DS K E X st (sFrz i a) := ⟨fun hK => PS.imp (h.ps hK) fun D σ H ⟨F, O, G, r, fl, P, em, f⟩ => by
  unfold sFrz at em
  split at em
  · rename_i ds e
    obtain ⟨O', G', g, P'⟩ := P.frz e
    exact ⟨F, O', G', _, fl, P', em, f.via g⟩
  · exact ⟨F, O, G, r, fl, P, em, f⟩⟩
end
def forGo (g : PyData → En → Option En) (b : SM) : List PyData → SM
  | [] => sNil
  | x :: xs => fun r => (g x r).bind fun r1 => match b r1 with
    | some (.nx r2) => forGo g b xs r2
    | some (.ct r2) => forGo g b xs r2
    | some (.bk r2) => some (.nx r2)
    | o => o
def sFor (mi : M (List PyData)) (g : PyData → En → Option En) (b : SM) : SM := sBind mi fun items => forGo g b items
def whGo (c : M Bool) (b : SM) : Nat → SM
  | 0 => fun _ => none
  | n + 1 => sBind c fun k => if k then fun r1 => (match b r1 with
    | some (.nx r2) => whGo c b n r2
    | some (.ct r2) => whGo c b n r2
    | some (.bk r2) => some (.nx r2)
    | o => o) else sNil
section
variable {K : PySem.W.Frag} {E : XE} {X : Cx} {st : Stmt} {body : List Stmt} {b : SM} {mc : M Bool} {c iter tg : Expr} {pos : Pos}
theorem ds_for {mi : M (List PyData)} {ts : List Nat} {g : PyData → En → Option En} (hp : PassesOwn (model X.prog X.w) X.A X.env X.xe) (hc : X.calm = true) (hi : DI K E X tg iter mi) (hg : DG K X tg ts g) (hb : DSs K E X body b)
    (hs : ∀ x, foldedSetIterable iter X.env x = pure x := by intro _; rfl) : DS K E X (.For tg iter body [] pos) (sFor mi g b) := ⟨fun hK => PS.imp (ps_for hp hc (hi.pi hK) (hg.pg hK) (hb.ps hK) hs) fun D σ H ⟨F, O, G, r, fl, P, em, f⟩ => by
  refine tS.run P f em fun items r1 J G1 H1 P1 g1 q1 e1 f1 => ?_
  refine ⟨fun i n σ H => n = items.length - i ∧ i ≤ items.length ∧ ∃ O' G' r', Rp K F O' G' σ H r' ∧ Same G1 G' ∧ forGo g b (items.drop i) r' = some fl, ⟨items.length, by simp, Nat.zero_le _, O, G1, r1, P1, Same.refl _, e1⟩, ?_⟩
  rintro i n σ H ⟨rfl, hi, O', G', r', P2, g2, e2⟩
  by_cases hlt : i < items.length
  · have e3 := List.getElem?_eq_getElem hlt
    obtain ⟨jgo, jy⟩ := (q1 i H G' g2 P2.sub).1 _ e3
    rw [List.drop_eq_getElem_cons hlt] at e2
    refine .inr ⟨jgo, _, fun σ' H' p => ⟨_, (by omega : items.length - (i + 1) < items.length - i), p⟩, fun x H' y => ?_⟩
    obtain ⟨G2, ps, hd⟩ := jy x H' y
    obtain ⟨r3, e4, e5⟩ := Option.bind_eq_some_iff.mp e2
    refine ⟨F, O', G2, r', r3, _, P2.ps ps, hd, e4, fun σ2 P3 _ _ => ?_⟩
    have g3 := g2.trans ps.gg
    cases eb : b r3 with
    | none => rw [eb] at e5; cases e5
    | some fb =>
      rw [eb] at e5
      refine ⟨F, O', G2, r3, fb, P3, eb, ?_⟩
      cases fb with
      | nx r4 => exact fun O4 G4 σ4 H4 P4 g4 => ⟨rfl, hlt, O4, G4, r4, P4, g3.trans g4, e5⟩
      | ct r4 => exact fun O4 G4 σ4 H4 P4 g4 => ⟨rfl, hlt, O4, G4, r4, P4, g3.trans g4, e5⟩
      | bk r4 =>
        cases e5
        exact fun O4 G4 σ4 H4 P4 g4 => f1 O4 G4 σ4 H4 P4 (g3.trans g4)
      | rt d r4 =>
        cases e5
        exact fun O4 G4 σ4 H4 v P4 g4 => f1 O4 G4 σ4 H4 v P4 (g3.trans g4)
      | ex c p =>
        cases e5
        exact f1
      | rf ds r4 =>
        cases e5
        exact fun O4 G4 σ4 H4 p ys P4 g4 => f1 O4 G4 σ4 H4 p ys P4 (g3.trans g4)
  · have e3 : i = items.length := by omega
    subst e3
    rw [List.drop_length] at e2
    cases e2
    exact .inl ⟨(q1 _ H G' g2 P2.sub).2 (Nat.le_refl _), f1 O' G' σ H P2 g2⟩⟩
theorem ds_while (n : Nat) (hp : PassesOwn (model X.prog X.w) X.A X.env X.xe) (hc : DT K E X c mc) (hb : DSs K E X body b) : DS K E X (.While c body [] pos) (whGo mc b n) := ⟨fun hK => PS.imp (ps_while hp (hc.pt hK) (hb.ps hK)) fun D σ H ⟨F, O, G, r, fl, P, em, f⟩ => by
  refine ⟨fun n σ H => ∃ O' G' r', Rp K F O' G' σ H r' ∧ Same G G' ∧ whGo mc b n r' = some fl, ⟨n, O, G, r, P, Same.refl _, em⟩, ?_⟩
  rintro n σ H ⟨O', G', r', P2, g2, e2⟩
  cases n with
  | zero => cases e2
  | succ n =>
    refine tS.run P2 (f.via g2) e2 fun k r1 x G1 H1 P1 g1 q1 e1 f1 => ?_
    cases q1
    cases k with
    | false =>
      cases e1
      exact iteF (f1 O' G1 σ H1 P1 (Same.refl _))
    | true =>
      refine iteT ⟨_, fun σ' H' p => ⟨n, Nat.lt_succ_self n, p⟩, ?_⟩
      simp only [if_true] at e1
      have g3 := g2.trans g1.gg
      cases eb : b r1 with
      | none => rw [eb] at e1; cases e1
      | some fb =>
        rw [eb] at e1
        refine ⟨F, O', G1, r1, fb, P1, eb, ?_⟩
        cases fb with
        | nx r4 => exact fun O4 G4 σ4 H4 P4 g4 => ⟨O4, G4, r4, P4, g3.trans g4, e1⟩
        | ct r4 => exact fun O4 G4 σ4 H4 P4 g4 => ⟨O4, G4, r4, P4, g3.trans g4, e1⟩
        | bk r4 =>
          cases e1
          exact fun O4 G4 σ4 H4 P4 g4 => f1 O4 G4 σ4 H4 P4 g4
        | rt d r4 =>
          cases e1
          exact fun O4 G4 σ4 H4 v P4 g4 => f1 O4 G4 σ4 H4 v P4 g4
        | ex c p =>
          cases e1
          exact f1
        | rf ds r4 =>
          cases e1
          exact fun O4 G4 σ4 H4 p ys P4 g4 => f1 O4 G4 σ4 H4 p ys P4 g4⟩
/-- return a new list, return the list that a slot owns -/
def sRetF (m : M (List PyData)) : SM := sBind m fun ds r => some (.rf ds r)
theorem ds_retF (he : DF K E X e ml) : DS K E X (.Return (some e) pos) (sRetF ml) := ⟨fun hK => PS.imp (ps_ret (he.pe hK)) fun D σ H ⟨F, O, G, r, fl, P, em, f⟩ => by
  refine tS.run P f em fun d r1 x G1 H1 P1 g1 q1 e1 f1 => ?_
  cases e1
  obtain ⟨p, xs, rfl, hs, hg, h0, ho, hp, ha⟩ := q1
  exact f1 O G1 σ H1 p xs P1 (Same.refl _) hg h0 hp ha⟩
end
end DL
namespace DL
open PySem PySem.Spec PyProof.Rows L2 Lk
def Has (P : Program) (w : World) (K : PySem.W.Frag) (mg : Str → Option Value) (base : Heap) (k : Nat) (x : Str) (ps : List Str) (sp : Sp) : Prop :=
  ∃ (f : Addr) (fd : FuncData), FnOk P w K mg base CX0 k f fd ps sp ∧ Binds K fd ps [] ∧ mg x = some (.ref f) ∧ PySem.W.keepIn K (.ref f) = true
theorem Has.mono {P : Program} {w : World} {K : PySem.W.Frag} {mg : Str → Option Value} {base : Heap} {k j : Nat} {x : Str} {ps : List Str} {sp : Sp} (h : Has P w K mg base k x ps sp) (l : k ≤ j) : Has P w K mg base j x ps sp := by
  obtain ⟨f, fd, F, r⟩ := h
  exact ⟨f, fd, F.mono l, r⟩
section
variable {K : PySem.W.Frag} {E : XE} {X : Cx} {e : Expr} {es : List Expr} {m : M (List PyData)} {pos : Pos}
theorem dc {x : Str} {p : Pos} {k : Nat} {ps : List Str} {g : List PyData → Option PyData} (G : Has X.prog X.w K X.mg X.base k x ps (spD K g)) (hr : Room k X.A) (hg : Gl X x)
    (ha : DA K E X (e :: es) m) (hdb : (x == ("__debug__" : Str)) = false := by decide) (he : starEach (e :: es) X.env = (false, eval e X.env) :: starEach es X.env := by rfl)
    (hpl : (backTo pos (starEach es X.env)).any (·.1) = false := by rfl) : DE K E X (.Call (.Name x p) (e :: es) [] pos) (m.bind fun ds => M.lift (g ds)) := by
  obtain ⟨f, fd, F, b, gm, kp⟩ := G
  exact de_call F b gm kp hr hg ha hdb he hpl
/-- f(xs, ..), f changes the list of slot i -/
def mCallM (i : Nat) (m : M (List PyData)) (g : List PyData → List PyData → Option (PyData × List PyData)) : M PyData := fun r0 => if (ownOf r0[i]?).isSome then (m.bind fun ds r => match ownOf r[i]? with
  | some bs => (g bs ds).map fun z => .ok z.1 (upO i z.2 r)
  | none => none) r0 else none
theorem isSome_ex {α : Type} {o : Option α} (h : o.isSome = true) : ∃ a, o = some a := by
  cases o with
  | none => cases h
  | some a => exact ⟨a, rfl⟩
theorem dcM (i : Nat) {x y : Str} {p p2 : Pos} {k : Nat} {ps : List Str} {g : List PyData → List PyData → Option (PyData × List PyData)} (G : Has X.prog X.w K X.mg X.base k x ps (spM K g)) (hr : Room k X.A) (hg : Gl X x)
    (ha : DA K E X es m) (hN : X.N[i]? = some y := by rfl) (hv : Vis X.env.scope y := by first | exact Or.inl rfl | exact Or.inr (Or.inl rfl) | exact Or.inr (Or.inr rfl)) (hd : (y == ("__debug__" : Str)) = false := by decide) (hcd : (y == ("__classdict__" : Str)) = false := by decide)
    (hdb : (x == ("__debug__" : Str)) = false := by decide) (he : starEach (.Name y p2 :: es) X.env = (false, eval (.Name y p2) X.env) :: starEach es X.env := by rfl)
    (hpl : (backTo pos (starEach es X.env)).any (·.1) = false := by rfl) : DE K E X (.Call (.Name x p) (.Name y p2 :: es) [] pos) (mCallM i m g) := ⟨fun hK => by
  subst hK
  obtain ⟨f, fd, Fk, b, gm, kp⟩ := G
  refine PE.imp (pe_call (E := E0) Fk hr hg gm kp b .nil pass0 (pa_cons (pe_var hN hv hd hcd) (ha.pa rfl) he) hdb he hpl) fun σ H Q ⟨F, O, G, r, out, P, em, ff⟩ => ?_
  unfold mCallM at em
  split at em
  · rename_i hs
    obtain ⟨bs0, e0⟩ := isSome_ex hs
    obtain ⟨q, xs0, hq, hσ, _, _⟩ := P.own_at e0
    refine ⟨_, hσ, ?_⟩
    refine tM.run P ff em fun ds r1 xs G1 H1 P1 g1 q1 e1 f1 => ?_
    show spM X.K g ((.ref q :: xs) ++ []) H1 Q E0
    rw [List.append_nil]
    split at e1
    · rename_i bs e2
      obtain ⟨z, hz, rfl⟩ := Option.map_eq_some_iff.mp e1
      obtain ⟨q', xs1, hq', hσ', hx, hb⟩ := P1.own_at e2
      rw [hq] at hq'
      cases hq'
      refine ⟨G1, q, xs1, xs, bs, ds, z.1, z.2, rfl, P1.sub, (P1.on i q hq).2.1, hx, hb, q1, hz, fun v G' H' xs' gg gh gp kp gn hx' hb' hv' => ?_⟩
      obtain ⟨P2, g2⟩ := P1.chg e2 hq gg gh gp kp gn hx' hb'
      exact f1 v G' H' P2 g2 hv'
    · cases e1
  · cases em⟩
theorem Rp.own_dp {F : Fm} {O : Ow} {G H : Hp} {σ : L2.St} {r : En} (R : Rp K F O G σ H r) {i : Nat} {ds : List PyData} (e : ownOf r[i]? = some ds) : ∃ p xs, σ[i]? = some (some (.ref p)) ∧ H p = some (.lst xs) ∧ DqAll K G xs ds ∧ Dp K H (.ref p) (.list ds) := by
  obtain ⟨p, xs, h1, h2, h3, h4⟩ := R.own_at e
  exact ⟨p, xs, h2, h3, h4, .lst (.inl (.inl h3)) (h4.sm R.sub).dp⟩
def mLenO (i : Nat) : M PyData := fun r => match ownOf r[i]? with
  | some ds => some (.ok (.int ds.length) r)
  | none => none
def mIxO (i : Nat) (m : M PyData) : M PyData := fun r0 => if (ownOf r0[i]?).isSome then (m.bind fun d r => match ownOf r[i]?, asInt d with
  | some ds, some j => (atI ds j).map fun z => .ok z r
  | _, _ => none) r0 else none
theorem de_ixO (i : Nat) {y : Str} {p2 : Pos} {ma : M PyData} (ha : DE K E X e ma) (hs : PlainIx e) (hN : X.N[i]? = some y := by rfl) (hv : Vis X.env.scope y := by first | exact Or.inl rfl | exact Or.inr (Or.inl rfl) | exact Or.inr (Or.inr rfl)) (hd : (y == ("__debug__" : Str)) = false := by decide) (hcd : (y == ("__classdict__" : Str)) = false := by decide) :
    DE K E X (.Subscript (.Name y p2) e pos) (mIxO i ma) := ⟨fun hK => by
  subst hK
  refine PE.imp (pe_ix ix_list (pe_var hN hv hd hcd) (ha.pe rfl) hs) fun σ H Q ⟨F, O, G, r, out, P, em, ff⟩ => ?_
  unfold mIxO at em
  split at em
  · rename_i hs
    obtain ⟨bs0, e0⟩ := isSome_ex hs
    obtain ⟨q, xs0, hq, hσ, _, _⟩ := P.own_at e0
    refine ⟨_, hσ, ?_⟩
    refine tM.run P ff em fun d r1 x G1 H1 P1 g1 q1 e1 f1 => ?_
    split at e1
    · rename_i ds j e2 hj
      cases asInt_some hj
      cases q1
      obtain ⟨z, hz, rfl⟩ := Option.map_eq_some_iff.mp e1
      obtain ⟨q', xs1, hq', hσ', hx, hb⟩ := P1.own_at e2
      rw [hq] at hq'
      cases hq'
      obtain ⟨v, h1, h2⟩ := atI_dq hb hz
      exact ⟨q, xs1, j, v, rfl, rfl, .inl (.inl hx), h1, f1.ok (Ps.refl P1.sub) P1 h2⟩
    · cases e1
  · cases em⟩
def mTruO (i : Nat) : M Bool := fun r => match ownOf r[i]? with
  | some ds => some (.ok (!ds.isEmpty) r)
  | none => none
theorem dt_truO (i : Nat) {y : Str} {p2 : Pos} (hN : X.N[i]? = some y := by rfl) (hv : Vis X.env.scope y := by first | exact Or.inl rfl | exact Or.inr (Or.inl rfl) | exact Or.inr (Or.inr rfl)) (hd : (y == ("__debug__" : Str)) = false := by decide) (hcd : (y == ("__classdict__" : Str)) = false := by decide) :
    DT K E X (.Name y p2) (mTruO i) := ⟨fun hK => by
  subst hK
  refine PT.imp (pt_truth (pe_var hN hv hd hcd) (by intro _; rfl)) fun σ H Q ⟨F, O, G, r, out, P, em, ff⟩ => ?_
  unfold mTruO at em
  split at em
  · rename_i ds e0
    cases em
    obtain ⟨q, xs, h1, h2, h3, h4⟩ := P.own_dp e0
    refine ⟨_, h1, _, .inl ⟨xs, .inl (.inl h2), rfl⟩, ?_⟩
    have e : xs.isEmpty = ds.isEmpty := by
      have := h3.length
      cases xs <;> cases ds <;> first | rfl | (cases this)
    rw [e]
    exact ff.ok (Ps.refl P.sub) P rfl
  · cases em⟩
/-- a datum as a test: a list, a tuple, a text, a whole number, a bool, None -/
def truD : PyData → Option Bool
  | .none => some false
  | .bool b => some b
  | .int i => some (i != 0)
  | .str x => if x.length ≤ 1000000 then some ((x.length : Int) != 0) else none
  | .list ds => some (!ds.isEmpty)
  | .tuple ds => some (!ds.isEmpty)
  | .dict _ => none
theorem dq_empty {G : Hp} {xs : List V} {ds : List PyData} (h : DqAll K G xs ds) : xs.isEmpty = ds.isEmpty := by
  cases h <;> rfl
theorem dt_tru {ma : M PyData} (ha : DE K E X e ma) (he : ∀ whole, isTrue e X.env whole = (do let v ← whole; standAt e.pos; holding [v] (truthy v)) := by intro _; rfl) : DT K E X e (ma.bind fun d => M.lift (truD d)) := ⟨fun hK => by
  subst hK
  refine PT.imp (pt_truth (ha.pe rfl) he) fun σ H Q ⟨F, O, G, r, out, P, em, f⟩ => ?_
  refine tM.run P f em fun d r1 x G1 H1 P1 g1 q1 e1 f1 => ?_
  obtain ⟨b, hb, rfl⟩ := lift_ok e1
  have fin : Q b H1 := f1.ok (Ps.refl P1.sub) P1 rfl
  refine ⟨b, ?_, fin⟩
  cases q1 with
  | non => cases hb; rfl
  | bl b => cases hb; rfl
  | int i => cases hb; rfl
  | str x =>
    simp only [truD] at hb
    split at hb
    · rename_i hl
      cases hb
      exact ⟨line_le hl, rfl⟩
    · cases hb
  | lst hs ha =>
    cases hb
    exact .inl ⟨_, (P1.sub.seq hs), by rw [dq_empty ha]⟩
  | tup hs ha =>
    cases hb
    exact .inr (.inl ⟨_, Lk.Same.tup P1.sub hs, by rw [dq_empty ha]⟩)⟩
/-- xs.pop() -/
def mPop (i : Nat) : M PyData := fun r => match ownOf r[i]? with
  | some ds => (ds[ds.length - 1]?).map fun z => .ok z (upO i ds.dropLast r)
  | none => none
theorem de_pop (i : Nat) {y : Str} {p2 ap : Pos} (hN : X.N[i]? = some y := by rfl) (hv : Vis X.env.scope y := by first | exact Or.inl rfl | exact Or.inr (Or.inl rfl) | exact Or.inr (Or.inr rfl)) (hd : (y == ("__debug__" : Str)) = false := by decide) (hcd : (y == ("__classdict__" : Str)) = false := by decide)
    (hb : attributeBase (.Name y p2) "pop" X.env (eval (.Name y p2) X.env) = eval (.Name y p2) X.env := by rfl) (hpe : PE X (.Call (.Attribute (.Name y p2) "pop" ap) [] [] pos) (tBM0 X.K "list" rPop (tVar i))) :
    DE K E X (.Call (.Attribute (.Name y p2) "pop" ap) [] [] pos) (mPop i) := ⟨fun hK => by
  subst hK
  refine PE.imp hpe fun σ H Q ⟨F, O, G, r, out, P, em, ff⟩ => ?_
  unfold mPop at em
  split at em
  · rename_i ds e0
    obtain ⟨z, hz, rfl⟩ := Option.map_eq_some_iff.mp em
    obtain ⟨p, xs, h1, h2, h3, h4⟩ := P.own_at e0
    obtain ⟨v, h5, h6⟩ := h4.get hz
    refine ⟨_, h2, .inl ⟨rfl, _, .inl (.inl h3)⟩, p, xs, v, rfl, rfl, h3, by rw [h4.length]; exact h5, ?_⟩
    have gp := (P.on i p h1).2.1
    obtain ⟨P2, g2⟩ := P.chg e0 h1 (Same.refl G) (fun c o e => by rw [upd_ne (ne_of_none e gp)]; exact P.sub _ _ e) gp (fun c o n e => by rw [upd_ne n]; exact e) (fun c e => .inl e) (upd_same (o := .lst xs.dropLast)) (h4.dropLast)
    exact ff _ _ _ P2 g2 h6
  · cases em⟩
/-- xs.append(e) as a statement -/
def sApp (i : Nat) (m : M PyData) : SM := fun r0 => if (ownOf r0[i]?).isSome then sBind m (fun d r => match ownOf r[i]? with
  | some ds => if ds.length ≤ 1000000 then some (.nx (upO i (ds ++ [d]) r)) else none
  | none => none) r0 else none
theorem ds_app (i : Nat) {st : Stmt} {te : TE} {ma : M PyData} (ha : X.K = K → ∀ σ H Q, tM K E (rD K) ma σ H Q → te σ H Q) (hp : PS X st (tDrop (tBM X.K "list" rAppend (tVar i) (tCons te tNil)))) : DS K E X st (sApp i ma) := ⟨fun hK => by
  subst hK
  refine PS.imp hp fun D σ H ⟨F, O, G, r, fl, P, em, ff⟩ => ?_
  unfold sApp at em
  split at em
  · rename_i hs
    obtain ⟨bs0, e0⟩ := isSome_ex hs
    obtain ⟨q, xs0, hq, hσ, hx0, _⟩ := P.own_at e0
    refine ⟨_, hσ, .inl ⟨rfl, _, .inl (.inl hx0)⟩, ha rfl _ _ _ (tS.run P ff em fun d r1 x G1 H1 P1 g1 q1 e1 f1 => ?_)⟩
    split at e1
    · rename_i ds e2
      split at e1
      · rename_i hl
        cases e1
        obtain ⟨q', xs1, hq', hσ', hx, hb⟩ := P1.own_at e2
        rw [hq] at hq'
        cases hq'
        refine ⟨q, xs1, x, rfl, rfl, hx, line_lt (by rw [hb.length]; exact hl), ?_⟩
        have gp := (P1.on i q hq).2.1
        obtain ⟨P2, g2⟩ := P1.chg e2 hq (Same.refl G1) (fun c o e => by rw [upd_ne (ne_of_none e gp)]; exact P1.sub _ _ e) gp (fun c o n e => by rw [upd_ne n]; exact e) (fun c e => .inl e) (upd_same (o := .lst (xs1 ++ [x]))) (hb.append (.cons q1 .nil))
        exact f1 O G1 σ _ P2 (Same.refl _)
      · cases e1
    · cases e1
  · cases em⟩
/-- xs[a] = b -/
def sPutIx (i : Nat) (ma mb : M PyData) : SM := sBind mb fun d r1 => if (ownOf r1[i]?).isSome then sBind ma (fun j r => match ownOf r[i]?, asInt j with
  | some ds, some j => (ixN ds.length j).map fun n => .nx (upO i (ds.set n d) r)
  | _, _ => none) r1 else none
theorem ds_putIx (i : Nat) {y : Str} {p2 tp : Pos} {a b : Expr} {ma mb : M PyData} (hb : DE K E X b mb) (ha : DE K E X a ma) (hN : X.N[i]? = some y := by rfl) (hv : Vis X.env.scope y := by first | exact Or.inl rfl | exact Or.inr (Or.inl rfl) | exact Or.inr (Or.inr rfl)) (hd : (y == ("__debug__" : Str)) = false := by decide) (hcd : (y == ("__classdict__" : Str)) = false := by decide)
    (hs : swapsWithSole [.Subscript (.Name y p2) a tp] b pos.line X.env = pure false := by rfl) (hw : swappedStores [.Subscript (.Name y p2) a tp] b X.env = pure none := by rfl)
    (h1 : (assignEach [.Subscript (.Name y p2) a tp] X.env).map (·.2) = [assign (.Subscript (.Name y p2) a tp) X.env] := by rfl)
    (h2 : ∀ v, assign (.Subscript (.Name y p2) a tp) X.env v = (do
      let ov ← holding [v] (eval (.Name y p2) X.env)
      let iv ← holding [v, ov] (eval a X.env)
      standAt tp
      holding [v, ov, iv] (setItem ov iv v)
      release [v, ov, iv] []) := by intro _; rfl) : DS K E X (.Assign [.Subscript (.Name y p2) a tp] b pos) (sPutIx i ma mb) := ⟨fun hK => by
  subst hK
  refine PS.imp (ps_asg (hb.pe rfl) (pg_sub (pe_var hN hv hd hcd) (ha.pe rfl) set_list h2) hs hw h1) fun D σ H ⟨F, O, G, r, fl, P, em, ff⟩ => ?_
  refine tS.run P ff em fun d r1 x G1 H1 P1 g1 q1 e1 f1 => ?_
  split at e1
  · rename_i hs
    obtain ⟨bs0, e0⟩ := isSome_ex hs
    obtain ⟨q, xs0, hq, hσ, hx0, _⟩ := P1.own_at e0
    refine ⟨_, hσ, ?_⟩
    refine tS.run P1 f1 e1 fun j r2 y2 G2 H2 P2 g2 q2 e2 f2 => ?_
    split at e2
    · rename_i ds j' e3 hj
      cases asInt_some hj
      cases q2
      obtain ⟨n, hn, rfl⟩ := Option.map_eq_some_iff.mp e2
      obtain ⟨q', xs1, hq', hσ', hx, hbs⟩ := P2.own_at e3
      rw [hq] at hq'
      cases hq'
      refine ⟨q, xs1, j', n, rfl, rfl, hx, by rw [hbs.length]; exact hn, ?_⟩
      have gp := (P2.on i q hq).2.1
      obtain ⟨P3, g3⟩ := P2.chg e3 hq (Same.refl G2) (fun c o e => by rw [upd_ne (ne_of_none e gp)]; exact P2.sub _ _ e) gp (fun c o n e => by rw [upd_ne n]; exact e) (fun c e => .inl e) (upd_same (o := .lst (xs1.set n x))) (hbs.set (q1.sm g2.gg) n)
      exact f2 O G2 σ _ P3 (Same.refl _)
    · cases e2
  · cases e1⟩
end
def ini (N : List Str) (ds : List PyData) : En := ds.map Cel.pl ++ List.replicate (N.length - ds.length) .un
section
variable {P : Program} {w : World} {K : PySem.W.Frag} {mg : Str → Option Value} {base : Heap}
theorem start_rp {N : List Str} {G H : Hp} {vs : List V} {ds : List PyData} (sg : Same G H) (hd : DqAll K G vs ds) : Rp K ⟨H, G, fun _ => none⟩ (fun _ => none) G (L2.start N vs) H (ini N ds) := by
  have hl := hd.length
  refine ⟨sg, by simp [L2.start, ini, hl], fun i d e => ?_, fun i ds' e => ?_, fun i ds' e => ?_, fun i ds' e => ?_, fun i p e => (by cases e), fun i j p e => (by cases e), fun c o e _ => e, fun c e => e, Same.refl _, fun c e => .inl e⟩
  all_goals
    unfold ini at e
    rw [List.getElem?_append] at e
    split at e
    · rename_i hi
      rw [List.length_map] at hi
      rw [List.getElem?_map] at e
      obtain ⟨d', h1, h2⟩ := Option.map_eq_some_iff.mp e
      first
      | (cases h2
         obtain ⟨v, h3, h4⟩ := hd.get h1
         refine ⟨v, ?_, h4⟩
         unfold L2.start
         rw [List.getElem?_append_left (by rw [List.length_map, hl]; exact hi), List.getElem?_map, h3]
         rfl)
      | cases h2
    · rw [List.getElem?_replicate] at e
      split at e
      · cases e
      · cases e
theorem def_D {x qual : Str} {st : Stmt} {f : Addr} {fd : FuncData} {N ps : List Str} {k : Nat} {g : List PyData → Option PyData} {sv : SM} (F : Fun K x qual st f fd) (S : FnScope N ps (defScope st))
    (h : ∀ (cdv : Value) (A : Around) (outer : List Env) (s : Shared) (H : Hp) (E : XK), Room k (A.deeper (envOfC qual (defScope st) s.heap.objs.size f cdv)) → DSs K XN (cxOf CX0 P w K mg base N qual (defScope st) f cdv A outer s H E).nox (defBody st) sv)
    (sp : ∀ ds z, g ds = some z → ds.length = ps.length ∧ ∃ r', sv (ini N ds) = some (.rt z r') ∨ z = .none ∧ sv (ini N ds) = some (.nx r')) : FnOk P w K mg base CX0 (k + 1) f fd ps (spD K g) := by
  refine F.ok S (fun vs H Q E ⟨G, ds, z, sg, hd, hz, q⟩ => by rw [hd.length]; exact (sp ds z hz).1) fun cdv A outer s H vs Q E hr ⟨G, ds, z, sg, hd, hz, q⟩ => ?_
  refine ⟨_, (h cdv A outer s H E hr).ps rfl, ?_⟩
  obtain ⟨_, r', e | ⟨rfl, e⟩⟩ := sp ds z hz
  · exact ⟨_, _, G, _, _, start_rp sg hd, e, fun O' G' σ' H' v R g hv => q v G' H' ⟨R.g0, R.sub, fun c o e => R.old c o e fun i z => (nomatch z), R.gn⟩ hv⟩
  · exact ⟨_, _, G, _, _, start_rp sg hd, e, fun O' G' σ' H' R g => q .non G' H' ⟨R.g0, R.sub, fun c o e => R.old c o e fun i z => (nomatch z), R.gn⟩ .non⟩
def iniM (N : List Str) (bs ds : List PyData) : En := .io bs :: (ds.map Cel.pl ++ List.replicate (N.length - (ds.length + 1)) .un)
theorem start_rpM {N : List Str} {G H : Hp} {p : Addr} {xs : List V} {vs : List V} {bs ds : List PyData} (sg : Same G H) (gp : G p = none) (hp : H p = some (.lst xs)) (hb : DqAll K G xs bs) (hd : DqAll K G vs ds) :
    Rp K ⟨H, G, fun i => if i = 0 then some p else none⟩ (fun i => if i = 0 then some p else none) G (L2.start N (.ref p :: vs)) H (iniM N bs ds) := by
  have hl := hd.length
  have no : ∀ {i : Nat} {q : Addr}, (if i = 0 then some p else none) = some q → i = 0 ∧ q = p := fun {i q} e => by
    split at e
    · cases e
      exact ⟨by assumption, rfl⟩
    · cases e
  have tail : ∀ (i : Nat) (c : Cel), (iniM N bs ds)[i + 1]? = some c → c = .un ∨ ∃ d, ds[i]? = some d ∧ c = .pl d := fun i c e => by
    have e' : (ds.map Cel.pl ++ List.replicate (N.length - (ds.length + 1)) .un)[i]? = some c := e
    rw [List.getElem?_append] at e'
    split at e'
    · rw [List.getElem?_map] at e'
      obtain ⟨d', h1, h2⟩ := Option.map_eq_some_iff.mp e'
      exact .inr ⟨d', h1, h2.symm⟩
    · rw [List.getElem?_replicate] at e'
      split at e'
      · exact .inl (Option.some.inj e').symm
      · cases e'
  refine ⟨sg, by simp [L2.start, iniM, hl], fun i d e => ?_, fun i ds' e => ?_, fun i ds' e => ?_, fun i ds' e => ?_, fun i q e => ?_, fun i j q e1 e2 => ?_, fun c o e _ => e, fun c e => e, Same.refl _, fun c e => .inl e⟩
  · cases i with
    | zero => cases e
    | succ i =>
      rcases tail i _ e with z | ⟨d', h1, h2⟩
      · cases z
      · cases h2
        obtain ⟨v, h3, h4⟩ := hd.get h1
        refine ⟨v, ?_, h4⟩
        have li := (List.getElem?_eq_some_iff.mp h3).1
        show (vs.map some ++ List.replicate _ none)[i]? = _
        rw [List.getElem?_append_left (by rw [List.length_map]; exact li), List.getElem?_map, h3]
        rfl
  · cases i with
    | zero => cases e
    | succ i =>
      rcases tail i _ e with z | ⟨d', h1, h2⟩
      · cases z
      · cases h2
  · cases i with
    | zero =>
      cases e
      exact ⟨p, xs, rfl, rfl, rfl, hp, hb⟩
    | succ i =>
      rcases tail i _ e with z | ⟨d', h1, h2⟩
      · cases z
      · cases h2
  · cases i with
    | zero => cases e
    | succ i =>
      rcases tail i _ e with z | ⟨d', h1, h2⟩
      · cases z
      · cases h2
  · obtain ⟨rfl, rfl⟩ := no e
    exact ⟨⟨.io bs, rfl, rfl⟩, gp, some_ne hp, .inr ⟨0, rfl⟩⟩
  · obtain ⟨rfl, rfl⟩ := no e1
    exact (no e2).1.symm
theorem def_M {x qual : Str} {st : Stmt} {f : Addr} {fd : FuncData} {N ps : List Str} {k : Nat} {g : List PyData → List PyData → Option (PyData × List PyData)} {sv : SM} (F : Fun K x qual st f fd) (S : FnScope N ps (defScope st))
    (h : ∀ (cdv : Value) (A : Around) (outer : List Env) (s : Shared) (H : Hp) (E : XK), Room k (A.deeper (envOfC qual (defScope st) s.heap.objs.size f cdv)) → DSs K XN (cxOf CX0 P w K mg base N qual (defScope st) f cdv A outer s H E).nox (defBody st) sv)
    (sp : ∀ bs ds z, g bs ds = some z → ds.length + 1 = ps.length ∧ ∃ r', r'[0]? = some (Cel.io z.2) ∧ (sv (iniM N bs ds) = some (.rt z.1 r') ∨ z.1 = .none ∧ sv (iniM N bs ds) = some (.nx r'))) : FnOk P w K mg base CX0 (k + 1) f fd ps (spM K g) := by
  refine F.ok S (fun vs H Q E ⟨G, p, xs, ws, bs, ds, z, bs', e, sg, gp, hp, hb, hd, hz, q⟩ => by rw [e, List.length_cons, hd.length]; exact (sp bs ds _ hz).1) fun cdv A outer s H vs Q E hr ⟨G, p, xs, ws, bs, ds, z, bs', e, sg, gp, hp, hb, hd, hz, q⟩ => ?_
  subst e
  refine ⟨_, (h cdv A outer s H E hr).ps rfl, ?_⟩
  obtain ⟨_, r', hr0, e⟩ := sp bs ds _ hz
  have fin : ∀ (O' : Ow) (G' : Hp) (σ' : L2.St) (H' : Hp) (v : V), Rp K ⟨H, G, fun i => if i = 0 then some p else none⟩ O' G' σ' H' r' → Dq K G' v z → Q v H' := fun O' G' σ' H' v R hv => by
    obtain ⟨p', xs', h0, h1, h2, h3, h4⟩ := R.io 0 _ hr0
    cases h0
    exact q v G' H' xs' R.g0 R.sub (R.on 0 p h1).2.1 (fun c o n e => R.old c o e fun i z => by
      dsimp only at z
      split at z
      · cases z
        exact n rfl
      · cases z) R.gn h3 h4 hv
  rcases e with e | ⟨hz0, e⟩
  · exact ⟨_, _, G, _, _, start_rpM sg gp hp hb hd, e, fun O' G' σ' H' v R g hv => fin O' G' σ' H' v R hv⟩
  · refine ⟨_, _, G, _, _, start_rpM sg gp hp hb hd, e, fun O' G' σ' H' R g => fin O' G' σ' H' .non R ?_⟩
    rw [show z = .none from hz0]
    exact .non
end
end DL
namespace DL
open PySem PySem.Spec PyProof.Rows L2 Lk
def mOp2 (g : PyData → PyData → Option PyData) (ma mb : M PyData) : M PyData := ma.bind fun d => mb.bind fun e => M.lift (g d e)
def mOpT (g : PyData → PyData → Option PyData) (ma mb : M PyData) : M Bool := ma.bind fun d => mb.bind fun e => M.lift ((g d e).bind asBool)
def mCons (ma : M PyData) (m : M (List PyData)) : M (List PyData) := ma.bind fun d => m.bind fun ds => M.ret (d :: ds)
def mNil : M (List PyData) := M.ret []
def mCall (g : List PyData → Option PyData) (m : M (List PyData)) : M PyData := m.bind fun ds => M.lift (g ds)
def mCallF (g : List PyData → Option (List PyData)) (m : M (List PyData)) : M (List PyData) := m.bind fun ds => M.lift (g ds)
def mTup (m : M (List PyData)) : M PyData := m.bind fun ds => M.lift (tupM ds)
def mLst (m : M (List PyData)) : M (List PyData) := m.bind fun ds => M.lift (lstM ds)
def mNew (m : M (List PyData)) : M PyData := m.map PyData.list
def mVal (m : M PyData) : M Bool := m.bind fun d => M.lift (asBool d)
def mTru (m : M PyData) : M Bool := m.bind fun d => M.lift (truD d)
def mNotT (m : M Bool) : M Bool := m.bind fun b => M.ret (!b)
def mNotV (m : M PyData) : M PyData := m.bind fun d => (M.lift (asBool d)).bind fun b => M.ret (.bool (!b))
def mIsi (n : String) (m : M PyData) : M PyData := m.bind fun d => M.ret (.bool (isTy n d))
def mNeg (m : M PyData) : M PyData := m.bind fun d => M.lift (negM d)
def mSeq (m : M PyData) : M (List PyData) := m.bind fun d => M.lift (asSeq d)
def mRng1 (m : M (List PyData)) : M (List PyData) := m.bind fun ds => M.lift (if ds.length = 1 then rngM ds else none)
def mRng2 (m : M (List PyData)) : M (List PyData) := m.bind fun ds => M.lift (if ds.length = 2 then rngM ds else none)
def mPart (m : M PyData) : M (Option Int) := m.bind fun d => M.lift ((asInt d).map some)
def mNoPart : M (Option Int) := M.ret none
def mSlice (m : M PyData) (ml mh : M (Option Int)) : M (List PyData) := m.bind fun d => ml.bind fun l => mh.bind fun h => M.lift ((asList d).map fun ds => cutD ds l h)
def sAsg (m : M PyData) (g : PyData → En → Option En) : SM := sBind m fun d r => (g d r).map .nx
def sBrk : SM := fun r => some (.bk r)
def sCont : SM := fun r => some (.ct r)
def sNo : SM := fun _ => none
def outD : Option Fl → Option PyData
  | some (.rt z _) => some z
  | some (.nx _) => some .none
  | _ => none
def runD (N : List Str) (n : Nat) (sv : SM) (ds : List PyData) : Option PyData := if ds.length = n then outD (sv (ini N ds)) else none
def ioAt (r : En) : Option (List PyData) := match r[0]? with
  | some (Cel.io bs) => some bs
  | _ => none
theorem ioAt_some {r : En} {bs : List PyData} (h : ioAt r = some bs) : r[0]? = some (Cel.io bs) := by
  unfold ioAt at h
  split at h
  · rename_i e
    cases h
    exact e
  · cases h
def outM : Option Fl → Option (PyData × List PyData)
  | some (.rt z r) => (ioAt r).map fun bs => (z, bs)
  | some (.nx r) => (ioAt r).map fun bs => (.none, bs)
  | _ => none
def runM (N : List Str) (n : Nat) (sv : SM) (bs ds : List PyData) : Option (PyData × List PyData) := if ds.length + 1 = n then outM (sv (iniM N bs ds)) else none
section
variable {P : Program} {w : World} {K : PySem.W.Frag} {mg : Str → Option Value} {base : Heap}
theorem def_d {x qual : Str} {st : Stmt} {f : Addr} {fd : FuncData} {N ps : List Str} {k n : Nat} {sv : SM} (F : Fun K x qual st f fd) (S : FnScope N ps (defScope st)) (hb : Binds K fd ps []) (hm : mg x = some (.ref f))
    (h : ∀ (cdv : Value) (A : Around) (outer : List Env) (s : Shared) (H : Hp) (E : XK), Room k (A.deeper (envOfC qual (defScope st) s.heap.objs.size f cdv)) → DSs K XN (cxOf CX0 P w K mg base N qual (defScope st) f cdv A outer s H E).nox (defBody st) sv)
    (hn : ps.length = n := by rfl) : Has P w K mg base (k + 1) x ps (spD K (runD N n sv)) := by
  refine ⟨f, fd, def_D F S h fun ds z e => ?_, hb, hm, F.kp⟩
  unfold runD at e
  split at e
  · rename_i hl
    refine ⟨hl.trans hn.symm, ?_⟩
    cases q : sv (ini N ds) with
    | none => rw [q] at e; cases e
    | some fl =>
      rw [q] at e
      cases fl with
      | rt d r => cases e; exact ⟨r, .inl rfl⟩
      | nx r => cases e; exact ⟨r, .inr ⟨rfl, rfl⟩⟩
      | _ => cases e
  · cases e
theorem def_m {x qual : Str} {st : Stmt} {f : Addr} {fd : FuncData} {N ps : List Str} {k n : Nat} {sv : SM} (F : Fun K x qual st f fd) (S : FnScope N ps (defScope st)) (hb : Binds K fd ps []) (hm : mg x = some (.ref f))
    (h : ∀ (cdv : Value) (A : Around) (outer : List Env) (s : Shared) (H : Hp) (E : XK), Room k (A.deeper (envOfC qual (defScope st) s.heap.objs.size f cdv)) → DSs K XN (cxOf CX0 P w K mg base N qual (defScope st) f cdv A outer s H E).nox (defBody st) sv)
    (hn : ps.length = n := by rfl) : Has P w K mg base (k + 1) x ps (spM K (runM N n sv)) := by
  refine ⟨f, fd, def_M F S h fun bs ds z e => ?_, hb, hm, F.kp⟩
  unfold runM at e
  split at e
  · rename_i hl
    refine ⟨hl.trans hn.symm, ?_⟩
    cases q : sv (iniM N bs ds) with
    | none => rw [q] at e; cases e
    | some fl =>
      rw [q] at e
      cases fl with
      | rt d r =>
        simp only [outM] at e
        obtain ⟨bs', h0, rfl⟩ := Option.map_eq_some_iff.mp e
        exact ⟨r, ioAt_some h0, .inl rfl⟩
      | nx r =>
        simp only [outM] at e
        obtain ⟨bs', h0, rfl⟩ := Option.map_eq_some_iff.mp e
        exact ⟨r, ioAt_some h0, .inr ⟨rfl, rfl⟩⟩
      | _ => cases e
  · cases e
end
end DL
namespace DL
open PySem PySem.Spec PyProof.Rows L2 Lk
section
variable {K : PySem.W.Frag} {E : XE} {X : Cx} {a b e : Expr} {es : List Expr} {ma mb : M PyData} {m : M (List PyData)} {pos : Pos}
/-- [*xs, a, ..] -/
def mStar (ma : M PyData) (m : M (List PyData)) : M (List PyData) := ma.bind fun d => (M.lift (asSeq d)).bind fun xs => m.bind fun ds => M.ret (xs ++ ds)
theorem da_star {p : Pos} (ha : DE K E X e ma) (hr : DA K E X es m) (hs : starEach (.Starred e p :: es) X.env = (true, eval e X.env) :: starEach es X.env := by rfl) : DA K E X (.Starred e p :: es) (mStar ma m) := ⟨fun hK => by
  subst hK
  refine PA.imp (StX.pa_star (ha.pe rfl) (hr.pa rfl) hs) fun σ H Q ⟨F, O, G, r, out, P, em, f⟩ => ?_
  refine tM.run P f em fun d r1 x G1 H1 P1 g1 q1 e1 f1 => ?_
  obtain ⟨xs, hx, e2⟩ := bind_lift_ok e1
  have go : ∀ (ys : List V), DqAll X.K G1 ys xs → tM X.K E (rA X.K) m σ H1 fun zs H2 => Q (ys ++ zs) H2 := fun ys hy => tM.run P1 f1 e2 fun ds r2 zs G2 H2 P2 g2 q2 e3 f2 => by
    cases e3
    exact f2.ok (Ps.refl P2.sub) P2 ((hy.sm g2.gg).append q2)
  cases d <;> first | cases hx | skip
  · cases q1 with
    | lst hs ha => exact ⟨_, _, rfl, .inr ((P1.sub.seq hs)), go _ ha⟩
  · cases q1 with
    | tup hs ha => exact ⟨_, _, rfl, .inl (Lk.Same.tup P1.sub hs), go _ ha⟩⟩
/-- list(range(n)) -/
def mLRng1 (ma : M PyData) : M (List PyData) := ma.bind fun d => M.lift ((asInt d).bind fun n => if n.natAbs ≤ 1000000 then some (rngL 0 n.toNat) else none)
theorem dq_rng {G : Hp} {a b : Int} : DqAll K G (rgV a b) (rngL a (b - a).toNat) := by
  have key : ∀ l : List Nat, DqAll K G (l.map fun i => V.int (a + (i : Nat))) (l.map fun i => PyData.int (a + (i : Nat))) := fun l => by
    induction l with
    | nil => exact .nil
    | cons i l ih => exact .cons (.int _) ih
  exact key _
theorem df_lrng1 {p p2 pos2 : Pos} (hc : X.calm = true) (hg : Gl X "list") (hm : X.mg "list" = none) (hg2 : Gl X "range") (hm2 : X.mg "range" = none) (ha : DE K E X a ma) (na : starEach [a] X.env = (false, eval a X.env) :: starEach [] X.env := by rfl)
    (na2 : starEach [.Call (.Name "range" p2) [a] [] pos2] X.env = (false, eval (.Call (.Name "range" p2) [a] [] pos2) X.env) :: starEach [] X.env := by rfl) : DF K E X (.Call (.Name "list" p) [.Call (.Name "range" p2) [a] [] pos2] [] pos) (mLRng1 ma) := ⟨fun hK => by
  refine PE.imp (pe_listRg hc hg hm (prg_1 hg2 hm2 (ha.pe hK) na) na2) fun σ H Q ⟨F, O, G, r, out, P, em, f⟩ => ?_
  refine tM.run P f em fun d r1 x G1 H1 P1 g1 q1 e1 f1 => ?_
  obtain ⟨z, hz, rfl⟩ := lift_ok e1
  obtain ⟨n, hn, hz2⟩ := Option.bind_eq_some_iff.mp hz
  cases asInt_some hn
  cases q1
  split at hz2
  · rename_i hl
    cases hz2
    refine ⟨n, rfl, ⟨by omega, by omega, by omega, by omega, by omega⟩, fun q nq => f1.ok (Ps.of_same P1.sub (same_new nq)) P1 ⟨q, _, rfl, nq, P1.sub.free nq, P1.nf _ nq, fun i z => (P1.on i q z).2.2.1 nq, upd_same, ?_⟩⟩
    have := dq_rng (K := K) (G := G1) (a := 0) (b := n)
    rw [Int.sub_zero] at this
    exact this
  · cases hz2⟩
/-- a, b = x, y -/
def sPar (i j : Nat) (m : M (List PyData)) : SM := sBind m fun ds r => match ds with
  | [d, e] => sSeq (sPut i d) (sPut j e) r
  | _ => none
theorem ds_par {i j : Nat} {x y : Str} {px py pt : Pos} {kt k2 pt2} (hc : X.calm = true) (hN : X.N.Nodup) (hi : X.N[i]? = some x) (hj : X.N[j]? = some y) (hij : i ≠ j)
    (hx : X.env.scope.names.lookup x = some .local) (hy : X.env.scope.names.lookup y = some .local) (ha : DA K E X [a, b] m)
    (hw : swappedStores [.Tuple [.Name x px, .Name y py] kt pt] (.Tuple [a, b] k2 pt2) X.env = pure (some [x, y]))
    (hs : swapsWithSole [.Tuple [.Name x px, .Name y py] kt pt] (.Tuple [a, b] k2 pt2) pos.line X.env = pure false := by rfl) :
    DS K E X (.Assign [.Tuple [.Name x px, .Name y py] kt pt] (.Tuple [a, b] k2 pt2) pos) (sPar i j m) := ⟨fun hK => by
  refine PS.imp (ps_par hc hN hi hj hij hx hy (ha.pa hK) hw hs) fun D σ H ⟨F, O, G, r, fl, P, em, f⟩ => ?_
  refine tS.run P f em fun ds r1 vs G1 H1 P1 g1 q1 e1 f1 => ?_
  split at e1
  · obtain ⟨v, w, rfl, hv, hw⟩ := two_of q1
    refine ⟨v, w, rfl, ?_⟩
    unfold sSeq at e1
    cases e2 : sPut i _ r1 with
    | none => rw [e2] at e1; cases e1
    | some fl2 =>
      rw [e2] at e1
      unfold sPut at e2
      split at e2
      · cases e2
      · rename_i cel hne hc
        cases e2
        simp only at e1
        unfold sPut at e1
        split at e1
        · cases e1
        · rename_i cel2 hne2 hc2
          cases e1
          have P2 := P1.put0 (fun ds z => hne ds (Option.some.inj (hc.symm.trans z))) hv
          exact f1 _ G1 _ H1 (P2.put0 (fun ds z => hne2 ds (Option.some.inj (hc2.symm.trans z))) hw) (Same.refl _)
        · cases e1
      · cases e2
  · cases e1⟩
/-- of that built-in type, one that bears methods here -/
def hasT (T : String) : PyData → Bool
  | .str _ => T == "str"
  | .int _ => T == "int"
  | .list _ => T == "list"
  | _ => false
def mMt (T : String) (g : PyData → List PyData → Option PyData) (ma : M PyData) (m : M (List PyData)) : M PyData := ma.bind fun d => if hasT T d then m.bind fun ds => M.lift (g d ds) else fun _ => none
open PySem.AutoSeq1 in
theorem list_extend_tupA (l : Addr) (items : Array Value) (n : Nat) (b : Addr) (items2 : Array Value) (n2 : Nat) (od : Option Addr) (sl : Array (Option Value)) (hs0 : ¬(!items.isEmpty && Builtin.List.listTooLong (items.size + items2.size)) = true) (hs1 : items.size ≤ sizeLine) (hs2 : items.size + items2.size ≤ sizeLine + 1 := by seq_fits) :
    Meets (Builtin.«list.extend» ⟨[.ref l, .ref b], []⟩) (fun _ R s => s.heap.get? l = some { cls := .type "list", dict := none, data := .seq items n, slots := #[] } ∧ s.heap.get? b = some { cls := .type "tuple", dict := od, data := .seq items2 n2, slots := sl } ∧ R (.ok (.ret Value.none)) { s with heap := s.heap.update l (Obj.mapSeq fun x => x ++ items2), toks := s.toks }) :=
  .of_wp fun prog w A R s h => by
    obtain ⟨hp, g, d, tk, os⟩ := s; obtain ⟨hl, hb, h⟩ := h; have f1 := idx_int; have f2 := AutoSeq1.sub_tuple_tuple; have f3 := AutoSeq1.sub_list_list; have f4 := AutoSeq1.sub_tuple_list; have f5 := AutoSeq1.sub_list_tuple;
    have hz' : (items ++ items2).size ≤ sizeLine + 1 := by rw [Array.size_append]; exact hs2
    wp_walk using (wpAny_updateSeq hl rfl (hz := hs1) (_hz' := hz')), wpAny_loadPart' hl, wpAny_loadPart' hb; exact ⟨_, rfl, h⟩
def rExtendA (K : PySem.W.Frag) : V → List V → Hp → VK → Prop := fun x vs H Q => ∃ l b xs zs, x = .ref l ∧ vs = [.ref b] ∧ H l = some (.lst xs) ∧ SqT K H b zs ∧ xs.length + zs.length ≤ sizeLine ∧ Q .non (upd H l (.lst (xs ++ zs)))
theorem mt_extendA : MtM X "list.extend" (rExtendA X.K) := by
  intro pins s σ H x vs v us Q I rx rv h
  obtain ⟨l, b, xs, zs, rfl, rfl, hH, hB, hz, q⟩ := h
  cases rx
  obtain ⟨u, rfl, ru⟩ := rv.one
  cases ru
  obtain ⟨z, its, n, r, hl, e⟩ := I.lstM hH
  obtain ⟨its2, r2, ⟨⟨oc, od, odata, osl⟩, e2, hc, n2, hdata⟩, z2⟩ := I.tuple hB
  have hl2 : zs.length = its2.length := r2.length
  cases hc
  cases hdata
  have hsz : its.toArray.size + its2.toArray.size ≤ sizeLine := by rw [List.size_toArray, List.size_toArray]; omega
  have hlong : ¬ (!its.toArray.isEmpty && Builtin.List.listTooLong (its.toArray.size + its2.toArray.size)) = true := by
    rw [notLongL hsz, Bool.and_false]
    exact Bool.false_ne_true
  refine call_meets F.slot_list_extend ⟨_, e, rfl⟩ F.entry_list_extend (F.args_list_extend_2 _ _)
    (list_extend_tupA l its.toArray n b its2.toArray n2 od osl hlong (by rw [List.size_toArray]; omega) (by omega)) ⟨e, e2, ?_⟩
  refine ⟨.non, _, I.lset (its' := its ++ its2) hH e (by simp) (r.append r2) ?_, rfl, q⟩
  rw [List.length_append]
  omega
def sExt (i : Nat) (m : M PyData) : SM := fun r0 => if (ownOf r0[i]?).isSome then sBind m (fun d r => match ownOf r[i]?, asTup d with
  | some ds, some es => if ds.length + es.length ≤ 1000000 then some (.nx (upO i (ds ++ es) r)) else none
  | _, _ => none) r0 else none
theorem ds_ext (i : Nat) {st : Stmt} {te : TE} (ha : X.K = K → ∀ σ H Q, tM K E (rD K) ma σ H Q → te σ H Q) (hp : PS X st (tDrop (tBM X.K "list" (rExtendA X.K) (tVar i) (tCons te tNil)))) : DS K E X st (sExt i ma) := ⟨fun hK => by
  subst hK
  refine PS.imp hp fun D σ H ⟨F, O, G, r, fl, P, em, ff⟩ => ?_
  unfold sExt at em
  split at em
  · rename_i hs
    obtain ⟨bs0, e0⟩ := isSome_ex hs
    obtain ⟨q, xs0, hq, hσ, hx0, _⟩ := P.own_at e0
    refine ⟨_, hσ, .inl ⟨rfl, _, .inl (.inl hx0)⟩, ha rfl _ _ _ (tS.run P ff em fun d r1 x G1 H1 P1 g1 q1 e1 f1 => ?_)⟩
    split at e1
    · rename_i ds es e2 hes
      split at e1
      · rename_i hl
        cases e1
        obtain ⟨q', xs1, hq', hσ', hx, hb⟩ := P1.own_at e2
        rw [hq] at hq'
        cases hq'
        have gp := (P1.on i q hq).2.1
        have fin : ∀ (ys : List V), DqAll X.K G1 ys es → D.nx σ (upd H1 q (.lst (xs1 ++ ys))) := fun ys hy => by
          obtain ⟨P2, g2⟩ := P1.chg e2 hq (Same.refl G1) (fun c o e => by rw [upd_ne (ne_of_none e gp)]; exact P1.sub _ _ e) gp (fun c o n e => by rw [upd_ne n]; exact e) (fun c e => .inl e) (upd_same (o := .lst (xs1 ++ ys))) (hb.append hy)
          exact f1 O G1 σ _ P2 (Same.refl _)
        cases asTup_some hes
        cases q1 with
        | tup hs ha => exact ⟨q, _, xs1, _, rfl, rfl, hx, Lk.Same.tup P1.sub hs, line_le (by rw [hb.length, ha.length]; exact hl), fin _ ha⟩
      · cases e1
    · cases e1
  · cases em⟩
end
end DL
namespace DL
open PySem PySem.Spec PyProof.Rows L2 Lk
section
variable {K : PySem.W.Frag} {E : XE} {X : Cx} {pos : Pos} {F : Fm} {O : Ow} {G H : Hp} {σ : L2.St} {r : En}
/-- the new list at D, unseen, so far -/
structure Acc (K : PySem.W.Frag) (F : Fm) (O : Ow) (G1 H1 : Hp) (D : Addr) (σ : L2.St) (G H : Hp) (r : En) (xs : List V) (ds : List PyData) : Prop where
  rp : Rp K F O G σ H r
  go : Go O G1 H1 G H
  gD : G D = none
  hD : H D = some (.lst xs)
  hx : DqAll K G xs ds
theorem Acc.step {G1 H1 G2 H2 : Hp} {D : Addr} {xs : List V} {ds : List PyData} {r2 : En} {σ2 : L2.St} (A : Acc K F O G1 H1 D σ G H r xs ds) (hDo : ∀ i, O i ≠ some D) (g : Go O G H G2 H2) (P : Rp K F O G2 σ2 H2 r2) : Acc K F O G1 H1 D σ2 G2 H2 r2 xs ds := by
  have hD2 := g.keep _ _ A.hD hDo
  refine ⟨P, A.go.trans g, ?_, hD2, A.hx.sm g.gg⟩
  cases z : G2 D with
  | none => rfl
  | some o =>
    rcases g.gn D (some_ne z) with w | w
    · exact absurd A.gD w
    · rw [A.hD] at w
      cases w
section
variable {elt tg iter tg1 iter1 : Expr} {ifs ifs1 : List Expr} {scope : Scope} {own : List (Str × Nat)} {vs1 ts ts1 : List Nat} {mi mi1 : M (List PyData)} {g g1 : PyData → En → Option En} {mt mt1 : M Bool} {me : M PyData}
variable {i : Nat} {y : Str} {py spos : Pos}
end
end
end DL
namespace DL
open PySem PySem.Spec PyProof.Rows L2 Lk
section
variable {K : PySem.W.Frag} {E : XE} {X : Cx} {a b c e : Expr} {es : List Expr} {ma mb mc : M PyData} {m : M (List PyData)} {mt : M Bool} {pos : Pos}
theorem xe_op {op : Operator} {g : PyData → PyData → Option PyData} (ho : OpD K X (binaryOp op) g) (ha : DE K E X a ma) (hb : DE K E X b mb) : DE K E X (.BinOp a op b pos) (mOp2 g ma mb) := de_op ho ha hb
theorem xe_cmp {op : CmpOp} {g : PyData → PyData → Option PyData} (ho : OpD K X (compareOp op) g) (ha : DE K E X a ma) (hb : DE K E X b mb) (hm : behindInMarks op b = false) : DE K E X (.Compare a [op] [b] pos) (mOp2 g ma mb) := de_cmp ho ha hb hm
theorem xt_cmp {op : CmpOp} {g : PyData → PyData → Option PyData} (ho : OpD K X (compareOp op) g) (ha : DE K E X a ma) (hb : DE K E X b mb) (hm : behindInMarks op b = false) : DT K E X (.Compare a [op] [b] pos) (mOpT g ma mb) := dt_cmp ho ha hb hm
theorem xa_nil : DA K E X [] mNil := da_nil
theorem xa_cons (ha : DE K E X e ma) (hr : DA K E X es m) (hs : starEach (e :: es) X.env = (false, eval e X.env) :: starEach es X.env := by rfl) : DA K E X (e :: es) (mCons ma m) := da_cons ha hr hs
theorem xe_tup {x1} (h : DA K E X es m) : DE K E X (.Tuple es x1 pos) (mTup m) := de_tup h
theorem xf_lst (h : DA K E X es m) : DF K E X (.List es pos) (mLst m) := df_lst h
theorem xe_fr (h : DF K E X e m) : DE K E X e (mNew m) := de_fr h
theorem xt_tru (ha : DE K E X e ma) (he : ∀ whole, isTrue e X.env whole = (do let v ← whole; standAt e.pos; holding [v] (truthy v)) := by intro _; rfl) : DT K E X e (mTru ma) := dt_tru ha he
theorem xt_not (ha : DT K E X a mt) : DT K E X (.UnaryOp .Not a pos) (mNotT mt) := dt_not ha
theorem xe_not (ha : DE K E X a ma) : DE K E X (.UnaryOp .Not a pos) (mNotV ma) := de_not ha
theorem xe_isi {T : Str} {n : String} {p p2 : Pos} (hT : n ∈ ["int", "bool", "list", "tuple", "str"]) (hg : Gl X "isinstance") (hm : X.mg "isinstance" = none) (hgT : Gl X T) (hmT : X.mg T = none) (hvT : bootBuiltins T = some (.type n)) (ha : DE K E X e ma) (hn : T ≠ "__name__" := by decide) (hdb : (T == ("__debug__" : Str)) = false := by decide)
    (hs1 : starEach [e, .Name T p2] X.env = (false, eval e X.env) :: starEach [.Name T p2] X.env := by rfl) (hs2 : starEach [.Name T p2] X.env = (false, eval (.Name T p2) X.env) :: starEach [] X.env := by rfl) (hpl : (backTo pos (starEach [.Name T p2] X.env)).any (·.1) = false := by rfl) :
    DE K E X (.Call (.Name "isinstance" p) [e, .Name T p2] [] pos) (mIsi n ma) := de_isi hT hg hm hgT hmT hvT ha hn hdb hs1 hs2 hpl
theorem xi_seq {tg : Expr} (hl : DE K E X e ma) : DI K E X tg e (mSeq ma) := di_seq hl
theorem xi_range1 {tg : Expr} {p : Pos} (hg : Gl X "range") (hm : X.mg "range" = none) (ha : DA K E X [a] m) (hs : starEach [a] X.env = [(false, eval a X.env)] := by rfl) : DI K E X tg (.Call (.Name "range" p) [a] [] pos) (mRng1 m) := di_range1 hg hm ha hs
theorem xo_some (ha : DE K E X e ma) : DO K E X (some e) (mPart ma) := do_some ha
theorem xo_none : DO K E X none mNoPart := do_none
theorem xf_slice {lo hi : Option Expr} {ml mh : M (Option Int)} {p2 : Pos} (ha : DE K E X e ma) (hl : DO K E X lo ml) (hh : DO K E X hi mh) : DF K E X (.Subscript e (.Slice lo hi none p2) pos) (mSlice ma ml mh) := df_slice ha hl hh
theorem xe_ix (ha : DE K E X a ma) (hb : DE K E X b mb) (hs : PlainIx b) : DE K E X (.Subscript a b pos) (mOp2 ixM ma mb) := de_ix ixd ha hb hs
def mRep (ml : M (List PyData)) (mb : M PyData) : M (List PyData) := ml.bind fun xs => mb.bind fun d => M.lift (repM xs d)
theorem xf_rep {ml : M (List PyData)} (ha : DF K E X a ml) (hb : DE K E X b mb) : DF K E X (.BinOp a .Mult b pos) (mRep ml mb) := df_rep ha hb
theorem xc {x : Str} {p : Pos} {k : Nat} {ps : List Str} {g : List PyData → Option PyData} (G : Has X.prog X.w K X.mg X.base k x ps (spD K g)) (hr : Room k X.A) (hg : Gl X x)
    (ha : DA K E X (e :: es) m) (hdb : (x == ("__debug__" : Str)) = false := by decide) (he : starEach (e :: es) X.env = (false, eval e X.env) :: starEach es X.env := by rfl)
    (hpl : (backTo pos (starEach es X.env)).any (·.1) = false := by rfl) : DE K E X (.Call (.Name x p) (e :: es) [] pos) (mCall g m) := dc G hr hg ha hdb he hpl
theorem xcB {x : Str} {p : Pos} {id : String} {g : List PyData → Option PyData} (hc : CallD K X (.builtin id) g) (hg : Gl X x) (hm : X.mg x = none) (hv : bootBuiltins x = some (.builtin id)) (ha : DA K E X (e :: es) m) (hn : x ≠ "__name__" := by decide) (hdb : (x == ("__debug__" : Str)) = false := by decide)
    (he : starEach (e :: es) X.env = (false, eval e X.env) :: starEach es X.env := by rfl) (hpl : (backTo pos (starEach es X.env)).any (·.1) = false := by rfl) : DE K E X (.Call (.Name x p) (e :: es) [] pos) (mCall g m) := de_callB hc hg hm hv ha hn hdb he hpl
theorem xcT {x : Str} {p : Pos} {T : String} {g : List PyData → Option PyData} (hc : CallD K X (.type T) g) (hg : Gl X x) (hm : X.mg x = none) (hv : bootBuiltins x = some (.type T)) (ha : DA K E X (e :: es) m) (hn : x ≠ "__name__" := by decide) (hdb : (x == ("__debug__" : Str)) = false := by decide)
    (he : starEach (e :: es) X.env = (false, eval e X.env) :: starEach es X.env := by rfl) (hpl : (backTo pos (starEach es X.env)).any (·.1) = false := by rfl) : DE K E X (.Call (.Name x p) (e :: es) [] pos) (mCall g m) := de_callTy hc hg hm hv ha hn hdb he hpl
theorem xcTF {x : Str} {p : Pos} {T : String} {g : List PyData → Option (List PyData)} (hc : CallF K X (.type T) g) (hg : Gl X x) (hm : X.mg x = none) (hv : bootBuiltins x = some (.type T)) (ha : DA K E X (e :: es) m) (hn : x ≠ "__name__" := by decide) (hdb : (x == ("__debug__" : Str)) = false := by decide)
    (he : starEach (e :: es) X.env = (false, eval e X.env) :: starEach es X.env := by rfl) (hpl : (backTo pos (starEach es X.env)).any (·.1) = false := by rfl) : DF K E X (.Call (.Name x p) (e :: es) [] pos) (mCallF g m) := df_callTy hc hg hm hv ha hn hdb he hpl
theorem xs_no {st : Stmt} : DS K E X st sNo := ds_never
end
/-- the same order of the places, of values and of data -/
structure Perm3 (gB : List V → List V → List V) (gD : List PyData → List PyData) : Prop where
  all : ∀ {K : PySem.W.Frag} {G : Hp} {zs : List V} {ds : List PyData}, DqAll K G zs ds → DqAll K G (gB [] zs) (gD ds)
structure DK (K : PySem.W.Frag) (E : XE) (X : Cx) (kws : List Keyword) (m : M (List PyData)) : Prop where
  pk : X.K = K → PK X kws (tM K E (rA K) m)
section
variable {K : PySem.W.Frag} {E : XE} {X : Cx} {e : Expr} {kws : List Keyword} {ma : M PyData} {m : M (List PyData)} {pos : Pos}
theorem PK.imp {t t' : TA} (h : PK X kws t) (i : ∀ σ H Q, t' σ H Q → t σ H Q) : PK X kws t' := ⟨fun pos pins s σ H Q I q => h.run pos pins s σ H Q I (i _ _ _ q)⟩
def mCallK (gD : List PyData → List PyData) (g : List PyData → Option PyData) (m : M (List PyData)) : M PyData := m.bind fun ds => M.lift (g (gD ds))
end
theorem has_none {P : Program} {w : World} {K : PySem.W.Frag} {mg : Str → Option Value} {base : Heap} {k : Nat} {x qual : Str} {st : Stmt} {f : Addr} {fd : FuncData} {ps : List Str} (F : Fun K x qual st f fd) (hb : Binds K fd ps []) (hm : mg x = some (.ref f)) : Has P w K mg base k x ps (spD K fun _ => none) :=
  ⟨f, fd, ⟨fun vs H Q E ⟨G, ds, z, _, _, hz, _⟩ => (by cases hz), fun A outer s H args us vs Q E _ _ _ _ ⟨G, ds, z, _, _, hz, _⟩ => (by cases hz)⟩, hb, hm, F.kp⟩
def spLaw (K : PySem.W.Frag) (g : List PyData → Option PyData) : Sp := fun vs H Q _ => ∃ (a : Addr) (ns : List Int), vs = [.ref a] ∧ SqL K H a (ns.map V.int) ∧ g [.list (ns.map PyData.int)] = some (.bool true) ∧ ∀ H', Q (.bl true) H'
theorem law_fn {P : Program} {w : World} {K : PySem.W.Frag} {mg : Str → Option Value} {base : Heap} {k : Nat} {f : Addr} {fd : FuncData} {ps : List Str} {g : List PyData → Option PyData} (F : FnOk P w K mg base CX0 k f fd ps (spD K g)) : FnOk P w K mg base CX0 k f fd ps (spLaw K g) :=
  F.imp fun vs H Q E ⟨a, ns, e, hs, hg, q⟩ => ⟨H, _, _, Same.refl H, by rw [e]; exact .cons (.lst hs (DqAll.ints ns)) .nil, hg, fun v G' H' _ hv => by
    rw [dp_bool hv]
    exact q H'⟩
end DL
namespace DL
open PySem PySem.Spec PyProof.Rows L2 Lk
def CTup (K : PySem.W.Frag) (mg : Str → Option Value) (x : Str) (c : PyData) : Prop := ∃ a : Addr, mg x = some (.ref a) ∧ ∀ H, Dq K H (.ref a) c
theorem CTup.de {K : PySem.W.Frag} {E : XE} {X : Cx} {x : Str} {c : PyData} {pos : Pos} (h : CTup K X.mg x c) (hg : Gl X x) (hdb : (x == ("__debug__" : Str)) = false := by decide) : DE K E X (.Name x pos) (M.ret c) := by
  obtain ⟨a, h1, h2⟩ := h
  exact de_g hg h1 (v := .ref a) rfl h2 hdb
/-- how deep a def may call itself; how often a while may turn -/
def FU : Nat := 60
def WH : Nat := 1000000
section
variable {P : Program} {w : World} {K : PySem.W.Frag} {mg : Str → Option Value} {base : Heap}
theorem fn_d {x qual : Str} {st : Stmt} {f : Addr} {fd : FuncData} {N ps : List Str} {k n : Nat} {sv : SM} (F : Fun K x qual st f fd) (S : FnScope N ps (defScope st))
    (h : ∀ (cdv : Value) (A : Around) (outer : List Env) (s : Shared) (H : Hp) (E : XK), Room k (A.deeper (envOfC qual (defScope st) s.heap.objs.size f cdv)) → DSs K XN (cxOf CX0 P w K mg base N qual (defScope st) f cdv A outer s H E).nox (defBody st) sv)
    (hn : ps.length = n := by rfl) : FnOk P w K mg base CX0 (k + 1) f fd ps (spD K (runD N n sv)) := by
  refine def_D F S h fun ds z e => ?_
  unfold runD at e
  split at e
  · rename_i hl
    refine ⟨hl.trans hn.symm, ?_⟩
    cases q : sv (ini N ds) with
    | none => rw [q] at e; cases e
    | some fl =>
      rw [q] at e
      cases fl with
      | rt d r => cases e; exact ⟨r, .inl rfl⟩
      | nx r => cases e; exact ⟨r, .inr ⟨rfl, rfl⟩⟩
      | _ => cases e
  · cases e
end
end DL
namespace Lk
open PySem PySem.Spec PyProof.Rows L2
theorem walk_ofGB {l : PySem.W.OpenLaw} {n k : Nat} {q : Program} {loose : List Str} {XP : (Str → Option Value) → Heap → Prop} {YP : World → Heap → Prop} {d : DefRec}
    {K : Params → PySem.W.Frag} {sp : World → Sp} {x : Str} (hn : l.most = some n) (hn2 : n ≤ sizeLine) (hdf : d.params.defaults = []) (hr : Room k callerA)
    (hY : ∀ (w : World) (h : Heap), YP w h → (K w.params).In h)
    (F : ∀ (w : World) (mg : Str → Option Value) (fa : Addr) (h : Heap), (K w.params).In h → h.Ns mainGlobals mg → mg d.name = some (.ref fa) →
      ∃ fd : FuncData, (∀ (s : Shared) (u : Value), BindsTo s fd ⟨[u], []⟩ [(x, u)]) ∧
        ∀ base : Heap, (K w.params).In base → base.Ns mainGlobals mg → FnG l.prog w (K w.params) mg base CX0 k fa fd [x] (sp w))
    (hsp : ∀ (w : World) (H : Hp) (a : Addr) (ns : List Int), ns.length ≤ n → (∀ z ∈ ns, Builtin.Int.intBits z ≤ 1048576) → Only H → SqL (K w.params) H a (ns.map V.int) → sp w [.ref a] H (fun v _ => v = .bl true) fun _ _ _ => False) :
    PySem.W.WalkO q loose XP YP l.row.toRowW d [] (fun f vs => PySem.call f vs) := by
  refine Att.attach_callB hn hdf ?_
  intro w s₀ s₁ mg mb fa o pm cd doc a vs ns G Y _ _ _ hmg hobj hints hlen hbits hg
  have KX := hY w _ Y
  obtain ⟨fd, hb, hF⟩ := F w mg fa _ KX G.T.g hmg
  exact law_callG KX G.T.g G.T.b G.T.builtins G.T.nolimit hg hobj hints (Nat.le_trans hlen hn2) hr hF hb fun H hO hS => hsp w H a ns hlen hbits hO hS
end Lk
namespace DL
open PySem PySem.Spec PyProof.Rows L2 Lk
section
variable {K : PySem.W.Frag} {E : XE} {X : Cx} {tg a : Expr} {ma : M PyData} {pos : Pos}
end
end DL
namespace DL
open PySem PySem.Spec PyProof.Rows L2 Lk
section
variable {K : PySem.W.Frag} {E : XE} {X : Cx} {a b e : Expr} {ma mb : M PyData} {pos : Pos}
end
end DL
namespace DL
open PySem PySem.Spec PyProof.Rows L2 Lk
section
variable {K : PySem.W.Frag} {E : XE} {X : Cx} {tg a b c e : Expr} {ma mb : M PyData} {m : M (List PyData)} {pos : Pos}
/-- n.bit_length() -/
def mBits (m : M PyData) : M PyData := m.bind fun d => M.lift ((asInt d).map fun i => .int (Builtin.Int.intBits i : Nat))
end
end DL
namespace DL
open PySem PySem.Spec PyProof.Rows L2 Lk
abbrev PQ := PyData ⊕ List PyData
def rQ (K : PySem.W.Frag) : RR V PQ := fun S O F G H v z => match z with
  | .inl d => rD K S O F G H v d
  | .inr ds => rF K S O F G H v ds
instance {K : PySem.W.Frag} : Anti (rQ K) := ⟨fun {S S' O F G H b a} k h => by
  cases a with
  | inl d => exact h
  | inr ds => exact Anti.anti (R := rF K) (O := O) (F := F) (H := H) k h⟩
def rPQ (K : PySem.W.Frag) (g : List PyData → Option PQ) : List V → Hp → VK → Prop := fun vs H Q => ∃ G ds z, Same G H ∧ DqAll K G vs ds ∧ g ds = some z ∧ (∀ d, z = .inl d → ∀ v G' H', Ps G H G' H' → Dq K G' v d → Q v H') ∧
  ∀ zs, z = .inr zs → ∀ p xs G' H', Ps G H G' H' → G' p = none → H p = none → H' p = some (.lst xs) → DqAll K G' xs zs → Q (.ref p) H'
def spQ (K : PySem.W.Frag) (g : List PyData → Option PQ) : Sp := fun vs H Q _ => rPQ K g vs H Q
structure DQ (K : PySem.W.Frag) (E : XE) (X : Cx) (e : Expr) (m : M PQ) : Prop where
  pe : X.K = K → PE X e (tM K E (rQ K) m)
section
variable {K : PySem.W.Frag} {E : XE} {X : Cx} {a b e : Expr} {es : List Expr} {m : M (List PyData)} {mq : M PQ} {pos : Pos}
def mCallQ (g : List PyData → Option PQ) (m : M (List PyData)) : M PQ := m.bind fun ds => M.lift (g ds)
theorem dcQ {x : Str} {p : Pos} {k : Nat} {ps : List Str} {g : List PyData → Option PQ} (G : Has X.prog X.w K X.mg X.base k x ps (spQ K g)) (hr : Room k X.A) (hg : Gl X x)
    (ha : DA K E X (e :: es) m) (hdb : (x == ("__debug__" : Str)) = false := by decide) (he : starEach (e :: es) X.env = (false, eval e X.env) :: starEach es X.env := by rfl)
    (hpl : (backTo pos (starEach es X.env)).any (·.1) = false := by rfl) : DQ K E X (.Call (.Name x p) (e :: es) [] pos) (mCallQ g m) := by
  obtain ⟨f, fd, Fk, hb, hm, hk⟩ := G
  refine ⟨fun hK => ?_⟩
  subst hK
  refine PE.imp (pe_call (E := E0) Fk hr hg hm hk hb .nil pass0 (ha.pa rfl) hdb he hpl) fun σ H Q ⟨F, O, G, r, out, P, em, f⟩ => ?_
  refine tM.run P f em fun ds r1 xs G1 H1 P1 g1 q1 e1 f1 => ?_
  obtain ⟨z, hz, rfl⟩ := lift_ok e1
  rw [List.append_nil]
  refine ⟨G1, ds, z, P1.sub, q1, hz, fun d ez v G' H' p q => ?_, fun zs ez p ys G' H' ps gp hp e2 q => ?_⟩
  · subst ez
    exact f1.ok p P1 q
  · subst ez
    exact f1.ok ps P1 ⟨p, ys, rfl, hp, gp, P1.nf _ hp, fun i z => (P1.on i p z).2.2.1 hp, e2, q⟩
/-- x = f(..) -/
def sSetQ (i : Nat) (m : M PQ) : SM := sBind m fun z => match z with
  | .inl d => sPut i d
  | .inr ds => sPutO i ds
theorem ds_setQ_t {st : Stmt} {te : TE} {i : Nat} (h : PS X st (tAsg te (gName i))) (ht : ∀ σ H Q, tM K E (rQ K) mq σ H Q → te σ H Q) : PS X st (tS K E (sSetQ i mq)) := PS.imp h fun D σ H ⟨F, O, G, r, fl, P, em, f⟩ => by
  refine ht _ _ _ (tS.run P f em fun z r1 x G1 H1 P1 g1 q1 e1 f1 => ?_)
  cases z with
  | inl d =>
    dsimp only at e1
    unfold sPut at e1
    split at e1
    · cases e1
    · rename_i cel hne hc
      cases e1
      exact f1 _ G1 _ H1 (P1.put0 (fun ds z => hne ds (Option.some.inj (hc.symm.trans z))) q1) (Same.refl _)
    · cases e1
  | inr ds =>
    dsimp only at e1
    obtain ⟨p, xs, rfl, _, hg, h0, ho, hp, ha⟩ := q1
    unfold sPutO at e1
    split at e1
    · cases e1
    · rename_i cel hne hc
      cases e1
      exact f1 _ G1 _ H1 (P1.own0 (List.getElem?_eq_some_iff.mp hc).1 (fun ds z => hne ds (Option.some.inj (hc.symm.trans z))) hg h0 ho hp ha) (Same.refl _)
    · cases e1
theorem ds_setQ {i : Nat} {x : Str} {pos' : Pos} (hN : X.N.Nodup) (hi : X.N[i]? = some x) (hx : Loc X.env.scope x) (he : DQ K E X e mq) (hs : swapsWith e (some (.Name x pos')) pos.line X.env = pure false := by rfl) (hf : X.fn x = true ∨ X.env.scope.names.lookup x = some .local := by first | exact .inl rfl | exact .inr rfl | assumption) :
    DS K E X (.Assign [.Name x pos'] e pos) (sSetQ i mq) := ⟨fun hK => ds_setQ_t (ps_set hN hi hx (he.pe hK) hs hf) fun _ _ _ h => h⟩
/-- return f(..) -/
def sRetQ (m : M PQ) : SM := sBind m fun z r => match z with
  | .inl d => some (.rt d r)
  | .inr ds => some (.rf ds r)
/-- return the list that a slot owns -/
def sRetO (i : Nat) : SM := fun r => match r[i]? with
  | some (.ow ds) => some (.rf ds r)
  | _ => none
end
def outQ : Option Fl → Option PQ
  | some (.rt z _) => some (.inl z)
  | some (.nx _) => some (.inl .none)
  | some (.rf ds _) => some (.inr ds)
  | _ => none
def runQ (N : List Str) (n : Nat) (sv : SM) (ds : List PyData) : Option PQ := if ds.length = n then outQ (sv (ini N ds)) else none
section
variable {P : Program} {w : World} {K : PySem.W.Frag} {mg : Str → Option Value} {base : Heap}
theorem def_q {x qual : Str} {st : Stmt} {f : Addr} {fd : FuncData} {N ps : List Str} {k n : Nat} {sv : SM} (F : Fun K x qual st f fd) (S : FnScope N ps (defScope st)) (hb : Binds K fd ps []) (hm : mg x = some (.ref f))
    (h : ∀ (cdv : Value) (A : Around) (outer : List Env) (s : Shared) (H : Hp) (E : XK), Room k (A.deeper (envOfC qual (defScope st) s.heap.objs.size f cdv)) → DSs K XN (cxOf CX0 P w K mg base N qual (defScope st) f cdv A outer s H E).nox (defBody st) sv)
    (hn : ps.length = n := by rfl) : Has P w K mg base (k + 1) x ps (spQ K (runQ N n sv)) := by
  have len : ∀ ds z, runQ N n sv ds = some z → ds.length = ps.length := fun ds z e => by
    unfold runQ at e
    split at e
    · rename_i hl
      exact hl.trans hn.symm
    · cases e
  refine ⟨f, fd, ?_, hb, hm, F.kp⟩
  refine F.ok S (fun vs H Q E ⟨G, ds, z, sg, hd, hz, q⟩ => by rw [hd.length]; exact len ds z hz) fun cdv A outer s H vs Q E hr ⟨G, ds, z, sg, hd, hz, q1, q2⟩ => ?_
  refine ⟨_, (h cdv A outer s H E hr).ps rfl, ?_⟩
  unfold runQ at hz
  split at hz
  · cases e : sv (ini N ds) with
    | none => rw [e] at hz; cases hz
    | some fl =>
      rw [e] at hz
      cases fl with
      | rt d r =>
        cases hz
        exact ⟨_, _, G, _, _, start_rp sg hd, e, fun O' G' σ' H' v R g hv => q1 d rfl v G' H' ⟨R.g0, R.sub, fun c o e => R.old c o e fun i z => (nomatch z), R.gn⟩ hv⟩
      | nx r =>
        cases hz
        exact ⟨_, _, G, _, _, start_rp sg hd, e, fun O' G' σ' H' R g => q1 _ rfl .non G' H' ⟨R.g0, R.sub, fun c o e => R.old c o e fun i z => (nomatch z), R.gn⟩ .non⟩
      | rf zs r =>
        cases hz
        exact ⟨_, _, G, _, _, start_rp sg hd, e, fun O' G' σ' H' p xs R g gp h0 hp ha => q2 zs rfl p xs G' H' ⟨R.g0, R.sub, fun c o e => R.old c o e fun i z => (nomatch z), R.gn⟩ gp h0 hp ha⟩
      | bk r => cases hz
      | ct r => cases hz
      | ex c p => cases hz
  · cases hz
end
end DL
namespace DL
open PySem PySem.Spec PyProof.Rows L2 Lk
section
variable {K : PySem.W.Frag} {E : XE} {F : Fm} {O : Ow} {G H : Hp} {σ : L2.St} {r : En}
def fzTo : Nat → En → En
  | 0, r => r
  | n + 1, r => match (fzTo n r)[n]? with
    | some (.ow ds) => (fzTo n r).set n (.pl (.list ds))
    | _ => fzTo n r
def fz (r : En) : En := fzTo r.length r
end
section
variable {α β : Type}
end
def noIo : Cel → Bool
  | .io _ => false
  | .dk _ => false
  | _ => true
def mPeek (m : M Bool) : M Bool := fun r => if r.all noIo then (match m (fz r) with
  | some (.ok b _) => some (.ok b r)
  | some (.ex c p) => some (.ex c p)
  | none => none) else none
section
variable {K : PySem.W.Frag} {E : XE} {F : Fm} {O : Ow} {G H : Hp} {σ : L2.St} {r : En}
/-- no list, no tuple -/
def atomD : PyData → Bool
  | .int _ => true
  | .bool _ => true
  | .none => true
  | .str _ => true
  | _ => false
def mPeekV (m : M PyData) : M PyData := fun r => if r.all noIo then (match m (fz r) with
  | some (.ok d _) => if atomD d then some (.ok d r) else none
  | some (.ex c p) => some (.ex c p)
  | none => none) else none
/-- a new list of plain values -/
def mPeekF (m : M (List PyData)) : M (List PyData) := fun r => if r.all noIo then (match m (fz r) with
  | some (.ok ds _) => if ds.all atomD then some (.ok ds r) else none
  | some (.ex c p) => some (.ex c p)
  | none => none) else none
end
end DL
namespace DL
open PySem PySem.Spec PyProof.Rows L2 Lk
section
variable {P : Program} {w : World} {K : PySem.W.Frag} {mg : Str → Option Value} {base : Heap}
end
end DL
namespace DL
open PySem PySem.Spec PyProof.Rows L2 Lk
/-- what a call gives: a value, or the class of the error that it raises -/
abbrev PX := PyData ⊕ Str
/-- a class of errors -/
structure ErrC (K : PySem.W.Frag) (C : Addr) : Prop where
  ex : PySem.W.excIn K C [.type "ValueError", .type "Exception", .type "BaseException", .type "object"] "ValueError.__new__" = true
  kp : PySem.W.keepIn K (.ref C) = true
  ty : PySem.W.typeIn K (.ref C) = some (.type "type")
  sb : PySem.W.subIn K (.ref C) (.type "BaseException") = some true
def Kls (K : PySem.W.Frag) (mg : Str → Option Value) (c : Str) : Prop := ∃ C, mg c = some (.ref C) ∧ ErrC K C
def catches (h c : Str) : Bool := h == c || h == "ReasonError"
/-- whether a clause of h takes an error of c -/
def Exo (K : PySem.W.Frag) (mg : Str → Option Value) (c h : Str) : Prop := ∀ C CH, mg c = some (.ref C) → mg h = some (.ref CH) → PySem.W.exmOne K (.ref C) (.ref CH) = some (catches h c)
def HasX (P : Program) (w : World) (K : PySem.W.Frag) (mg : Str → Option Value) (base : Heap) (k : Nat) (x : Str) (ps : List Str) (sp : Sp) : Prop :=
  ∃ (f : Addr) (fd : FuncData), FnOk P w K mg base (L2.CX P w) k f fd ps sp ∧ Binds K fd ps [] ∧ mg x = some (.ref f) ∧ PySem.W.keepIn K (.ref f) = true
theorem HasX.mono {P : Program} {w : World} {K : PySem.W.Frag} {mg : Str → Option Value} {base : Heap} {k j : Nat} {x : Str} {ps : List Str} {sp : Sp} (h : HasX P w K mg base k x ps sp) (l : k ≤ j) : HasX P w K mg base j x ps sp := by
  obtain ⟨f, fd, F, r⟩ := h
  exact ⟨f, fd, F.mono l, r⟩
def mCallX (g : List PyData → Option PX) (m : M (List PyData)) : M PyData := m.bind fun ds r => match g ds with
  | some (.inl z) => some (.ok z r)
  | some (.inr c) => some (.ex c [])
  | none => none
section
variable {K : PySem.W.Frag} {E : XE} {X : Cx} {e : Expr} {es : List Expr} {m : M (List PyData)} {pos : Pos}
end
def sRaise (c : Str) : SM := fun _ => some (.ex c [])
def outX : Option Fl → Option PX
  | some (.rt z _) => some (.inl z)
  | some (.nx _) => some (.inl .none)
  | some (.ex c []) => some (.inr c)
  | _ => none
section
variable {P : Program} {w : World} {K : PySem.W.Frag} {mg : Str → Option Value} {base : Heap}
end
def pick (c : Str) : List (Str × SM) → Option SM
  | [] => none
  | (h, sv) :: t => if catches h c then some sv else pick c t
def sTry (L : List Str) (g : List PyData → Option PX) (m : M (List PyData)) (hs : List (Str × SM)) (ok : PyData → SM) : SM := fun r => match m r with
  | some (.ok ds r') => match g ds with
    | some (.inl z) => ok z r'
    | some (.inr c) => if L.contains c then (match pick c hs with
      | some sv => sv r'
      | none => none) else none
    | none => none
  | _ => none
def okNx (_ : PyData) : SM := fun r => some (.nx r)
/-- the clauses, and for each its suite -/
inductive Hds (K : PySem.W.Frag) (E : XE) (X : Cx) (L : List Str) : List ExceptHandler → List (Str × SM) → Prop
  | nil : Hds K E X L [] []
  | cons {x : Str} {b₀ : Stmt} {suite : List Stmt} {np pos' : Pos} {hds : List ExceptHandler} {sv : SM} {l : List (Str × SM)} (kl : Kls K X.mg x) (hg : Gl X x) (hdb : (x == ("__debug__" : Str)) = false)
      (ex : ∀ c ∈ L, Exo K X.mg c x) (hsu : ∀ (a : Addr) (pn : List (Addr × Obj)), DSs K E (X.suite a pn) (b₀ :: suite) sv) (r : Hds K E X L hds l) :
      Hds K E X L (.ExceptHandler (some (.Name x np)) none (b₀ :: suite) pos' :: hds) ((x, sv) :: l)
theorem Hds.to {K : PySem.W.Frag} {E : XE} {X : Cx} {L : List Str} (hK : X.K = K) : ∀ {hds : List ExceptHandler} {l : List (Str × SM)}, Hds K E X L hds l → ∃ l2, HdsOk X hds l2 ∧
    ∀ (c : Str) (C : Addr) (D : Ends) (σ : L2.St) (H : Hp) (sv : SM), c ∈ L → X.mg c = some (.ref C) → pick c l = some sv → tS K E sv D σ H → wMany X.K (fun _ _ _ _ => False) D l2 (.ref C) none σ H
  | _, _, .nil => ⟨[], .nil, fun c C D σ H sv _ _ e => by cases e⟩
  | _, _, .cons (x := x) (sv := sv) kl hg hdb ex hsu r => by
    obtain ⟨l2, h1, h2⟩ := Hds.to hK r
    obtain ⟨CH, gH, _⟩ := kl
    refine ⟨(.ref CH, fun a _ _ => tS K E sv) :: l2, .cons ⟨hg, hdb, .inl gH⟩ (fun a oe cls d pn _ _ => (hsu a _).ps hK) h1, fun c C D σ H sv' hc hm e q => ?_⟩
    refine ⟨catches x c, by rw [hK]; exact ex c hc C CH hm gH, fun hb a na => ?_, fun hb => h2 c C D σ H sv' hc hm ?_ q⟩
    · rw [pick, if_pos hb] at e
      cases e
      exact q
    · rw [pick, if_neg (by rw [hb]; exact Bool.false_ne_true)] at e
      exact e
section
variable {K : PySem.W.Frag} {E : XE} {X : Cx} {e : Expr} {es : List Expr} {m : M (List PyData)} {pos : Pos}
end
section
variable {K : PySem.W.Frag} {E : XE} {X : Cx} {a b c e : Expr} {ma mb mc : M PyData} {pos : Pos}
end
end DL
namespace DL
open PySem PySem.Spec PyProof.Rows L2 Lk
/-- a tuple whose object is known -/
def KTup (H : Hp) (p : Addr) : Prop := ∃ (o : Obj) (xs : List V), H p = some (.frz o (.tup xs)) ∧ o.cls = .type "tuple" ∧ o.dict = none
def countT : PyData → List PyData → Option PyData
  | .tuple ds, [d] => if SeqAt.shaped (.tuple ds) && SeqAt.shaped d then some (.int ((ds.countP fun z => PyData.eqv z d : Nat) : Int)) else none
  | _, _ => none
section
variable {K : PySem.W.Frag} {E : XE} {X : Cx} {a b e : Expr} {es : List Expr} {ma mb : M PyData} {pos : Pos}
def rCountT (K : PySem.W.Frag) : V → List V → Hp → VK → Prop := fun x xs H Q => ∃ (a : Addr) (y : V) (d : PyData) (ds : List PyData), x = V.ref a ∧ xs = [y] ∧ Dp K H (V.ref a) (.tuple ds) ∧ Dp K H y d ∧
  SeqAt.shaped (.tuple ds) = true ∧ SeqAt.shaped d = true ∧ Q (.int ((ds.countP fun z => PyData.eqv z d : Nat) : Int)) H
theorem mt_countT (hu : X.A.units + 65 < cLine) : MtR X "tuple.count" (rCountT X.K) := by
  intro pins s σ H x xs v us Q I rx rxs h
  obtain ⟨a, y, d, ds, rfl, rfl, hl, hy, sl, sd, q⟩ := h
  cases rx
  cases rxs with
  | cons ry rt =>
    rename_i uy ut
    cases rt
    obtain ⟨bs, r1⟩ := Dp.reads I d y uy hy ry
    have hxs : PyData.canLayAll0 ds = true := SeqAt.canLay_of_shaped sl
    have hroom : X.A.units + 1 + min (PyData.depthAll ds) d.depth < cLine := by
      have h1 : d.depth ≤ 64 := by
        unfold SeqAt.shaped at sd
        rw [Bool.and_eq_true] at sd
        exact of_decide_eq_true sd.2
      have : min (PyData.depthAll ds) d.depth ≤ 64 := Nat.le_trans (Nat.min_le_right _ _) h1
      omega
    cases hl with
    | tup hs ha =>
      obtain ⟨its, rv, ⟨⟨cls, dd, data, sls⟩, ho, hc, n, hdt⟩, hlen⟩ := I.tuple hs
      simp only at hc hdt
      subst hc hdt
      obtain ⟨as, h4⟩ := Dp.readsAll I ds _ its ha rv
      have hmap : its.map (SeqAt.readOf s.heap) = ds := SeqAt.readsAll_map ds its as hxs h4
      refine call_meets PySem.F.slot_tuple_count ⟨_, ho, rfl⟩ PySem.F.entry_tuple_count (PySem.F.args_tuple_count_2 _ _)
        (SeqAt.tuple_countAt a its.toArray n dd sls uy (fun u => PyData.eqv (SeqAt.readOf s.heap u) d)) ⟨ho, SeqAt.items_eqAt (vs := its.toArray) (show ReadsAll s.heap its.toArray.toList ds as from h4) r1 hxs (SeqAt.canLay_of_shaped sd) hroom, ?_⟩
      have hc : (its.toArray.toList.countP fun u => PyData.eqv (SeqAt.readOf s.heap u) d) = ds.countP fun z => PyData.eqv z d := by
        rw [← hmap, List.countP_map]
        rfl
      rw [hc]
      exact ⟨.int _, H, I.tok _, ⟨_, rfl⟩, q⟩
/-- o.m(e, ..), o a tuple whose object is known -/
def tBMF (r : V → List V → Hp → VK → Prop) (to : TE) (t : TA) : TE := fun σ H Q => to σ H fun x H1 => (∃ p, x = .ref p ∧ KTup H1 p) ∧ t σ H1 fun xs H2 => r x xs H2 Q
theorem pe_bmF {o : Expr} {to : TE} {t : TA} {name : Str} {apos cpos : Pos} {id : String} {r : V → List V → Hp → VK → Prop} (slot : Slot "tuple" name id) (hty : typeOf (.builtin id) = pure (.type "method_descriptor")) (hm : MtR X id r) (ho : PE X o to) (ha : PA X (e :: es) t)
    (hbase : attributeBase o name X.env (eval o X.env) = eval o X.env := by rfl)
    (hfew : ((backTo cpos (starEach (e :: es) X.env)).all (fun x => !x.1) && (backToKw cpos (keywordEach [] X.env)).all (fun x => x.1.isSome)
      && decide ((e :: es).length + ([] : List Keyword).length + (if ([] : List Keyword).isEmpty then 0 else 1) < 30)) = true := by rfl)
    (hline : (apos.endLine == cpos.line) = true := by rfl) (hs : starEach (e :: es) X.env = (false, eval e X.env) :: starEach es X.env := by rfl) (hplain : (backTo cpos (starEach es X.env)).any (·.1) = false := by rfl) :
    PE X (.Call (.Attribute o name apos) (e :: es) [] cpos) (tBMF r to t) := by
  refine ⟨fun pins s σ H Q I h => ?_⟩
  refine wpAny_Call_method_late hbase hfew hline rfl (thn (ho.run pins s σ H _ I h) fun v s1 ⟨x, H1, I1, r1, ⟨p, e1, ob, ys, hp, hcl, hd⟩, q1⟩ => ?_)
  subst e1
  cases r1
  have hh := (I1.hok p _ hp).1
  refine ⟨"tuple", id, PySem.F.plainAttrs_tuple, slot, hty, ⟨ob, hh, hcl⟩, fun c e => ?_, ?_⟩
  · cases e
    exact ⟨ob, hh, hd⟩
  have hA := ha.run cpos pins s1 σ H1 _ I1 q1
  rw [hs] at hA ⊢
  refine Calls.callWith_builtin (by show (false || (backTo cpos (starEach es X.env)).any (·.1)) = false; rw [hplain] <;> rfl) (Calls.evalArgs_plain ?_)
  exact thn hA fun us s2 ⟨vs, H2, I2, r2, q2⟩ => hm pins s2 σ H2 (.ref p) vs (.ref p) us Q I2 rfl r2 q2
/-- what is known at the start of the statement -/
def Kn (i : Nat) (σ : L2.St) (H : Hp) : Prop := ∃ p, σ[i]? = some (some (.ref p)) ∧ KTup H p
def mCntT (i : Nat) (m : M (List PyData)) : M PyData := (mV i).bind fun d => m.bind fun ds => M.lift (countT d ds)
theorem pe_countT (i : Nat) {y : Str} {p2 ap : Pos} {m : M (List PyData)} {k : Nat} (hr : Room k X.A) (hK : X.K = K) (ha : DA K E X (e :: es) m) (hN : X.N[i]? = some y := by rfl) (hv : Vis X.env.scope y := by first | exact Or.inl rfl | exact Or.inr (Or.inl rfl) | exact Or.inr (Or.inr rfl))
    (hd : (y == ("__debug__" : Str)) = false := by decide) (hcd : (y == ("__classdict__" : Str)) = false := by decide)
    (hbase : attributeBase (.Name y p2) "count" X.env (eval (.Name y p2) X.env) = eval (.Name y p2) X.env := by rfl)
    (hfew : ((backTo pos (starEach (e :: es) X.env)).all (fun x => !x.1) && (backToKw pos (keywordEach [] X.env)).all (fun x => x.1.isSome)
      && decide ((e :: es).length + ([] : List Keyword).length + (if ([] : List Keyword).isEmpty then 0 else 1) < 30)) = true := by rfl)
    (hline : (ap.endLine == pos.line) = true := by rfl) (hs : starEach (e :: es) X.env = (false, eval e X.env) :: starEach es X.env := by rfl) (hplain : (backTo pos (starEach es X.env)).any (·.1) = false := by rfl) :
    PE X (.Call (.Attribute (.Name y p2) "count" ap) (e :: es) [] pos) (fun σ H Q => Kn i σ H ∧ tM K E (rD K) (mCntT i m) σ H Q) := by
  subst hK
  have hu : X.A.units + 65 < cLine := by have := hr.un; omega
  refine PE.imp (pe_bmF PySem.F.slot_tuple_count PySem.F.type_tuple_count (mt_countT hu) (pe_var hN hv hd hcd) (ha.pa rfl) hbase hfew hline hs hplain) fun σ H Q ⟨⟨p, e1, k1⟩, F, O, G, r, out, P, em, f⟩ => ?_
  refine ⟨.ref p, e1, ⟨p, rfl, k1⟩, ?_⟩
  unfold mCntT M.bind mV at em
  cases er : r[i]? with
  | none => rw [er] at em; cases em
  | some c =>
    rw [er] at em
    cases c with
    | pl d =>
      obtain ⟨v, h1, h2⟩ := P.pl i d er
      rw [e1] at h1
      cases h1
      have em2 : (m.bind fun ds => M.lift (countT d ds)) r = some out := em
      refine tM.run P f em2 fun ds r2 xs G2 H2 P2 g2 q2 e2 f2 => ?_
      obtain ⟨z, hz, rfl⟩ := lift_ok e2
      unfold countT at hz
      split at hz
      · split at hz
        · rename_i hsh
          rw [Bool.and_eq_true] at hsh
          cases hz
          obtain ⟨w, rfl, hw⟩ := one_of q2
          exact ⟨p, w, _, _, rfl, rfl, ((h2.sm g2.gg).sm P2.sub).dp, (hw.sm P2.sub).dp, hsh.1, hsh.2, f2.ok (Ps.refl P2.sub) P2 (.int _)⟩
        · cases hz
      · cases hz
    | _ => cases em
variable {kn : L2.St → Hp → Prop}
theorem pt_cmpK {op : CmpOp} {g : PyData → PyData → Option PyData} (hK : X.K = K) (ho : OpD K X (compareOp op) g) (ha : PE X a (fun σ H Q => kn σ H ∧ tM K E (rD K) ma σ H Q)) (hb : DE K E X b mb) (hm : behindInMarks op b = false) :
    PT X (.Compare a [op] [b] pos) (fun σ H Q => kn σ H ∧ tM K E rB (mOpT g ma mb) σ H Q) := PT.imp (pt_cmpR (ho hK) ha (hb.pe hK) hm) fun σ H Q ⟨hk, F, O, G, r, out, P, em, f⟩ => by
  refine ⟨hk, tM.run P f em fun d r1 x G1 H1 P1 g1 q1 e1 f1 => ?_⟩
  refine tM.run P1 f1 e1 fun ds r2 y G2 H2 P2 g2 q2 e2 f2 => ?_
  obtain ⟨c, hz, rfl⟩ := lift_ok e2
  obtain ⟨z, h1, h2⟩ := Option.bind_eq_some_iff.mp hz
  cases asBool_some h2
  exact ⟨G2, _, _, _, P2.sub, q1.sm g2.gg, q2, h1, fun v G' H' p q => ⟨c, dp_bool q, f2.ok p P2 rfl⟩⟩
theorem ps_ifK {c : Expr} {mc : M Bool} {sa sb : List Stmt} {A B : SM} (hK : X.K = K) (hc : PT X c (fun σ H Q => kn σ H ∧ tM K E rB mc σ H Q)) (ha : DSs K E X sa A) (hb : DSs K E X sb B) : PS X (.If c sa sb pos) (fun D σ H => kn σ H ∧ tS K E (sIf mc A B) D σ H) := PS.imp (ps_if hc (ha.ps hK) (hb.ps hK)) fun D σ H ⟨hk, F, O, G, r, fl, P, em, f⟩ => by
  refine ⟨hk, tS.run P f em fun d r1 x G1 H1 P1 g1 q1 e1 f1 => ?_⟩
  cases q1
  cases d with
  | true => exact iteT ⟨F, O, G1, r1, fl, P1, e1, f1⟩
  | false => exact iteF ⟨F, O, G1, r1, fl, P1, e1, f1⟩
theorem pss_consK {st : Stmt} {sts : List Stmt} {A B : SM} (hK : X.K = K) (h1 : PS X st (fun D σ H => kn σ H ∧ tS K E A D σ H)) (h2 : DSs K E X sts B) : PSs X (st :: sts) (fun D σ H => kn σ H ∧ tS K E (sSeq A B) D σ H) := PSs.imp (pss_cons h1 (h2.ps hK)) fun D σ H ⟨hk, F, O, G, r, fl, P, em, f⟩ => by
  unfold sSeq at em
  cases ea : A r with
  | none => rw [ea] at em; cases em
  | some fa =>
    rw [ea] at em
    refine ⟨hk, F, O, G, r, fa, P, ea, ?_⟩
    cases fa with
    | nx r' => exact fun O' G' σ' H' P' g => ⟨F, O', G', r', fl, P', em, f.via g⟩
    | rt d r' => cases em; exact f
    | bk r' => cases em; exact f
    | ct r' => cases em; exact f
    | ex c p => cases em; exact f
    | rf ds r' => cases em; exact f
end
/-- the second argument is such a tuple -/
def spT (K : PySem.W.Frag) (g : List PyData → Option PyData) : Sp := fun vs H Q _ => ∃ G v p d ds z, vs = [v, .ref p] ∧ Same G H ∧ KTup H p ∧ Dq K G v d ∧ Dq K G (.ref p) (.tuple ds) ∧ g [d, .tuple ds] = some z ∧ ∀ u G' H', Ps G H G' H' → Dq K G' u z → Q u H'
section
variable {P : Program} {w : World} {K : PySem.W.Frag} {mg : Str → Option Value} {base : Heap}
theorem def_t {x qual : Str} {st : Stmt} {f : Addr} {fd : FuncData} {N ps : List Str} {k : Nat} {sv : SM} (F : Fun K x qual st f fd) (S : FnScope N ps (defScope st)) (hb : Binds K fd ps []) (hm : mg x = some (.ref f)) (h2 : ps.length = 2)
    (h : ∀ (cdv : Value) (A : Around) (outer : List Env) (s : Shared) (H : Hp) (E : XK), Room k (A.deeper (envOfC qual (defScope st) s.heap.objs.size f cdv)) → PSs (cxOf CX0 P w K mg base N qual (defScope st) f cdv A outer s H E).nox (defBody st) (fun D σ H => Kn 1 σ H ∧ tS K XN sv D σ H)) :
    Has P w K mg base (k + 1) x ps (spT K (runD N 2 sv)) := by
  refine ⟨f, fd, F.ok S (fun vs H Q E ⟨G, v, p, d, ds, z, e, _⟩ => by rw [e, h2]; rfl) fun cdv A outer s H vs Q E hr ⟨G, v, p, d, ds, z, e, sg, kt, hd, hp, hz, q⟩ => ?_, hb, hm, F.kp⟩
  subst e
  refine ⟨_, h cdv A outer s H E hr, ⟨p, rfl, kt⟩, ?_⟩
  have hz' : outD (sv (ini N [d, .tuple ds])) = some z := hz
  have hda : DqAll K G [v, .ref p] [d, .tuple ds] := .cons hd (.cons hp .nil)
  cases hs : sv (ini N [d, .tuple ds]) with
  | none => rw [hs] at hz'; cases hz'
  | some fl =>
    rw [hs] at hz'
    refine ⟨_, _, G, _, _, start_rp sg hda, hs, ?_⟩
    cases fl with
    | rt d r => cases hz'; exact fun O' G' σ' H' v R g hv => q v G' H' ⟨R.g0, R.sub, fun c o e => R.old c o e fun i z => (nomatch z), R.gn⟩ hv
    | nx r => cases hz'; exact fun O' G' σ' H' R g => q .non G' H' ⟨R.g0, R.sub, fun c o e => R.old c o e fun i z => (nomatch z), R.gn⟩ .non
    | _ => cases hz'
end
section
variable {K : PySem.W.Frag} {E : XE} {X : Cx} {a b e : Expr} {pos : Pos} {ma mb : M PyData}
/-- tuple(l), l a list: the object is known -/
theorem call_tupleK : CallR X (.type "tuple") (fun xs H Q => ∃ p ys, xs = [.ref p] ∧ SqL X.K H p ys ∧ ∀ l o, H l = none → o.cls = .type "tuple" → o.dict = none → Q (.ref l) (upd H l (.frz o (.tup ys)))) := by
  intro pins s σ H xs us Q I r h
  obtain ⟨p, ys, rfl, hq, q⟩ := h
  obtain ⟨u, rfl, rx⟩ := vals1 r
  cases rx
  obtain ⟨its, r', pl, hz⟩ := I.list hq
  have hlen := r'.length
  refine call_tuple_list pl.isList (fun h' kp => ?_) (by simp only [List.size_toArray] <;> omega)
  have I1 : Inv X pins σ H { s with heap := h' } := I.kept (t' := s.toks) kp
  have I2 : Inv X pins σ (upd H h'.objs.size (.frz { cls := .type "tuple", data := .seq its.toArray } (.tup ys))) { s with heap := h'.push { cls := .type "tuple", data := .seq its.toArray } } :=
    I1.laid (t' := s.toks) (fun b o e => Heap.get?_push_of_some _ e) (Nat.le_refl _) (show ObjOk X.prog X.w _ _ _ (.frz _ (.tup ys)) from ⟨Heap.get?_push_size _ rfl, hz, its, r', IsTup.new _ _⟩)
  exact ⟨.ref h'.objs.size, _, I2, rfl, q _ _ (I1.hok.fresh (Nat.le_refl _)) rfl rfl⟩
/-- tuple(l) of a list -/
def tupL : PyData → Option PyData
  | .list ds => some (.tuple ds)
  | _ => none
def mTested (g : List PyData → Option PyData) (ma mb : M PyData) : M PyData := ma.bind fun d => mb.bind fun l => M.lift ((tupL l).bind fun t => g [d, t])
theorem dc_tested {x : Str} {p p2 p3 : Pos} {k : Nat} {ps : List Str} {g : List PyData → Option PyData} (G : Has X.prog X.w K X.mg X.base k x ps (spT K g)) (hr : Room k X.A) (hg : Gl X x) (hgt : Gl X "tuple") (hmt : X.mg "tuple" = none)
    (ha : DE K E X a ma) (hb : DE K E X b mb) (hdb : (x == ("__debug__" : Str)) = false := by decide)
    (h1 : starEach [a, .Call (.Name "tuple" p2) [b] [] p3] X.env = (false, eval a X.env) :: starEach [.Call (.Name "tuple" p2) [b] [] p3] X.env := by rfl)
    (h2 : starEach [.Call (.Name "tuple" p2) [b] [] p3] X.env = (false, eval (.Call (.Name "tuple" p2) [b] [] p3) X.env) :: starEach [] X.env := by rfl)
    (h3 : starEach [b] X.env = (false, eval b X.env) :: starEach [] X.env := by rfl)
    (hpl : (backTo pos (starEach [.Call (.Name "tuple" p2) [b] [] p3] X.env)).any (·.1) = false := by rfl) (hpl2 : (backTo p3 (starEach [] X.env)).any (·.1) = false := by rfl) :
    DE K E X (.Call (.Name x p) [a, .Call (.Name "tuple" p2) [b] [] p3] [] pos) (mTested g ma mb) := ⟨fun hK => by
  subst hK
  obtain ⟨f, fd, Fk, bi, gm, kp⟩ := G
  have hv : bootBuiltins "tuple" = some (.type "tuple") := by decide +kernel
  refine PE.imp (pe_call (E := E0) Fk hr hg gm kp bi .nil pass0 (pa_cons (ha.pe rfl) (pa_cons (pe_callTy call_tupleK hgt hmt hv (pa_cons (hb.pe rfl) pa_nil h3) (by decide) (by decide) h3 hpl2) pa_nil h2) h1) hdb h1 hpl) fun σ H Q ⟨F, O, G, r, out, P, em, ff⟩ => ?_
  refine tM.run P ff em fun d r1 v G1 H1 P1 g1 q1 e1 f1 => ?_
  refine tM.run P1 f1 e1 fun l r2 y G2 H2 P2 g2 q2 e2 f2 => ?_
  obtain ⟨z, hz, rfl⟩ := lift_ok e2
  obtain ⟨t, ht, hz⟩ := Option.bind_eq_some_iff.mp hz
  cases l with
  | list ds =>
    cases ht
    cases q2 with
    | @lst _ ys _ hs hd =>
      refine ⟨_, _, rfl, P2.sub.seq hs, fun p o hn hc hd0 => ?_⟩
      have gn : G2 p = none := P2.sub.free hn
      have pp : Ps G2 H2 (upd G2 p (.frz o (.tup ys))) (upd H2 p (.frz o (.tup ys))) := Ps.new P2.sub (same_new hn) hn upd_same
      refine ⟨_, v, p, d, ds, z, rfl, pp.gh, ⟨o, _, upd_same, hc, hd0⟩, (q1.sm g2.gg).sm pp.gg, .tup (.inl (.inr ⟨o, upd_same⟩)) (hd.sm pp.gg), hz, fun u G' H' p' q => ?_⟩
      exact f2.ok (pp.trans p') P2 q
  | _ => cases ht⟩
end
section
variable {K : PySem.W.Frag} {E : XE} {X : Cx} {a b c e : Expr} {pos : Pos} {m : M PyData} {mc : M Bool} {ml : M (List PyData)} {ma mb : M PQ}
end
end DL
namespace DL
open PySem PySem.Spec PyProof.Rows L2 Lk
theorem Vals.at2 : ∀ {xs : List V} {us : List Value} (j : Nat), Vals xs us → (xs[j]? = none ∧ us[j]? = none) ∨ ∃ x u, xs[j]? = some x ∧ us[j]? = some u ∧ RelV x u
  | _, _, j, .nil => .inl ⟨rfl, rfl⟩
  | _, _, 0, .cons r _ => .inr ⟨_, _, rfl, rfl, r⟩
  | _, _, j + 1, .cons _ t => Vals.at2 j t
theorem Vals.pick {xs : List V} {us : List Value} (r : Vals xs us) : ∀ (ix : List Nat), Vals (ix.filterMap fun j => xs[j]?) (ix.filterMap fun j => us[j]?)
  | [] => .nil
  | j :: ix => by
    rcases Vals.at2 j r with ⟨h1, h2⟩ | ⟨x, u, h1, h2, h3⟩
    · rw [List.filterMap_cons, List.filterMap_cons, h1, h2]
      exact Vals.pick r ix
    · rw [List.filterMap_cons, List.filterMap_cons, h1, h2]
      exact .cons h3 (Vals.pick r ix)
section
variable {K : PySem.W.Frag} {E : XE} {X : Cx} {e : Expr} {te : TE} {lo hi : Option Expr} {es : Expr} {tl th ts : TO} {p2 pos : Pos}
theorem DqAll.at2 {G : Hp} : ∀ {xs : List V} {ds : List PyData} (j : Nat), DqAll K G xs ds → (xs[j]? = none ∧ ds[j]? = none) ∨ ∃ x d, xs[j]? = some x ∧ ds[j]? = some d ∧ Dq K G x d
  | _, _, j, .nil => .inl ⟨rfl, rfl⟩
  | _, _, 0, .cons r _ => .inr ⟨_, _, rfl, rfl, r⟩
  | _, _, j + 1, .cons _ t => DqAll.at2 j t
theorem DqAll.pick {G : Hp} {xs : List V} {ds : List PyData} (r : DqAll K G xs ds) : ∀ (ix : List Nat), DqAll K G (ix.filterMap fun j => xs[j]?) (ix.filterMap fun j => ds[j]?)
  | [] => .nil
  | j :: ix => by
    rcases DqAll.at2 j r with ⟨h1, h2⟩ | ⟨x, u, h1, h2, h3⟩
    · rw [List.filterMap_cons, List.filterMap_cons, h1, h2]
      exact DqAll.pick r ix
    · rw [List.filterMap_cons, List.filterMap_cons, h1, h2]
      exact .cons h3 (DqAll.pick r ix)
end
end DL
namespace DL
open PySem PySem.Spec PyProof.Rows L2 Lk
def asInts : List PyData → Option (List Int)
  | [] => some []
  | .int i :: r => (asInts r).map (i :: ·)
  | _ => none
section
variable {K : PySem.W.Frag} {E : XE} {X : Cx} {e : Expr} {ma : M PyData} {pos : Pos}
end
end DL
namespace DL
open PySem PySem.Spec PyProof.Rows L2 Lk
section
variable {K : PySem.W.Frag} {X : Cx}
end
end DL
namespace DL
open PySem PySem.Spec PyProof.Rows L2 Lk
def insU (k : Int) : List Int → List Int
  | [] => [k]
  | x :: xs => if k < x then k :: x :: xs else if k = x then x :: xs else x :: insU k xs
def sortU (l : List Int) : List Int := l.foldl (fun a k => insU k a) []
section
variable {prog : Program} {w : World} {A : Around} {E : Value → Shared → Prop} {s : Shared}
end
section
variable {K : PySem.W.Frag} {E : XE} {X : Cx} {a : Expr} {ma : M PyData} {ta : TE} {p p2 q pos : Pos}
end
end DL
namespace DL
open PySem PySem.Spec PyProof.Rows L2 Lk
section
variable {K : PySem.W.Frag} {E : XE} {X : Cx} {pos : Pos}
end
end DL
namespace DL
open PySem PySem.Spec PyProof.Rows L2 Lk
section
variable {K : PySem.W.Frag} {E : XE} {X : Cx} {ma : M PyData} {pos : Pos}
def sExtL (i : Nat) (m : M PyData) : SM := fun r0 => if (ownOf r0[i]?).isSome then sBind m (fun d r => match ownOf r[i]?, asList d with
  | some ds, some es => if ds.length + es.length ≤ 1000000 then some (.nx (upO i (ds ++ es) r)) else none
  | _, _ => none) r0 else none
@[simp] theorem s_extL {i : Nat} {r : En} : sExtL i ma r = if (ownOf r[i]?).isSome then sBind ma (fun d r => match ownOf r[i]?, asList d with
  | some ds, some es => if ds.length + es.length ≤ 1000000 then some (.nx (upO i (ds ++ es) r)) else none
  | _, _ => none) r else none := rfl
end
end DL
namespace DL
open PySem PySem.Spec PyProof.Rows L2 Lk
def lenOf : PyData → Nat
  | .list ds => ds.length
  | .tuple ds => ds.length
  | _ => 0
def isLst : PyData → Bool
  | .list _ => true
  | .tuple _ => true
  | _ => false
def leLen (a b : PyData) : Bool := decide ((lenOf a : Int) ≤ (lenOf b : Int))
def sortLenM : PyData → Option (List PyData)
  | .list ds => if ds.all isLst then some (ds.mergeSort leLen) else none
  | _ => none
def mSortLen (m : M PyData) : M (List PyData) := m.bind fun d => M.lift (sortLenM d)
@[simp] theorem e_sortLen {m : M PyData} {r : En} : mSortLen m r = M.bind m (fun d => M.lift (sortLenM d)) r := rfl
section
variable {K : PySem.W.Frag} {E : XE} {X : Cx} {a : Expr} {ma : M PyData} {ta : TE} {p p1 p2 pos : Pos}
end
end DL
namespace DL
open PySem PySem.Spec PyProof.Rows L2 Lk
section
variable {K : PySem.W.Frag} {E : XE} {X : Cx} {e : Expr} {ma : M PyData} {pos : Pos}
def popAt (ds : List PyData) (j : Int) : Option (PyData × List PyData) := if ds.length ≤ 1000000 then (ixN ds.length j).bind fun k => (ds[k]?).map fun z => (z, ds.eraseIdx k) else none
def mPopAt (i : Nat) (m : M PyData) : M PyData := fun r0 => if (ownOf r0[i]?).isSome then (m.bind fun d r => match ownOf r[i]?, asInt d with
  | some ds, some j => (popAt ds j).map fun z => .ok z.1 (upO i z.2 r)
  | _, _ => none) r0 else none
@[simp] theorem e_popAt {i : Nat} {r : En} : mPopAt i ma r = if (ownOf r[i]?).isSome then (ma.bind fun d r => match ownOf r[i]?, asInt d with
  | some ds, some j => (popAt ds j).map fun z => .ok z.1 (upO i z.2 r)
  | _, _ => none) r else none := rfl
end
end DL
namespace DL
open PySem PySem.Spec PyProof.Rows L2 Lk
def isBM : PyData → PyData → Option PyData
  | .bool a, .bool b => some (.bool (decide (a = b)))
  | _, _ => none
def isNotBM : PyData → PyData → Option PyData
  | .bool a, .bool b => some (.bool (!decide (a = b)))
  | _, _ => none
@[simp] theorem e_isB {a b : Bool} : isBM (.bool a) (.bool b) = some (.bool (decide (a = b))) := rfl
@[simp] theorem e_isNotB {a b : Bool} : isNotBM (.bool a) (.bool b) = some (.bool (!decide (a = b))) := rfl
section
variable {K : PySem.W.Frag} {X : Cx}
end
def catM : PyData → PyData → Option (List PyData)
  | .list xs, .list ys => if xs.length + ys.length ≤ 1000000 then some (xs ++ ys) else none
  | _, _ => none
def mCat (ma mb : M PyData) : M (List PyData) := ma.bind fun d => mb.bind fun e => M.lift (catM d e)
@[simp] theorem e_cat {ma mb : M PyData} {r : En} : mCat ma mb r = M.bind ma (fun d => mb.bind fun e => M.lift (catM d e)) r := rfl
section
variable {K : PySem.W.Frag} {E : XE} {X : Cx} {a b : Expr} {ma mb : M PyData} {pos : Pos}
end
end DL
namespace DL
open PySem PySem.Spec PyProof.Rows
abbrev ZipO (h : Heap) (z TI TO : Addr) (f0 f1 : Value) : Prop :=
  h.get? z = some { cls := .type "zip", dict := none, data := .fields #[f0, f1, .bool false, .ref TI, .ref TO], slots := #[] }
abbrev TupO (h : Heap) (T : Addr) (vs : List Value) : Prop := h.get? T = some { cls := .type "tuple", data := .seq vs.toArray }
section
variable {prog : Program} {w : World} {A : Around} {E : Value → Shared → Prop} {s : Shared}
/-- the iterators before the place k have been asked, the others not -/
structure ZTurn (h : Heap) (z TI TO : Addr) (its ls : List Addr) (i k : Nat) : Prop where
  len : its.length = ls.length
  gone : ∀ (j : Nat) (it l : Addr), j < k → its[j]? = some it → ls[j]? = some l → h.IsListIter it l (i + 1)
  here : ∀ (j : Nat) (it l : Addr), k ≤ j → its[j]? = some it → ls[j]? = some l → h.IsListIter it l i
structure ZApart (z TI TO : Addr) (its ls : List Addr) : Prop where
  nd : (z :: TI :: TO :: its).Nodup
  ne : ∀ l ∈ ls, l ≠ z ∧ l ≠ TI ∧ l ≠ TO ∧ l ∉ its
theorem ZTurn.step {h h' : Heap} {z TI TO : Addr} {its ls : List Addr} {i k : Nat} {it l : Addr} (t : ZTurn h z TI TO its ls i k) (nd : its.Nodup) (e1 : its[k]? = some it) (e2 : ls[k]? = some l) (hit : h'.IsListIter it l (i + 1)) (sb : Heap.SameBut it h h') : ZTurn h' z TI TO its ls i (k + 1) := by
  have ne : ∀ (j : Nat) (b : Addr), j ≠ k → its[j]? = some b → b ≠ it := fun j b hj e q => by
    subst q
    exact hj ((List.getElem?_inj (by exact (List.getElem?_eq_some_iff.mp e).1) nd).mp (e.trans e1.symm))
  refine ⟨t.len, fun j b c hj h1 h2 => ?_, fun j b c hj h1 h2 => ?_⟩
  · by_cases q : j = k
    · subst q
      rw [e1] at h1
      rw [e2] at h2
      cases h1; cases h2
      exact hit
    · exact (t.gone j b c (by omega) h1 h2).extBut sb.extBut (ne j b q h1)
  · exact (t.here j b c (by omega) h1 h2).extBut sb.extBut (ne j b (by omega) h1)
theorem ZTurn.at {h h' : Heap} {z TI TO : Addr} {its ls : List Addr} {i k : Nat} (t : ZTurn h z TI TO its ls i k) (ha : ∀ b ∈ its, ∀ o, h.get? b = some o → h'.get? b = some o) : ZTurn h' z TI TO its ls i k :=
  ⟨t.len, fun j b c hj h1 h2 => (t.gone j b c hj h1 h2).at fun o e => ha b (List.mem_of_getElem? h1) o e, fun j b c hj h1 h2 => (t.here j b c hj h1 h2).at fun o e => ha b (List.mem_of_getElem? h1) o e⟩
theorem ZTurn.all {h : Heap} {z TI TO : Addr} {its ls : List Addr} {i : Nat} (t : ZTurn h z TI TO its ls i its.length) : ZTurn h z TI TO its ls (i + 1) 0 :=
  ⟨t.len, fun j b c hj => by omega, fun j b c _ h1 h2 => t.gone j b c (List.getElem?_eq_some_iff.mp h1).1 h1 h2⟩
def zIts (n len : Nat) : List Nat := (List.range len).map fun j => n + j
structure ZMade (h h' : Heap) (ls : List Addr) : Prop where
  its : ∀ (j : Nat) (l : Addr), ls[j]? = some l → h'.IsListIter (h.objs.size + j) l 0
  ti : TupO h' (h.objs.size + ls.length) ((zIts h.objs.size ls.length).map Value.ref)
  to_ : TupO h' (h.objs.size + ls.length + 1) (((zIts h.objs.size ls.length).map Value.ref).map fun _ => Value.none)
  z : ZipO h' (h.objs.size + ls.length + 2) (h.objs.size + ls.length) (h.objs.size + ls.length + 1) .none (.bool false)
  sz : h'.objs.size = h.objs.size + ls.length + 3
  old : ∀ c o, h.get? c = some o → h'.get? c = some o
end
end DL
namespace DL
open PySem PySem.Spec PyProof.Rows L2
end DL
namespace DL
open PySem PySem.Spec PyProof.Rows L2 Lk
def asLists : List PyData → Option (List (List PyData))
  | [] => some []
  | .list r :: ds => (asLists ds).map fun L => r :: L
  | _ :: _ => none
def zipRow (L : List (List PyData)) (k : Nat) : PyData := .tuple (L.map fun r => r.getD k .none)
def zipM : PyData → Option (List PyData)
  | .list ds => (asLists ds).bind fun L => if 1 ≤ L.length ∧ L.length ≤ 6 ∧ L.all (fun r => r.length == (L.headD []).length) = true then some ((List.range (L.headD []).length).map (zipRow L)) else none
  | _ => none
def mZip (m : M PyData) : M (List PyData) := m.bind fun d => M.lift (zipM d)
@[simp] theorem e_zip {m : M PyData} {r : En} : mZip m r = M.bind m (fun d => M.lift (zipM d)) r := rfl
section
variable {K : PySem.W.Frag} {E : XE} {X : Cx} {G : Hp}
end
end DL
namespace DL
open PySem PySem.Spec PyProof.Rows L2 Lk
section
variable {X : Cx} {pins : List (Addr × Obj)} {σ : L2.St} {H : Hp} {s : Shared}
mutual
theorem dq_nested (I : Inv X pins σ H s) : ∀ {d : PyData} {k : NestedKey} {v : V} {u : Value}, Dq X.K H v d → keyN d = some k → RelV v u → NestedIs s.heap k u
  | .int i, k, v, u, h, hk, r => by
    rw [keyN] at hk
    cases hk
    cases h
    obtain ⟨t, rfl⟩ := r
    exact .int i t
  | .tuple ds, k, v, u, h, hk, r => by
    rw [keyN] at hk
    obtain ⟨ks, h1, rfl⟩ := Option.map_eq_some_iff.mp hk
    cases h with
    | tup hs ha =>
      cases r
      obtain ⟨its, rv, ⟨o, ho, hc, n, hd⟩, _⟩ := I.tuple hs
      exact .tup ho hc hd (by simpa using dq_nesteds I ha h1 rv)
  | .none, k, v, u, h, hk, r => by simp [keyN] at hk
  | .bool _, k, v, u, h, hk, r => by simp [keyN] at hk
  | .str _, k, v, u, h, hk, r => by simp [keyN] at hk
  | .list _, k, v, u, h, hk, r => by simp [keyN] at hk
  | .dict _, k, v, u, h, hk, r => by simp [keyN] at hk
theorem dq_nesteds (I : Inv X pins σ H s) : ∀ {ds : List PyData} {ks : List NestedKey} {vs : List V} {us : List Value}, DqAll X.K H vs ds → keyNs ds = some ks → Vals vs us → NestedAll s.heap ks us
  | [], ks, vs, us, h, hk, r => by
    rw [keyNs] at hk
    cases hk
    cases h
    cases r
    exact .nil
  | d :: ds, ks, vs, us, h, hk, r => by
    rw [keyNs] at hk
    obtain ⟨k, h1, h2⟩ := Option.bind_eq_some_iff.mp hk
    obtain ⟨ks', h3, rfl⟩ := Option.map_eq_some_iff.mp h2
    cases h with
    | cons ha hb =>
      cases r with
      | cons ra rb => exact .cons (dq_nested I ha h1 ra) (dq_nesteds I hb h3 rb)
end
end
end DL
namespace DL
open PySem PySem.Spec PyProof.Rows L2 Lk
section
variable {X : Cx}
end
end DL
namespace DL
open PySem PySem.Spec PyProof.Rows L2 Lk
def isTupD : PyData → Bool
  | .tuple _ => true
  | _ => false
def dkNs (ks : List PyData) : Option (List NestedKey) := (keyNs ks).bind fun nks => if nks.all (fun k => decide (k.depth ≤ 8)) then some nks else none
def keyT (d : PyData) : Option NestedKey := if isTupD d then (keyN d).bind fun k => if k.depth ≤ 8 then some k else none else none
def sDk (i : Nat) (m : M (List PyData)) : SM := sBind m fun ks r => match r[i]? with
  | some (.io _) => none
  | some _ => some (.nx (r.set i (.dk ks)))
  | none => none
def inDkM (neg : Bool) (ks : List PyData) (d : PyData) : Option PyData := (keyT d).bind fun k => (dkNs ks).map fun nks => .bool (if neg then !decide (k ∈ nks) else decide (k ∈ nks))
def mInDk (neg : Bool) (i : Nat) (m : M PyData) : M PyData := m.bind fun d r => match r[i]? with
  | some (.dk ks) => (inDkM neg ks d).map fun z => .ok z r
  | _ => none
@[simp] theorem e_inDk {neg : Bool} {i : Nat} {m : M PyData} {r : En} : mInDk neg i m r = M.bind m (fun d r => match r[i]? with
  | some (.dk ks) => (inDkM neg ks d).map fun z => .ok z r
  | _ => none) r := rfl
@[simp] theorem s_dk {i : Nat} {m : M (List PyData)} {r : En} : sDk i m r = sBind m (fun ks r => match r[i]? with
  | some (.io _) => none
  | some _ => some (.nx (r.set i (.dk ks)))
  | none => none) r := rfl
def rDk (K : PySem.W.Frag) : RR V (List PyData) := fun S O F G H v ks => ∃ p nks as, v = .ref p ∧ S p = none ∧ G p = none ∧ F.H0 p = none ∧ (∀ i, O i ≠ some p) ∧ H p = some (DkO p nks as) ∧ keyNs ks = some nks ∧ DqAll K G (as.map V.ref) ks
instance {K : PySem.W.Frag} : Anti (rDk K) := ⟨fun k ⟨p, nks, as, h1, h2, h⟩ => ⟨p, nks, as, h1, k _ h2, h⟩⟩
section
variable {K : PySem.W.Frag} {F : Fm} {O : Ow} {G G' H H' : Hp} {σ : L2.St} {r : En} {E : XE} {X : Cx}
theorem Rp.seeO {p : Addr} {ob : HO} (R : Rp K F O G σ H r) (h : H p = some ob) (g : G p = none) (h0 : F.H0 p = none) (o : ∀ i, O i ≠ some p) : Rp K F O (upd G p ob) σ H r where
  sub := fun c x q => by
    by_cases z : c = p
    · subst z
      rw [upd_same] at q
      cases q
      exact h
    · rw [upd_ne z] at q
      exact R.sub _ _ q
  len := R.len
  pl := fun i d e => by
    obtain ⟨v, h1, h2⟩ := R.pl i d e
    exact ⟨v, h1, h2.sm (same_new g)⟩
  ow := fun i ds e => by
    obtain ⟨q, xs, h1, h2, h0, h3, h4⟩ := R.ow i ds e
    exact ⟨q, xs, h1, h2, h0, h3, h4.sm (same_new g)⟩
  io := fun i ds e => by
    obtain ⟨q, xs, h0, h1, h2, h3, h4⟩ := R.io i ds e
    exact ⟨q, xs, h0, h1, h2, h3, h4.sm (same_new g)⟩
  dk := fun i ks e => by
    obtain ⟨q, h1, h2⟩ := R.dk i ks e
    exact ⟨q, h1, h2.sm (same_new g)⟩
  on := fun i q e => by
    obtain ⟨h1, h2, h3, h4⟩ := R.on i q e
    refine ⟨h1, ?_, h3, h4⟩
    rw [upd_ne fun z => o i (by rw [e, z])]
    exact h2
  inj := R.inj
  old := R.old
  nf := R.nf
  g0 := R.g0.trans (same_new g)
  gn := fun c e => by
    by_cases z : c = p
    · exact .inr (by rw [z]; exact h0)
    · rw [upd_ne z] at e
      exact R.gn c e
theorem Rp.putDk (R : Rp K F O G σ H r) {i : Nat} (hi : i < r.length) (hio : ∀ ds, r[i]? ≠ some (Cel.io ds)) {p : Addr} {ks : List PyData} (hp : DkH K G p ks) :
    Rp K F (fun j => if j = i then none else O j) G (σ.set i (some (.ref p))) H (r.set i (.dk ks)) := by
  have P := dropO R hio
  have ne : ∀ (j : Nat) (c : Cel), (r.set i (.dk ks))[j]? = some c → j ≠ i → (r.set i .un)[j]? = some c := fun j c e z => by
    rw [List.getElem?_set_ne (Ne.symm z)] at e ⊢
    exact e
  have li : i < σ.length := by rw [R.len]; exact hi
  have un : ∀ (j : Nat) (c : Cel), (∀ ks, c ≠ .dk ks) → (r.set i (.dk ks))[j]? = some c → j ≠ i := fun j c hc e z => by
    subst z
    rw [List.getElem?_set_self hi] at e
    exact hc ks (Option.some.inj e).symm
  refine ⟨P.sub, by rw [List.length_set, List.length_set]; exact R.len, fun j d e => ?_, fun j ds' e => ?_, fun j ds' e => ?_, fun j ks' e => ?_, fun j q e => ?_, P.inj, R.old, R.nf, R.g0, R.gn⟩
  · have z := un j _ (fun _ => Cel.noConfusion) e
    obtain ⟨v, h1, h2⟩ := P.pl j d (ne j _ e z)
    exact ⟨v, by rw [List.getElem?_set_ne (Ne.symm z)]; exact h1, h2⟩
  · have z := un j _ (fun _ => Cel.noConfusion) e
    obtain ⟨q, ys, h1, h2, h3⟩ := P.ow j ds' (ne j _ e z)
    exact ⟨q, ys, h1, by rw [List.getElem?_set_ne (Ne.symm z)]; exact h2, h3⟩
  · have z := un j _ (fun _ => Cel.noConfusion) e
    obtain ⟨q, ys, h0, h1, h2, h3⟩ := P.io j ds' (ne j _ e z)
    exact ⟨q, ys, h0, h1, by rw [List.getElem?_set_ne (Ne.symm z)]; exact h2, h3⟩
  · by_cases z : j = i
    · subst z
      rw [List.getElem?_set_self hi] at e
      cases e
      exact ⟨p, by rw [List.getElem?_set_self li], hp⟩
    · obtain ⟨q, h1, h2⟩ := P.dk j ks' (ne j _ e z)
      exact ⟨q, by rw [List.getElem?_set_ne (Ne.symm z)]; exact h1, h2⟩
  · obtain ⟨⟨c, h1, h2⟩, h3⟩ := P.on j q e
    have z : j ≠ i := fun z => by
      rw [if_pos z] at e
      cases e
    exact ⟨⟨c, by rw [List.getElem?_set_ne (Ne.symm z)] at h1 ⊢; exact h1, h2⟩, h3⟩
end
end DL
namespace DL
open PySem PySem.Spec PyProof.Rows L2 Lk
section
variable {K : PySem.W.Frag} {E : XE} {X : Cx}
variable {kn : L2.St → Hp → Prop} {a b c e : Expr} {pos : Pos} {m ma mb : M PyData}
end
section
variable {P : Program} {w : World} {K : PySem.W.Frag} {mg : Str → Option Value} {base : Heap}
end
end DL
namespace DL
open PySem PySem.Spec PyProof.Rows L2 Lk
def mLOwn (i : Nat) : M (List PyData) := fun r => match ownOf r[i]? with
  | some ds => some (.ok ds r)
  | none => none
@[simp] theorem e_lOwn {i : Nat} {r : En} : mLOwn i r = (match ownOf r[i]? with
  | some ds => some (.ok ds r)
  | none => none) := rfl
section
variable {K : PySem.W.Frag} {E : XE} {X : Cx} {pos : Pos}
end
end DL
namespace DL
open PySem PySem.Spec PyProof.Rows L2 Lk
def rgD (n : Nat) : List PyData := [.list [.int (n : Int)]]
def rgOf : List PyData → Option Nat
  | [.list [.int j]] => if 0 ≤ j then some j.toNat else none
  | _ => none
def sRg (i : Nat) (m : M (List PyData)) : SM := sBind m fun ds r => match ds with
  | [.int j] => if 0 ≤ j ∧ j ≤ 1000000 then (match r[i]? with
    | some (.io _) => none
    | some _ => some (.nx (r.set i (.dk (rgD j.toNat))))
    | none => none) else none
  | _ => none
def mRgN (i : Nat) : M (List PyData) := fun r => match r[i]? with
  | some (.dk ks) => (rgOf ks).map fun n => .ok (rngL 0 n) r
  | _ => none
@[simp] theorem s_rg {i : Nat} {m : M (List PyData)} {r : En} : sRg i m r = sBind m (fun ds r => match ds with
  | [.int j] => if 0 ≤ j ∧ j ≤ 1000000 then (match r[i]? with
    | some (.io _) => none
    | some _ => some (.nx (r.set i (.dk (rgD j.toNat))))
    | none => none) else none
  | _ => none) r := rfl
@[simp] theorem e_rgN {i : Nat} {r : En} : mRgN i r = (match r[i]? with
  | some (.dk ks) => (rgOf ks).map fun n => .ok (rngL 0 n) r
  | _ => none) := rfl
@[simp] theorem rgOf_rgD {n : Nat} : rgOf (rgD n) = some n := by
  unfold rgOf rgD
  simp
def tRg (ta : TA) : TE := fun σ H Q => ta σ H fun vs H1 => ∃ n : Nat, vs = [.int (n : Int)] ∧ n ≤ 1000000 ∧ ∀ p, H1 p = none → Q (.ref p) (upd H1 p (RgO p n))
section
variable {K : PySem.W.Frag} {E : XE} {X : Cx} {a tg : Expr} {m : M (List PyData)} {pos : Pos}
theorem pe_rg {ta : TA} {p : Pos} (hg : Gl X "range") (hm : X.mg "range" = none) (ha : PA X [a] ta) (hs : starEach [a] X.env = [(false, eval a X.env)] := by rfl) : PE X (.Call (.Name "range" p) [a] [] pos) (tRg ta) := by
  refine ⟨fun pins s σ H Q I h => ?_⟩
  refine Call_ (ld_blt I hg hm boot_range (PyProof.Rows.callWith_type1 (thn (ha.run pos pins s σ H _ I h) fun us s1 ⟨vs, H1, I1, r1, q1⟩ => ?_) hs rfl))
  obtain ⟨n, e, hn, q⟩ := q1
  subst e
  cases r1 with
  | cons r rr =>
    cases rr
    obtain ⟨t, rfl⟩ := r
    refine call_range_1 ?_
    exact ⟨.ref s1.heap.objs.size, _, I1.laid (t' := s1.toks + 1 + 1) (fun b o e => Heap.get?_push_of_some _ e) (Nat.le_refl _) (rgO_new (IsRange.new ..)), rfl, q _ (I1.hok.fresh (Nat.le_refl _))⟩
theorem ds_rg {i : Nat} {x : Str} {px p p2 : Pos} (hN : X.N.Nodup) (hx : X.N[i]? = some x) (hlx : Loc X.env.scope x) (hg : Gl X "range") (hm : X.mg "range" = none) (ha : DA K E X [a] m) (hs : starEach [a] X.env = [(false, eval a X.env)] := by rfl)
    (hsw : swapsWith (.Call (.Name "range" p) [a] [] p2) (some (.Name x px)) pos.line X.env = pure false := by rfl) (hf : X.fn x = true ∨ X.env.scope.names.lookup x = some .local := by first | exact .inl rfl | exact .inr rfl) :
    DS K E X (.Assign [.Name x px] (.Call (.Name "range" p) [a] [] p2) pos) (sRg i m) := ⟨fun hK => by
  refine PS.imp (ps_set hN hx hlx (pe_rg hg hm (ha.pa hK) hs) hsw hf) fun D σ H ⟨F, O, G, r, fl, P, em, f⟩ => ?_
  refine tS.run P f em fun ds r1 xs G1 H1 P1 g1 q1 e1 f1 => ?_
  split at e1
  · rename_i j
    split at e1
    · rename_i hj
      obtain ⟨v, rfl, hv⟩ := one_of q1
      cases hv
      split at e1
      · cases e1
      · rename_i cel hne hc
        cases e1
        refine ⟨j.toNat, by rw [Int.toNat_of_nonneg hj.1], by omega, fun p np => ?_⟩
        have gp : G1 p = none := P1.sub.free np
        have h0 : F.H0 p = none := P1.nf _ np
        have ho : ∀ i, O i ≠ some p := fun i z => (P1.on i p z).2.2.1 np
        have P2 := (P1.wr (o := RgO p j.toNat) gp h0 ho).seeO upd_same gp h0 ho
        have P3 := P2.putDk (List.getElem?_eq_some_iff.mp hc).1 (fun ds z => hne ds (Option.some.inj (hc.symm.trans z))) (.rng upd_same (by omega : j.toNat ≤ 1000000))
        exact f1 _ _ _ _ P3 (same_new gp)
      · cases e1
    · cases e1
  · cases e1⟩
theorem xi_rgN (i : Nat) {y : Str} {p : Pos} (hN : X.N[i]? = some y := by rfl) (hv : Vis X.env.scope y := by first | exact Or.inl rfl | exact Or.inr (Or.inl rfl) | exact Or.inr (Or.inr rfl)) (hd : (y == ("__debug__" : Str)) = false := by decide) (hcd : (y == ("__classdict__" : Str)) = false := by decide) :
    DI K E X tg (.Name y p) (mRgN i) := ⟨fun hK => by
  subst hK
  refine ⟨fun pins s σ H R I ⟨F, O, G, r, out, P, em, f⟩ => ?_⟩
  unfold mRgN at em
  split at em
  · rename_i ks hr
    obtain ⟨n, hn, rfl⟩ := Option.map_eq_some_iff.mp em
    obtain ⟨q, h1, hd2⟩ := P.dk i ks hr
    cases hd2 with
    | keys h2 h3 h4 =>
      exfalso
      unfold rgOf at hn
      split at hn
      · simp [keyNs, keyN] at h3
      · cases hn
    | rng h2 h3 =>
      rename_i m
      have hn : rgOf (rgD m) = some n := hn
      rw [rgOf_rgD] at hn
      have hn := Option.some.inj hn
      subst hn
      refine thn ((pe_var hN hv hd hcd).run pins s σ H (fun x H1 => x = .ref q ∧ H1 = H) I ⟨_, h1, rfl, rfl⟩) fun v s1 ⟨x, H1, I1, r1, q1, q2⟩ => ?_
      subst q1 q2
      cases r1
      obtain ⟨t, u, w, hrg⟩ := (I1.hok q _ (P.sub _ _ h2)).1
      refine wpAny_pyIter_range hrg (small_one (by omega) (by omega) (by omega) (by omega)) ?_
      refine ⟨s1.heap.objs.size, [s1.heap.objs.size], _, _, H1, rfl, I1.kept (t' := s1.toks) fun b o e => Heap.get?_push_of_some _ e, turn_range _ 0 m, ?_, fun b hb => ?_, f.ok (Ps.refl P.sub) P gives_range⟩
      · have e1 : (0 : Int) + ((0 : Nat) : Int) * 1 = 0 := by simp
        have e2 : (((m : Nat)) : Int) - ((0 : Nat) : Int) = Builtin.Range.rangeSize 0 (m : Int) 1 := by rw [rangeSize_one]; split <;> omega
        show IsRangeIter _ _ ((0 : Int) + ((0 : Nat) : Int) * 1) ((((m : Nat)) : Int) - ((0 : Nat) : Int)) 1
        rw [e1, e2]
        exact Heap.get?_push_size _ rfl
      · have e : b = s1.heap.objs.size := by simpa using hb
        subst e
        exact I1.fpOk (Nat.le_refl _) (I1.hok.fresh (Nat.le_refl _))
  · cases em⟩
end
end DL
namespace DL
open PySem PySem.Spec PyProof.Rows L2 Lk
def c_JOINING_WORDS : PyData := .tuple [.str "and", .str "or", .str "odd"]
def c_PLAIN_WORDS : PyData := .tuple [.str "say", .str "tree"]
def v_is_integer : SM := (sRet (mAndV (mIsi "int" (mV 0)) (mNotV (mIsi "bool" (mV 0)))))
def g_is_integer : List PyData → Option PyData := runD ["value"] 1 v_is_integer
theorem r_is_integer (x0 : PyData) : g_is_integer [x0] = outD (v_is_integer [.pl x0]) := rfl
def v_is_integer_below : SM := (sRet (mAndV (mCall g_is_integer (mCons (mV 0) mNil)) (mChain leM ltM (M.ret (.int 0)) (mV 0) (mV 1))))
def g_is_integer_below : List PyData → Option PyData := runD ["value", "limit"] 2 v_is_integer_below
theorem r_is_integer_below (x0 : PyData) (x1 : PyData) : g_is_integer_below [x0, x1] = outD (v_is_integer_below [.pl x0, .pl x1]) := rfl
def v_are_ascending_below : SM := (sSeq (sSet 2 (M.ret (.int 0)))
  (sSeq (sFor (mSeq (mV 0)) (gN 3)
    (sSeq (sIf (mOr (mNotT (mTru (mCall g_is_integer_below (mCons (mV 3) (mCons (mV 1) mNil))))) (mOpT ltM (mV 3) (mV 2)))
    (sRet (M.ret (.bool false)))
    sNil)
  (sSet 2 (mOp2 addM (mV 3) (M.ret (.int 1))))))
  (sRet (M.ret (.bool true)))))
def g_are_ascending_below : List PyData → Option PyData := runD ["values", "limit", "least", "value"] 2 v_are_ascending_below
theorem r_are_ascending_below (x0 : PyData) (x1 : PyData) : g_are_ascending_below [x0, x1] = outD (v_are_ascending_below [.pl x0, .pl x1, .un, .un]) := rfl
end DL
namespace DL
open PySem PySem.Spec PyProof.Rows L2 Lk
def v_is_sizes : SM := (sSeq (sIf (mOr (mNotT (mTru (mIsi "list" (mV 0)))) (mOpT gtM (mCall lenM (mCons (mV 0) mNil)) (M.ret (.int 24))))
    (sRet (M.ret (.bool false)))
    sNil)
  (sRet (mCall allM (mCons (mNew (mLc [1] (mSeq (mV 0)) (gN 1) mYes (mAndV (mCall g_is_integer (mCons (mV 1) mNil)) (mChain leM leM (M.ret (.int 2)) (mV 1) (M.ret (.int 6)))))) mNil))))
def g_is_sizes : List PyData → Option PyData := runD ["value", "size"] 1 v_is_sizes
theorem r_is_sizes (x0 : PyData) : g_is_sizes [x0] = outD (v_is_sizes [.pl x0, .un]) := rfl
def v_check_sizes : SM := (sIf (mNotT (mTru (mCall g_is_sizes (mCons (mV 0) mNil))))
    sNo
    sNil)
def g_check_sizes : List PyData → Option PyData := runD ["sizes"] 1 v_check_sizes
theorem r_check_sizes (x0 : PyData) : g_check_sizes [x0] = outD (v_check_sizes [.pl x0]) := rfl
def v_number_of_cases : SM := (sSeq (sSet 1 (M.ret (.int 1)))
  (sSeq (sFor (mSeq (mV 0)) (gN 2)
    (sSet 1 (mOp2 mulM (mV 1) (mV 2))))
  (sRet (mV 1))))
def g_number_of_cases : List PyData → Option PyData := runD ["sizes", "number", "size"] 1 v_number_of_cases
theorem r_number_of_cases (x0 : PyData) : g_number_of_cases [x0] = outD (v_number_of_cases [.pl x0, .un, .un]) := rfl
def v_is_small_sheet : SM := (sRet (mOp2 leM (mCall g_number_of_cases (mCons (mV 0) mNil)) (M.ret (.int 1024))))
def g_is_small_sheet : List PyData → Option PyData := runD ["sizes"] 1 v_is_small_sheet
theorem r_is_small_sheet (x0 : PyData) : g_is_small_sheet [x0] = outD (v_is_small_sheet [.pl x0]) := rfl
end DL
namespace DL
open PySem PySem.Spec PyProof.Rows L2 Lk
def v_inner_forms : SM := (sSeq (sIf (mOpT eqM (mOp2 ixM (mV 0) (M.ret (.int 0))) (M.ret (.str "tree")))
    (sRet (mOp2 ixM (mV 0) (M.ret (.int 2))))
    sNil)
  (sSeq (sIf (mOpT eqM (mOp2 ixM (mV 0) (M.ret (.int 0))) (M.ret (.str "not")))
    (sRet (mTup (mCons (mOp2 ixM (mV 0) (M.ret (.int 1))) mNil)))
    sNil)
  (sSeq (sIf (mOpT inM (mOp2 ixM (mV 0) (M.ret (.int 0))) (M.ret c_JOINING_WORDS))
    (sRet (mOp2 ixM (mV 0) (M.ret (.int 1))))
    sNil)
  (sRet (mTup mNil)))))
def g_inner_forms : List PyData → Option PyData := runD ["form"] 1 v_inner_forms
theorem r_inner_forms (x0 : PyData) : g_inner_forms [x0] = outD (v_inner_forms [.pl x0]) := rfl
def v_p_is_tuple_of : SM := (sRet (mAndV (mIsi "tuple" (mV 0)) (mOp2 eqM (mCall lenM (mCons (mV 0) mNil)) (mV 1))))
def g_p_is_tuple_of : List PyData → Option PyData := runD ["value", "length"] 2 v_p_is_tuple_of
theorem r_p_is_tuple_of (x0 : PyData) (x1 : PyData) : g_p_is_tuple_of [x0, x1] = outD (v_p_is_tuple_of [.pl x0, .pl x1]) := rfl
def v_p_is_results : SM := (sSeq (sIf (mOr (mNotT (mTru (mCall g_is_small_sheet (mCons (mV 0) mNil)))) (mNotT (mTru (mCall g_p_is_tuple_of (mCons (mV 1) (mCons (mCall g_number_of_cases (mCons (mV 0) mNil)) mNil))))))
    (sRet (M.ret (.bool false)))
    sNil)
  (sRet (mCall allM (mCons (mNew (mLc [2] (mSeq (mV 1)) (gN 2) mYes (mIsi "bool" (mV 2)))) mNil))))
def g_p_is_results : List PyData → Option PyData := runD ["sizes", "value", "result"] 2 v_p_is_results
theorem r_p_is_results (x0 : PyData) (x1 : PyData) : g_p_is_results [x0, x1] = outD (v_p_is_results [.pl x0, .pl x1, .un]) := rfl
def v_p_is_short_form_outside : SM := (sSeq (sIf (mOpT eqM (mV 1) (M.ret (.str "say")))
    (sRet (mIsi "bool" (mV 2)))
    sNil)
  (sSeq (sIf (mOpT eqM (mV 1) (M.ret (.str "table")))
    (sRet (mCall g_p_is_results (mCons (mV 0) (mCons (mV 2) mNil))))
    sNil)
  (sSeq (sIf (mOpT eqM (mV 1) (M.ret (.str "not")))
    (sRet (M.ret (.bool true)))
    sNil)
  (sRet (mAndV (mOp2 inM (mV 1) (M.ret c_JOINING_WORDS)) (mIsi "tuple" (mV 2)))))))
def g_p_is_short_form_outside : List PyData → Option PyData := runD ["sizes", "word", "part"] 3 v_p_is_short_form_outside
theorem r_p_is_short_form_outside (x0 : PyData) (x1 : PyData) (x2 : PyData) : g_p_is_short_form_outside [x0, x1, x2] = outD (v_p_is_short_form_outside [.pl x0, .pl x1, .pl x2]) := rfl
def v_p_is_test : SM := (sSeq (sIf (mOr (mNotT (mTru (mCall g_is_integer_below (mCons (mV 1) (mCons (mCall lenM (mCons (mV 0) mNil)) mNil))))) (mNotT (mTru (mIsi "tuple" (mV 2)))))
    (sRet (M.ret (.bool false)))
    sNil)
  (sRet (mCall g_are_ascending_below (mCons (mV 2) (mCons (mOp2 ixM (mV 0) (mV 1)) mNil)))))
def g_p_is_test : List PyData → Option PyData := runD ["sizes", "field", "values"] 3 v_p_is_test
theorem r_p_is_test (x0 : PyData) (x1 : PyData) (x2 : PyData) : g_p_is_test [x0, x1, x2] = outD (v_p_is_test [.pl x0, .pl x1, .pl x2]) := rfl
def v_p_is_condition : SM := (sRet (mAndV (mCall g_p_is_tuple_of (mCons (mV 1) (mCons (M.ret (.int 2)) mNil))) (mCall g_p_is_test (mCons (mV 0) (mCons (mOp2 ixM (mV 1) (M.ret (.int 0))) (mCons (mOp2 ixM (mV 1) (M.ret (.int 1))) mNil))))))
def g_p_is_condition : List PyData → Option PyData := runD ["sizes", "value"] 2 v_p_is_condition
theorem r_p_is_condition (x0 : PyData) (x1 : PyData) : g_p_is_condition [x0, x1] = outD (v_p_is_condition [.pl x0, .pl x1]) := rfl
def v_is_conditions : SM := (sSeq (sIf (mOr (mNotT (mTru (mIsi "tuple" (mV 1)))) (mNotT (mTru (mCall allM (mCons (mNew (mLc [2] (mSeq (mV 1)) (gN 2) mYes (mCall g_p_is_condition (mCons (mV 0) (mCons (mV 2) mNil))))) mNil)))))
    (sRet (M.ret (.bool false)))
    sNil)
  (sRet (mCall g_are_ascending_below (mCons (mNew (mLc [2] (mSeq (mV 1)) (gN 2) mYes (mOp2 ixM (mV 2) (M.ret (.int 0))))) (mCons (mCall lenM (mCons (mV 0) mNil)) mNil)))))
def g_is_conditions : List PyData → Option PyData := runD ["sizes", "value", "part"] 2 v_is_conditions
theorem r_is_conditions (x0 : PyData) (x1 : PyData) : g_is_conditions [x0, x1] = outD (v_is_conditions [.pl x0, .pl x1, .un]) := rfl
def v_p_is_rule : SM := (sRet (mAndV (mCall g_p_is_tuple_of (mCons (mV 1) (mCons (M.ret (.int 2)) mNil))) (mAndV (mCall g_is_conditions (mCons (mV 0) (mCons (mOp2 ixM (mV 1) (M.ret (.int 0))) mNil))) (mIsi "bool" (mOp2 ixM (mV 1) (M.ret (.int 1)))))))
def g_p_is_rule : List PyData → Option PyData := runD ["sizes", "value"] 2 v_p_is_rule
theorem r_p_is_rule (x0 : PyData) (x1 : PyData) : g_p_is_rule [x0, x1] = outD (v_p_is_rule [.pl x0, .pl x1]) := rfl
def v_p_is_rules : SM := (sRet (mAndV (mIsi "tuple" (mV 1)) (mCall allM (mCons (mNew (mLc [2] (mSeq (mV 1)) (gN 2) mYes (mCall g_p_is_rule (mCons (mV 0) (mCons (mV 2) mNil))))) mNil))))
def g_p_is_rules : List PyData → Option PyData := runD ["sizes", "value", "part"] 2 v_p_is_rules
theorem r_p_is_rules (x0 : PyData) (x1 : PyData) : g_p_is_rules [x0, x1] = outD (v_p_is_rules [.pl x0, .pl x1, .un]) := rfl
def v_p_are_integers : SM := (sRet (mCall allM (mCons (mNew (mLc [1] (mSeq (mV 0)) (gN 1) mYes (mCall g_is_integer (mCons (mV 1) mNil)))) mNil)))
def g_p_are_integers : List PyData → Option PyData := runD ["values", "value"] 1 v_p_are_integers
theorem r_p_are_integers (x0 : PyData) : g_p_are_integers [x0] = outD (v_p_are_integers [.pl x0, .un]) := rfl
def v_p_is_weights : SM := (sSeq (sIf (mNotT (mTru (mCall g_p_is_tuple_of (mCons (mV 1) (mCons (mCall lenM (mCons (mV 0) mNil)) mNil)))))
    (sRet (M.ret (.bool false)))
    sNil)
  (sRet (mCall allM (mCons (mNew (mLc [2] (mRng1 (mCons (mCall lenM (mCons (mV 0) mNil)) mNil)) (gN 2) mYes (mAndV (mCall g_p_is_tuple_of (mCons (mOp2 ixM (mV 1) (mV 2)) (mCons (mOp2 ixM (mV 0) (mV 2)) mNil))) (mCall g_p_are_integers (mCons (mOp2 ixM (mV 1) (mV 2)) mNil))))) mNil))))
def g_p_is_weights : List PyData → Option PyData := runD ["sizes", "value", "at"] 2 v_p_is_weights
theorem r_p_is_weights (x0 : PyData) (x1 : PyData) : g_p_is_weights [x0, x1] = outD (v_p_is_weights [.pl x0, .pl x1, .un]) := rfl
def v_p_is_long_form_outside : SM := (sSeq (sIf (mOpT eqM (mV 1) (M.ret (.str "is")))
    (sRet (mCall g_p_is_test (mCons (mV 0) (mCons (mV 2) (mCons (mV 3) mNil)))))
    sNil)
  (sSeq (sIf (mOpT eqM (mV 1) (M.ret (.str "tree")))
    (sRet (mAndV (mCall g_is_integer_below (mCons (mV 2) (mCons (mCall lenM (mCons (mV 0) mNil)) mNil))) (mCall g_p_is_tuple_of (mCons (mV 3) (mCons (mOp2 ixM (mV 0) (mV 2)) mNil)))))
    sNil)
  (sSeq (sIf (mOpT eqM (mV 1) (M.ret (.str "rules")))
    (sRet (mAndV (mCall g_p_is_rules (mCons (mV 0) (mCons (mV 2) mNil))) (mIsi "bool" (mV 3))))
    sNil)
  (sRet (mAndV (mOp2 eqM (mV 1) (M.ret (.str "card"))) (mAndV (mCall g_p_is_weights (mCons (mV 0) (mCons (mV 2) mNil))) (mCall g_is_integer (mCons (mV 3) mNil))))))))
def g_p_is_long_form_outside : List PyData → Option PyData := runD ["sizes", "word", "part", "second_part"] 4 v_p_is_long_form_outside
theorem r_p_is_long_form_outside (x0 : PyData) (x1 : PyData) (x2 : PyData) (x3 : PyData) : g_p_is_long_form_outside [x0, x1, x2, x3] = outD (v_p_is_long_form_outside [.pl x0, .pl x1, .pl x2, .pl x3]) := rfl
def v_p_is_form_outside : SM := (sSeq (sIf (mOr (mNotT (mTru (mIsi "tuple" (mV 1)))) (mOr (mOpT eqM (mCall lenM (mCons (mV 1) mNil)) (M.ret (.int 0))) (mNotT (mTru (mIsi "str" (mOp2 ixM (mV 1) (M.ret (.int 0))))))))
    (sRet (M.ret (.bool false)))
    sNil)
  (sSeq (sIf (mOpT eqM (mCall lenM (mCons (mV 1) mNil)) (M.ret (.int 2)))
    (sRet (mCall g_p_is_short_form_outside (mCons (mV 0) (mCons (mOp2 ixM (mV 1) (M.ret (.int 0))) (mCons (mOp2 ixM (mV 1) (M.ret (.int 1))) mNil)))))
    sNil)
  (sRet (mAndV (mOp2 eqM (mCall lenM (mCons (mV 1) mNil)) (M.ret (.int 3))) (mCall g_p_is_long_form_outside (mCons (mV 0) (mCons (mOp2 ixM (mV 1) (M.ret (.int 0))) (mCons (mOp2 ixM (mV 1) (M.ret (.int 1))) (mCons (mOp2 ixM (mV 1) (M.ret (.int 2))) mNil)))))))))
def g_p_is_form_outside : List PyData → Option PyData := runD ["sizes", "value"] 2 v_p_is_form_outside
theorem r_p_is_form_outside (x0 : PyData) (x1 : PyData) : g_p_is_form_outside [x0, x1] = outD (v_p_is_form_outside [.pl x0, .pl x1]) := rfl
def v_has_form_shape : SM := (sSeq (sOwn 2 (mLst (mCons (mV 1) mNil)))
  (sSeq (whGo (mTruO 2)
    (sSeq (sSet 3 (mPop 2))
  (sSeq (sIf (mNotT (mTru (mCall g_p_is_form_outside (mCons (mV 0) (mCons (mV 3) mNil)))))
    (sRet (M.ret (.bool false)))
    sNil)
  (sExt 2 (mCall g_inner_forms (mCons (mV 3) mNil))))) WH)
  (sRet (M.ret (.bool true)))))
def g_has_form_shape : List PyData → Option PyData := runD ["sizes", "value", "left", "part"] 2 v_has_form_shape
theorem r_has_form_shape (x0 : PyData) (x1 : PyData) : g_has_form_shape [x0, x1] = outD (v_has_form_shape [.pl x0, .pl x1, .un, .un]) := rfl
def v_all_forms : SM := (sSeq (sOwn 1 (mLst mNil))
  (sSeq (sOwn 2 (mLst (mCons (mV 0) mNil)))
  (sSeq (whGo (mTruO 2)
    (sSeq (sSet 3 (mPop 2))
  (sSeq (sApp 1 (mV 3))
  (sExt 2 (mCall g_inner_forms (mCons (mV 3) mNil))))) WH)
  (sFrz 1 (sRet (mV 1))))))
def g_all_forms : List PyData → Option PyData := runD ["form", "found", "left", "part"] 1 v_all_forms
theorem r_all_forms (x0 : PyData) : g_all_forms [x0] = outD (v_all_forms [.pl x0, .un, .un, .un]) := rfl
def v_has_plain_words : SM := (sRet (mCall allM (mCons (mNew (mLc [1] (mSeq (mCall g_all_forms (mCons (mV 0) mNil))) (gN 1) mYes (mOp2 inM (mOp2 ixM (mV 1) (M.ret (.int 0))) (M.ret c_PLAIN_WORDS)))) mNil)))
def g_has_plain_words : List PyData → Option PyData := runD ["form", "part"] 1 v_has_plain_words
theorem r_has_plain_words (x0 : PyData) : g_has_plain_words [x0] = outD (v_has_plain_words [.pl x0, .un]) := rfl
end DL
namespace DL
open PySem PySem.Spec PyProof.Rows L2 Lk
def v_check_form : SM := (sIf (mNotT (mTru (mCall g_has_form_shape (mCons (mV 0) (mCons (mV 1) mNil)))))
    sNo
    sNil)
def g_check_form : List PyData → Option PyData := runD ["sizes", "form"] 2 v_check_form
theorem r_check_form (x0 : PyData) (x1 : PyData) : g_check_form [x0, x1] = outD (v_check_form [.pl x0, .pl x1]) := rfl
def v_tested : SM := (sSeq (sIf (mOpT eqM (mCntT 1 (mCons (mOp2 ixM (mV 1) (M.ret (.int 0))) mNil)) (mCall lenM (mCons (mV 1) mNil))) (sRet (mOp2 ixM (mV 1) (M.ret (.int 0)))) sNil) (sRet (mTup (mCons (M.ret (.str "tree")) (mCons (mV 0) (mCons (mV 1) mNil))))))
def g_tested : List PyData → Option PyData := runD ["field", "branches"] 2 v_tested
theorem r_tested (x0 : PyData) (x1 : PyData) : g_tested [x0, x1] = outD (v_tested [.pl x0, .pl x1]) := rfl
end DL
namespace DL
open PySem PySem.Spec PyProof.Rows L2 Lk
end DL
namespace DL
open PySem PySem.Spec PyProof.Rows L2 Lk
end DL
namespace DL
open PySem PySem.Spec PyProof.Rows L2 Lk
end DL
namespace DL
open PySem PySem.Spec PyProof.Rows L2 Lk
end DL
namespace DL
open PySem PySem.Spec PyProof.Rows L2 Lk
end DL
namespace DL
open PySem PySem.Spec PyProof.Rows L2 Lk
end DL
namespace DL
open PySem PySem.Spec PyProof.Rows L2 Lk
def v_check_tree : SM := (sSeq (sExpr (mCall g_check_form (mCons (mV 0) (mCons (mV 1) mNil))))
  (sIf (mNotT (mTru (mCall g_has_plain_words (mCons (mV 1) mNil))))
    sNo
    sNil))
def g_check_tree : List PyData → Option PyData := runD ["sizes", "tree"] 2 v_check_tree
theorem r_check_tree (x0 : PyData) (x1 : PyData) : g_check_tree [x0, x1] = outD (v_check_tree [.pl x0, .pl x1]) := rfl
def v_p_with_value_33504 : SM := (sRet (mNew (mLst (mStar (mNew (mSlice (mV 0) mNoPart (mPart (mV 1)))) (mCons (mV 2) (mStar (mNew (mSlice (mV 0) (mPart (mOp2 addM (mV 1) (M.ret (.int 1)))) mNoPart)) mNil))))))
def g_p_with_value_33504 : List PyData → Option PyData := runD ["half", "field", "value"] 3 v_p_with_value_33504
theorem r_p_with_value_33504 (x0 : PyData) (x1 : PyData) (x2 : PyData) : g_p_with_value_33504 [x0, x1, x2] = outD (v_p_with_value_33504 [.pl x0, .pl x1, .pl x2]) := rfl
def v_p_list_ways_below_98856 (self : List PyData → Option PyData) : SM := (sSeq (sIf (mOpT eqM (mOp2 ixM (mV 0) (M.ret (.int 0))) (M.ret (.str "say")))
    (sRet (mNew (mLst (mCons (mTup (mCons (mV 1) (mCons (mOp2 ixM (mV 0) (M.ret (.int 1))) mNil))) mNil))))
    sNil)
  (sSeq (sSet 2 (mOp2 ixM (mV 0) (M.ret (.int 1))))
  (sSeq (sIf (mOpT isNotM (mOp2 ixM (mV 1) (mV 2)) (M.ret .none))
    (sRet (mCall self (mCons (mOp2 ixM (mOp2 ixM (mV 0) (M.ret (.int 2))) (mOp2 ixM (mV 1) (mV 2))) (mCons (mV 1) mNil))))
    sNil)
  (sSeq (sOwn 3 (mLst mNil))
  (sSeq (sFor (mRng1 (mCons (mCall lenM (mCons (mOp2 ixM (mV 0) (M.ret (.int 2))) mNil)) mNil)) (gN 4)
    (sExtL 3 (mCall self (mCons (mOp2 ixM (mOp2 ixM (mV 0) (M.ret (.int 2))) (mV 4)) (mCons (mCall g_p_with_value_33504 (mCons (mV 1) (mCons (mV 2) (mCons (mV 4) mNil)))) mNil)))))
  (sFrz 3 (sRet (mV 3))))))))
def g_p_list_ways_below_98856 : Nat → List PyData → Option PyData
  | 0 => fun _ => none
  | n + 1 => runD ["tree", "half", "field", "found", "value"] 2 (v_p_list_ways_below_98856 (g_p_list_ways_below_98856 n))
def v_p_list_ways : SM := (sRet (mCall (g_p_list_ways_below_98856 FU) (mCons (mV 1) (mCons (mNew (mRep (mLst (mCons (M.ret .none) mNil)) (mCall lenM (mCons (mV 0) mNil)))) mNil))))
def g_p_list_ways : List PyData → Option PyData := runD ["sizes", "tree"] 2 v_p_list_ways
def v_p_conditions_of : SM := (sRet (mCall tupleM (mCons (mNew (mLc [1] (mRng1 (mCons (mCall lenM (mCons (mV 0) mNil)) mNil)) (gN 1) (mOpT isNotM (mOp2 ixM (mV 0) (mV 1)) (M.ret .none)) (mTup (mCons (mV 1) (mCons (mOp2 ixM (mV 0) (mV 1)) mNil))))) mNil)))
def g_p_conditions_of : List PyData → Option PyData := runD ["half", "field"] 1 v_p_conditions_of
def v_ways : SM := (sSeq (sExpr (mCall g_check_sizes (mCons (mV 0) mNil)))
  (sSeq (sExpr (mCall g_check_tree (mCons (mV 0) (mCons (mV 1) mNil))))
  (sRet (mNew (mLc [2, 3] (mSeq (mCall g_p_list_ways (mCons (mV 0) (mCons (mV 1) mNil)))) (gTupD 2 (gConsD (gN 2) (gConsD (gN 3) gNilD))) mYes (mTup (mCons (mCall g_p_conditions_of (mCons (mV 2) mNil)) (mCons (mV 3) mNil))))))))
def g_ways : List PyData → Option PyData := runD ["sizes", "tree", "half", "result"] 2 v_ways
def v_p_trim_below_8c2fe (self : List PyData → Option PyData) : SM := (sSeq (sIf (mOpT eqM (mOp2 ixM (mV 0) (M.ret (.int 0))) (M.ret (.str "say")))
    (sRet (mV 0))
    sNil)
  (sSeq (sSet 2 (mOp2 ixM (mV 0) (M.ret (.int 1))))
  (sSeq (sSet 3 (mOp2 ixM (mV 0) (M.ret (.int 2))))
  (sSeq (sIf (mOpT isNotM (mOp2 ixM (mV 1) (mV 2)) (M.ret .none))
    (sRet (mCall self (mCons (mOp2 ixM (mV 3) (mOp2 ixM (mV 1) (mV 2))) (mCons (mV 1) mNil))))
    sNil)
  (sSeq (sRg 4 (mCons (mCall lenM (mCons (mV 3) mNil)) mNil))
  (sRet (mTested g_tested (mV 2) (mNew (mLc [5] (mRgN 4) (gN 5) mYes (mCall self (mCons (mOp2 ixM (mV 3) (mV 5)) (mCons (mCall g_p_with_value_33504 (mCons (mV 1) (mCons (mV 2) (mCons (mV 5) mNil)))) mNil))))))))))))
def g_p_trim_below_8c2fe : Nat → List PyData → Option PyData
  | 0 => fun _ => none
  | n + 1 => runD ["tree", "half", "field", "branches", "values", "value"] 2 (v_p_trim_below_8c2fe (g_p_trim_below_8c2fe n))
theorem r_p_trim_below_8c2fe {n : Nat} (x0 : PyData) (x1 : PyData) : g_p_trim_below_8c2fe (n + 1) [x0, x1] = outD ((v_p_trim_below_8c2fe (g_p_trim_below_8c2fe n)) [.pl x0, .pl x1, .un, .un, .un, .un]) := rfl
def v_trimmed : SM := (sSeq (sExpr (mCall g_check_sizes (mCons (mV 0) mNil)))
  (sSeq (sExpr (mCall g_check_tree (mCons (mV 0) (mCons (mV 1) mNil))))
  (sRet (mCall (g_p_trim_below_8c2fe FU) (mCons (mV 1) (mCons (mNew (mRep (mLst (mCons (M.ret .none) mNil)) (mCall lenM (mCons (mV 0) mNil)))) mNil))))))
def g_trimmed : List PyData → Option PyData := runD ["sizes", "tree"] 2 v_trimmed
theorem r_trimmed (x0 : PyData) (x1 : PyData) : g_trimmed [x0, x1] = outD (v_trimmed [.pl x0, .pl x1]) := rfl
def v_p_graft_below (self : List PyData → Option PyData) : SM := (sSeq (sIf (mOpT eqM (mOp2 ixM (mV 0) (M.ret (.int 0))) (M.ret (.str "say")))
    (sRet (mIf (mTru (mOp2 ixM (mV 0) (M.ret (.int 1)))) (mV 1) (mV 2)))
    sNil)
  (sRet (mTup (mCons (M.ret (.str "tree")) (mCons (mOp2 ixM (mV 0) (M.ret (.int 1))) (mCons (mCall tupleM (mCons (mNew (mLc [3] (mSeq (mOp2 ixM (mV 0) (M.ret (.int 2)))) (gN 3) mYes (mCall self (mCons (mV 3) (mCons (mV 1) (mCons (mV 2) mNil)))))) mNil)) mNil))))))
def g_p_graft_below : Nat → List PyData → Option PyData
  | 0 => fun _ => none
  | n + 1 => runD ["tree", "upper", "lower", "branch"] 3 (v_p_graft_below (g_p_graft_below n))
theorem r_p_graft_below {n : Nat} (x0 : PyData) (x1 : PyData) (x2 : PyData) : g_p_graft_below (n + 1) [x0, x1, x2] = outD ((v_p_graft_below (g_p_graft_below n)) [.pl x0, .pl x1, .pl x2, .un]) := rfl
def v_grafted : SM := (sSeq (sExpr (mCall g_check_sizes (mCons (mV 0) mNil)))
  (sSeq (sExpr (mCall g_check_tree (mCons (mV 0) (mCons (mV 1) mNil))))
  (sSeq (sExpr (mCall g_check_tree (mCons (mV 0) (mCons (mV 2) mNil))))
  (sSeq (sExpr (mCall g_check_tree (mCons (mV 0) (mCons (mV 3) mNil))))
  (sRet (mCall (g_p_trim_below_8c2fe FU) (mCons (mCall (g_p_graft_below FU) (mCons (mV 1) (mCons (mV 2) (mCons (mV 3) mNil)))) (mCons (mNew (mRep (mLst (mCons (M.ret .none) mNil)) (mCall lenM (mCons (mV 0) mNil)))) mNil))))))))
def g_grafted : List PyData → Option PyData := runD ["sizes", "tree", "upper", "lower"] 4 v_grafted
theorem r_grafted (x0 : PyData) (x1 : PyData) (x2 : PyData) (x3 : PyData) : g_grafted [x0, x1, x2, x3] = outD (v_grafted [.pl x0, .pl x1, .pl x2, .pl x3]) := rfl
end DL
namespace DL
open PySem PySem.Spec PyProof.Rows L2 Lk
def nodupI : List Int → Bool
  | [] => true
  | x :: xs => !xs.contains x && nodupI xs
def lenSetM : PyData → Option PyData
  | .list ds => (asInts ds).bind fun ns => if ns.length < 64 && nodupI ns then some (.int ns.length) else none
  | _ => none
def mLenSet (m : M PyData) : M PyData := m.bind fun d => M.lift (lenSetM d)
@[simp] theorem e_lenSet {m : M PyData} {r : En} : mLenSet m r = M.bind m (fun d => M.lift (lenSetM d)) r := rfl
section
variable {K : PySem.W.Frag} {E : XE} {X : Cx} {a : Expr} {ma : M PyData} {p p2 q pos : Pos}
end
end DL
namespace DL
open PySem PySem.Spec PyProof.Rows L2 Lk
def asPair : PyData → Option (Int × Int)
  | .tuple [.int x, .int y] => if 0 ≤ x ∧ x < 64 ∧ 0 ≤ y ∧ y < 64 then some (x, y) else none
  | _ => none
def asPairs : List PyData → Option (List (Int × Int))
  | [] => some []
  | d :: ds => (asPair d).bind fun p => (asPairs ds).map fun ps => p :: ps
def prI (p : Int × Int) : PyData := .tuple [.int p.1, .int p.2]
def codP (p : Int × Int) : Int := p.1 * 64 + p.2
def decP (k : Int) : Int × Int := (k / 64, k % 64)
def sortPM : PyData → Option (List PyData)
  | .list ds => (asPairs ds).bind fun ps => if ps.length < 64 then some ((sortU (ps.map codP)).map fun k => prI (decP k)) else none
  | _ => none
def mSortP (m : M PyData) : M (List PyData) := m.bind fun d => M.lift (sortPM d)
@[simp] theorem e_sortP {m : M PyData} {r : En} : mSortP m r = M.bind m (fun d => M.lift (sortPM d)) r := rfl
section
variable {K : PySem.W.Frag} {E : XE} {X : Cx} {a : Expr} {ma : M PyData} {p p2 q pos : Pos} {G H : Hp}
end
end DL
namespace DL
open PySem PySem.Spec PyProof.Rows L2 Lk
abbrev G2 := List PyData → List PyData → List PyData → Option (PyData × List PyData × List PyData)
def spM2 (K : PySem.W.Frag) (g : G2) : Sp := fun vs H Q _ => ∃ G p q xs ys v1 v2 v4 bs ls ds z bs' ls', vs = [.ref p, v1, v2, .ref q, v4] ∧ Same G H ∧ p ≠ q ∧ G p = none ∧ G q = none ∧ H p = some (.lst xs) ∧ H q = some (.lst ys) ∧ DqAll K G xs bs ∧ DqAll K G ys ls ∧ DqAll K G [v1, v2, v4] ds ∧ g bs ls ds = some (z, bs', ls') ∧
  ∀ v G' H' xs' ys', Same G G' → Same G' H' → G' p = none → G' q = none → (∀ c o, c ≠ p → c ≠ q → H c = some o → H' c = some o) → (∀ c, G' c ≠ none → G c ≠ none ∨ H c = none) → H' p = some (.lst xs') → H' q = some (.lst ys') → DqAll K G' xs' bs' → DqAll K G' ys' ls' → Dq K G' v z → Q v H'
def mCallM2 (i j : Nat) (m1 m2 m4 : M PyData) (g : G2) : M PyData := fun r0 => if (ownOf r0[i]?).isSome ∧ (ownOf r0[j]?).isSome then (m1.bind fun d1 => m2.bind fun d2 => m4.bind fun d4 => fun r => match ownOf r[i]?, ownOf r[j]? with
  | some bs, some ls => (g bs ls [d1, d2, d4]).map fun z => .ok z.1 (upO j z.2.2 (upO i z.2.1 r))
  | _, _ => none) r0 else none
def mCallM2L (i : Nat) (m1 m2 : M PyData) (ml : M (List PyData)) (m4 : M PyData) (g : G2) : M PyData := fun r0 => if (ownOf r0[i]?).isSome then (m1.bind fun d1 => m2.bind fun d2 => ml.bind fun ls => m4.bind fun d4 => fun r => match ownOf r[i]? with
  | some bs => (g bs ls [d1, d2, d4]).map fun z => .ok z.1 (upO i z.2.1 r)
  | none => none) r0 else none
theorem own_upO_ne {i j : Nat} {ds : List PyData} {r : En} (h : i ≠ j) : ownOf (upO i ds r)[j]? = ownOf r[j]? := by
  unfold upO
  split
  · rw [List.getElem?_set_ne h]
  · rfl
section
variable {K : PySem.W.Frag} {E : XE} {X : Cx} {pos : Pos}
theorem dcM2 (i j : Nat) {x y y2 : Str} {p p2 p3 : Pos} {k : Nat} {ps : List Str} {g : G2} {e1 e2 e4 : Expr} {m1 m2 m4 : M PyData} (Gx : Has X.prog X.w K X.mg X.base k x ps (spM2 K g)) (hr : Room k X.A) (hg : Gl X x)
    (h1 : DE K E X e1 m1) (h2 : DE K E X e2 m2) (h4 : DE K E X e4 m4)
    (hN : X.N[i]? = some y := by rfl) (hv : Vis X.env.scope y := by first | exact Or.inl rfl | exact Or.inr (Or.inl rfl) | exact Or.inr (Or.inr rfl)) (hd : (y == ("__debug__" : Str)) = false := by decide) (hcd : (y == ("__classdict__" : Str)) = false := by decide)
    (hN2 : X.N[j]? = some y2 := by rfl) (hv2 : Vis X.env.scope y2 := by first | exact Or.inl rfl | exact Or.inr (Or.inl rfl) | exact Or.inr (Or.inr rfl)) (hd2 : (y2 == ("__debug__" : Str)) = false := by decide) (hcd2 : (y2 == ("__classdict__" : Str)) = false := by decide)
    (hij : i ≠ j := by decide) (hdb : (x == ("__debug__" : Str)) = false := by decide)
    (s0 : starEach [.Name y p2, e1, e2, .Name y2 p3, e4] X.env = (false, eval (.Name y p2) X.env) :: starEach [e1, e2, .Name y2 p3, e4] X.env := by rfl)
    (s1 : starEach [e1, e2, .Name y2 p3, e4] X.env = (false, eval e1 X.env) :: starEach [e2, .Name y2 p3, e4] X.env := by rfl)
    (s2 : starEach [e2, .Name y2 p3, e4] X.env = (false, eval e2 X.env) :: starEach [.Name y2 p3, e4] X.env := by rfl)
    (s3 : starEach [.Name y2 p3, e4] X.env = (false, eval (.Name y2 p3) X.env) :: starEach [e4] X.env := by rfl)
    (s4 : starEach [e4] X.env = (false, eval e4 X.env) :: starEach [] X.env := by rfl)
    (hpl : (backTo pos (starEach [e1, e2, .Name y2 p3, e4] X.env)).any (·.1) = false := by rfl) : DE K E X (.Call (.Name x p) [.Name y p2, e1, e2, .Name y2 p3, e4] [] pos) (mCallM2 i j m1 m2 m4 g) := ⟨fun hK => by
  subst hK
  obtain ⟨f, fd, Fk, b, gm, kp⟩ := Gx
  refine PE.imp (pe_call (E := E0) Fk hr hg gm kp b .nil pass0 (pa_cons (pe_var hN hv hd hcd) (pa_cons (h1.pe rfl) (pa_cons (h2.pe rfl) (pa_cons (pe_var hN2 hv2 hd2 hcd2) (pa_cons (h4.pe rfl) pa_nil s4) s3) s2) s1) s0) hdb s0 hpl) fun σ H Q ⟨F, O, G, r, out, P, em, ff⟩ => ?_
  unfold mCallM2 at em
  split at em
  · rename_i hs
    obtain ⟨bs0, e0⟩ := isSome_ex hs.1
    obtain ⟨ls0, e0'⟩ := isSome_ex hs.2
    obtain ⟨q, xs0, hq, hσ, _, _⟩ := P.own_at e0
    obtain ⟨w, ys0, hw, hσ', _, _⟩ := P.own_at e0'
    refine ⟨_, hσ, ?_⟩
    refine tM.run P ff em fun d1 r1 x1 G1 H1 P1 g1 q1 c1 f1 => ?_
    refine tM.run P1 f1 c1 fun d2 r2 x2 G2 H2 P2 g2 q2 c2 f2 => ?_
    refine ⟨_, hσ', ?_⟩
    refine tM.run P2 f2 c2 fun d4 r4 x4 G4 H4 P4 g4 q4 c4 f4 => ?_
    show spM2 X.K g ([.ref q, x1, x2, .ref w, x4] ++ []) H4 Q E0
    rw [List.append_nil]
    split at c4
    · rename_i bs ls u1 u2
      obtain ⟨z, hz, rfl⟩ := Option.map_eq_some_iff.mp c4
      obtain ⟨q', xs1, hq', _, hx, hb⟩ := P4.own_at u1
      rw [hq] at hq'
      cases hq'
      obtain ⟨w', ys1, hw', _, hy, hl⟩ := P4.own_at u2
      rw [hw] at hw'
      cases hw'
      have qw : q ≠ w := fun e => hij (P4.inj i j q hq (by rw [e]; exact hw))
      refine ⟨G4, q, w, xs1, ys1, x1, x2, x4, bs, ls, [d1, d2, d4], z.1, z.2.1, z.2.2, rfl, P4.sub, qw, (P4.on i q hq).2.1, (P4.on j w hw).2.1, hx, hy, hb, hl, .cons (q1.sm (g2.gg.trans g4.gg)) (.cons (q2.sm g4.gg) (.cons q4 .nil)), hz, fun v G' H' xs' ys' gg gh gp gq kp gn hx' hy' hb' hl' hv' => ?_⟩
      -- the first list alone
      obtain ⟨P5, g5⟩ := P4.chg (H' := upd H' w (.lst ys1)) u1 hq gg (fun c o e => by
        rw [upd_ne (fun z => by rw [z, gq] at e; cases e)]
        exact gh c o e) gp (fun c o n e => by
        by_cases z : c = w
        · rw [z, hy] at e
          rw [z, upd_same]
          exact e
        · rw [upd_ne z]
          exact kp c o n z e) gn (by rw [upd_ne qw]; exact hx') hb'
      have u3 : ownOf (upO i z.2.1 r4)[j]? = some ls := by rw [own_upO_ne hij]; exact u2
      obtain ⟨P6, g6⟩ := P5.chg u3 hw (Same.refl _) gh gq (fun c o n e => by
        rw [upd_ne n] at e
        exact e) (fun c e => .inl e) hy' hl'
      exact f4 v G' H' P6 (g5.trans g6) hv'
    · cases c4
  · cases em⟩
theorem dcM2L (i : Nat) {x y : Str} {p p2 : Pos} {k : Nat} {ps : List Str} {g : G2} {e1 e2 e3 e4 : Expr} {m1 m2 m4 : M PyData} {ml : M (List PyData)} (Gx : Has X.prog X.w K X.mg X.base k x ps (spM2 K g)) (hr : Room k X.A) (hg : Gl X x)
    (h1 : DE K E X e1 m1) (h2 : DE K E X e2 m2) (h3 : DF K E X e3 ml) (h4 : DE K E X e4 m4)
    (hN : X.N[i]? = some y := by rfl) (hv : Vis X.env.scope y := by first | exact Or.inl rfl | exact Or.inr (Or.inl rfl) | exact Or.inr (Or.inr rfl)) (hd : (y == ("__debug__" : Str)) = false := by decide) (hcd : (y == ("__classdict__" : Str)) = false := by decide)
    (hdb : (x == ("__debug__" : Str)) = false := by decide)
    (s0 : starEach [.Name y p2, e1, e2, e3, e4] X.env = (false, eval (.Name y p2) X.env) :: starEach [e1, e2, e3, e4] X.env := by rfl)
    (s1 : starEach [e1, e2, e3, e4] X.env = (false, eval e1 X.env) :: starEach [e2, e3, e4] X.env := by rfl)
    (s2 : starEach [e2, e3, e4] X.env = (false, eval e2 X.env) :: starEach [e3, e4] X.env := by rfl)
    (s3 : starEach [e3, e4] X.env = (false, eval e3 X.env) :: starEach [e4] X.env := by rfl)
    (s4 : starEach [e4] X.env = (false, eval e4 X.env) :: starEach [] X.env := by rfl)
    (hpl : (backTo pos (starEach [e1, e2, e3, e4] X.env)).any (·.1) = false := by rfl) : DE K E X (.Call (.Name x p) [.Name y p2, e1, e2, e3, e4] [] pos) (mCallM2L i m1 m2 ml m4 g) := ⟨fun hK => by
  subst hK
  obtain ⟨f, fd, Fk, b, gm, kp⟩ := Gx
  refine PE.imp (pe_call (E := E0) Fk hr hg gm kp b .nil pass0 (pa_cons (pe_var hN hv hd hcd) (pa_cons (h1.pe rfl) (pa_cons (h2.pe rfl) (pa_cons (h3.pe rfl) (pa_cons (h4.pe rfl) pa_nil s4) s3) s2) s1) s0) hdb s0 hpl) fun σ H Q ⟨F, O, G, r, out, P, em, ff⟩ => ?_
  unfold mCallM2L at em
  split at em
  · rename_i hs
    obtain ⟨bs0, e0⟩ := isSome_ex hs
    obtain ⟨q, xs0, hq, hσ, _, _⟩ := P.own_at e0
    refine ⟨_, hσ, ?_⟩
    refine tM.run P ff em fun d1 r1 x1 G1 H1 P1 g1 q1 c1 f1 => ?_
    refine tM.run P1 f1 c1 fun d2 r2 x2 G2 H2 P2 g2 q2 c2 f2 => ?_
    refine tM.run P2 f2 c2 fun ls r3 x3 G3 H3 P3 g3 q3 c3 f3 => ?_
    obtain ⟨w, ys, rfl, n2, gw3, h0w, ow, hw3, hl3⟩ := q3
    refine tM.run P3 f3 c3 fun d4 r4 x4 G4 H4 P4 g4 q4 c4 f4 => ?_
    show spM2 X.K g ([.ref q, x1, x2, .ref w, x4] ++ []) H4 Q E0
    rw [List.append_nil]
    split at c4
    · rename_i bs u1
      obtain ⟨z, hz, rfl⟩ := Option.map_eq_some_iff.mp c4
      obtain ⟨q', xs1, hq', _, hx, hb⟩ := P4.own_at u1
      rw [hq] at hq'
      cases hq'
      have qw : q ≠ w := fun e => ow i (by rw [← e]; exact hq)
      have hw4 := g4.keep w _ hw3 ow
      have gw4 : G4 w = none := by
        cases y : G4 w with
        | none => rfl
        | some o =>
          rcases g4.gn w (some_ne y) with t | t
          · exact absurd gw3 t
          · rw [hw3] at t
            cases t
      refine ⟨G4, q, w, xs1, ys, x1, x2, x4, bs, ls, [d1, d2, d4], z.1, z.2.1, z.2.2, rfl, P4.sub, qw, (P4.on i q hq).2.1, gw4, hx, hw4, hb, hl3.sm g4.gg, .cons (q1.sm ((g2.gg.trans g3.gg).trans g4.gg)) (.cons (q2.sm (g3.gg.trans g4.gg)) (.cons q4 .nil)), hz, fun v G' H' xs' ys' gg gh gp gq kp gn hx' hy' hb' hl' hv' => ?_⟩
      obtain ⟨P6, g6⟩ := (P4.wr (o := .lst ys') gw4 h0w ow).chg u1 hq gg gh gp (fun c o n e => by
        by_cases y : c = w
        · rw [y, upd_same] at e
          rw [y, hy']
          exact e
        · rw [upd_ne y] at e
          exact kp c o n y e) (fun c e => by
        rcases gn c e with t | t
        · exact .inl t
        · refine .inr ?_
          rw [upd_ne fun y => by rw [y, hw4] at t; cases t]
          exact t) hx' hb'
      refine ff v G' H' P6 ((g1.trans g2).trans ⟨(g3.gg.trans g4.gg).trans gg, fun c o e no => ?_, fun c e => ?_, fun c e => ?_⟩) hv'
      · have cw : c ≠ w := fun y => by rw [y, n2] at e; cases e
        have cq : c ≠ q := fun y => no i (by rw [y]; exact hq)
        exact kp c o cq cw (g4.keep c o (g3.keep c o e no) no)
      · rcases gn c e with t | t
        · rcases g4.gn c t with t | t
          · exact g3.gn c t
          · exact .inr (g3.nf c t)
        · exact .inr (g3.nf c (g4.nf c t))
      · refine g3.nf c (g4.nf c ?_)
        have cq : c ≠ q := fun y => by rw [y, hx'] at e; cases e
        have cw : c ≠ w := fun y => by rw [y, hy'] at e; cases e
        cases y : H4 c with
        | none => rfl
        | some o => rw [kp c o cq cw y] at e; cases e
    · cases c4
  · cases em⟩
end
section
variable {P : Program} {w : World} {K : PySem.W.Frag} {mg : Str → Option Value} {base : Heap}
def iniM2 (N : List Str) (bs ls : List PyData) : List PyData → En
  | [d1, d2, d4] => .io bs :: .pl d1 :: .pl d2 :: .io ls :: .pl d4 :: List.replicate (N.length - 5) .un
  | _ => []
theorem start_rpM2 {N : List Str} {G H : Hp} {p q : Addr} {xs ys : List V} {v1 v2 v4 : V} {bs ls : List PyData} {d1 d2 d4 : PyData} (sg : Same G H) (pq : p ≠ q) (gp : G p = none) (gq : G q = none) (hp : H p = some (.lst xs)) (hq : H q = some (.lst ys)) (hb : DqAll K G xs bs) (hl : DqAll K G ys ls)
    (h1 : Dq K G v1 d1) (h2 : Dq K G v2 d2) (h4 : Dq K G v4 d4) :
    Rp K ⟨H, G, fun i => if i = 0 then some p else if i = 3 then some q else none⟩ (fun i => if i = 0 then some p else if i = 3 then some q else none) G (L2.start N [.ref p, v1, v2, .ref q, v4]) H (iniM2 N bs ls [d1, d2, d4]) := by
  have no : ∀ {i : Nat} {a : Addr}, (if i = 0 then some p else if i = 3 then some q else none) = some a → (i = 0 ∧ a = p) ∨ (i = 3 ∧ a = q) := fun {i a} e => by
    split at e
    · cases e
      exact .inl ⟨by assumption, rfl⟩
    · split at e
      · cases e
        exact .inr ⟨by assumption, rfl⟩
      · cases e
  have tail : ∀ (i : Nat) (c : Cel), (List.replicate (N.length - 5) Cel.un)[i]? = some c → c = .un := fun i c e => by
    rw [List.getElem?_replicate] at e
    split at e
    · exact (Option.some.inj e).symm
    · cases e
  refine ⟨sg, by simp [L2.start, iniM2], fun i d e => ?_, fun i ds' e => ?_, fun i ds' e => ?_, fun i ds' e => ?_, fun i a e => ?_, fun i j a e1 e2 => ?_, fun c o e _ => e, fun c e => e, Same.refl _, fun c e => .inl e⟩
  · match i, e with
    | 0, e => cases e
    | 1, e => cases e; exact ⟨v1, rfl, h1⟩
    | 2, e => cases e; exact ⟨v2, rfl, h2⟩
    | 3, e => cases e
    | 4, e => cases e; exact ⟨v4, rfl, h4⟩
    | i + 5, e => cases tail i _ e
  · match i, e with
    | 0, e => cases e
    | 1, e => cases e
    | 2, e => cases e
    | 3, e => cases e
    | 4, e => cases e
    | i + 5, e => cases tail i _ e
  · match i, e with
    | 0, e => cases e; exact ⟨p, xs, rfl, rfl, rfl, hp, hb⟩
    | 1, e => cases e
    | 2, e => cases e
    | 3, e => cases e; exact ⟨q, ys, rfl, rfl, rfl, hq, hl⟩
    | 4, e => cases e
    | i + 5, e => cases tail i _ e
  · match i, e with
    | 0, e => cases e
    | 1, e => cases e
    | 2, e => cases e
    | 3, e => cases e
    | 4, e => cases e
    | i + 5, e => cases tail i _ e
  · rcases no e with ⟨rfl, rfl⟩ | ⟨rfl, rfl⟩
    · exact ⟨⟨.io bs, rfl, rfl⟩, gp, some_ne hp, .inr ⟨0, rfl⟩⟩
    · exact ⟨⟨.io ls, rfl, rfl⟩, gq, some_ne hq, .inr ⟨3, rfl⟩⟩
  · rcases no e1 with ⟨rfl, rfl⟩ | ⟨rfl, rfl⟩ <;> rcases no e2 with ⟨rfl, z⟩ | ⟨rfl, z⟩
    · rfl
    · exact absurd z pq
    · exact absurd z.symm pq
    · rfl
theorem def_M2 {x qual : Str} {st : Stmt} {f : Addr} {fd : FuncData} {N ps : List Str} {k : Nat} {g : G2} {sv : SM} (F : Fun K x qual st f fd) (S : FnScope N ps (defScope st))
    (h : ∀ (cdv : Value) (A : Around) (outer : List Env) (s : Shared) (H : Hp) (E : XK), Room k (A.deeper (envOfC qual (defScope st) s.heap.objs.size f cdv)) → DSs K XN (cxOf CX0 P w K mg base N qual (defScope st) f cdv A outer s H E).nox (defBody st) sv)
    (hp5 : ps.length = 5)
    (sp : ∀ bs ls ds z, g bs ls ds = some z → ∃ r', r'[0]? = some (Cel.io z.2.1) ∧ r'[3]? = some (Cel.io z.2.2) ∧ (sv (iniM2 N bs ls ds) = some (.rt z.1 r') ∨ z.1 = .none ∧ sv (iniM2 N bs ls ds) = some (.nx r'))) : FnOk P w K mg base CX0 (k + 1) f fd ps (spM2 K g) := by
  refine F.ok S (fun vs H Q E ⟨G, p, q, xs, ys, v1, v2, v4, bs, ls, ds, z, bs', ls', e, _⟩ => by rw [e, hp5]; rfl) fun cdv A outer s H vs Q E hr ⟨G, p, q, xs, ys, v1, v2, v4, bs, ls, ds, z, bs', ls', e, sg, pq, gp, gq, hp, hq, hb, hl, hd, hz, hQ⟩ => ?_
  subst e
  refine ⟨_, (h cdv A outer s H E hr).ps rfl, ?_⟩
  obtain ⟨r', hr0, hr3, e⟩ := sp bs ls ds _ hz
  have fin : ∀ (O' : Ow) (G' : Hp) (σ' : L2.St) (H' : Hp) (v : V), Rp K ⟨H, G, fun i => if i = 0 then some p else if i = 3 then some q else none⟩ O' G' σ' H' r' → Dq K G' v z → Q v H' := fun O' G' σ' H' v R hv => by
    obtain ⟨p', xs', h0, h1, h2, h3, h4⟩ := R.io 0 _ hr0
    obtain ⟨q', ys', k0, k1, k2, k3, k4⟩ := R.io 3 _ hr3
    cases h0
    cases k0
    exact hQ v G' H' xs' ys' R.g0 R.sub (R.on 0 p h1).2.1 (R.on 3 q k1).2.1 (fun c o n n2 e => R.old c o e fun i z => by
      dsimp only at z
      split at z
      · cases z
        exact n rfl
      · split at z
        · cases z
          exact n2 rfl
        · cases z) R.gn h3 k3 h4 k4 hv
  cases hd with
  | cons h1 hd =>
    cases hd with
    | cons h2 hd =>
      cases hd with
      | cons h4 hd =>
        cases hd
        rcases e with e | ⟨hz0, e⟩
        · exact ⟨_, _, G, _, _, start_rpM2 sg pq gp gq hp hq hb hl h1 h2 h4, e, fun O' G' σ' H' v R g hv => fin O' G' σ' H' v R hv⟩
        · refine ⟨_, _, G, _, _, start_rpM2 sg pq gp gq hp hq hb hl h1 h2 h4, e, fun O' G' σ' H' R g => fin O' G' σ' H' .non R ?_⟩
          rw [show z = .none from hz0]
          exact .non
def ioAt3 (r : En) : Option (List PyData) := match r[3]? with
  | some (Cel.io bs) => some bs
  | _ => none
theorem ioAt3_some {r : En} {bs : List PyData} (h : ioAt3 r = some bs) : r[3]? = some (.io bs) := by
  unfold ioAt3 at h
  split at h
  · rename_i e
    cases h
    exact e
  · cases h
def outM2 : Option Fl → Option (PyData × List PyData × List PyData)
  | some (.rt z r) => (ioAt r).bind fun bs => (ioAt3 r).map fun ls => (z, bs, ls)
  | some (.nx r) => (ioAt r).bind fun bs => (ioAt3 r).map fun ls => (.none, bs, ls)
  | _ => none
def runM2 (N : List Str) (sv : SM) (bs ls ds : List PyData) : Option (PyData × List PyData × List PyData) := outM2 (sv (iniM2 N bs ls ds))
theorem def_m2 {x qual : Str} {st : Stmt} {f : Addr} {fd : FuncData} {N ps : List Str} {k : Nat} {sv : SM} (F : Fun K x qual st f fd) (S : FnScope N ps (defScope st)) (hb : Binds K fd ps []) (hm : mg x = some (.ref f))
    (h : ∀ (cdv : Value) (A : Around) (outer : List Env) (s : Shared) (H : Hp) (E : XK), Room k (A.deeper (envOfC qual (defScope st) s.heap.objs.size f cdv)) → DSs K XN (cxOf CX0 P w K mg base N qual (defScope st) f cdv A outer s H E).nox (defBody st) sv)
    (hn : ps.length = 5 := by rfl) : Has P w K mg base (k + 1) x ps (spM2 K (runM2 N sv)) := by
  refine ⟨f, fd, def_M2 F S h hn fun bs ls ds z e => ?_, hb, hm, F.kp⟩
  unfold runM2 at e
  cases q : sv (iniM2 N bs ls ds) with
  | none => rw [q] at e; cases e
  | some fl =>
    rw [q] at e
    cases fl with
    | rt d r =>
      simp only [outM2] at e
      obtain ⟨bs', h0, e⟩ := Option.bind_eq_some_iff.mp e
      obtain ⟨ls', h3, rfl⟩ := Option.map_eq_some_iff.mp e
      exact ⟨r, ioAt_some h0, ioAt3_some h3, .inl rfl⟩
    | nx r =>
      simp only [outM2] at e
      obtain ⟨bs', h0, e⟩ := Option.bind_eq_some_iff.mp e
      obtain ⟨ls', h3, rfl⟩ := Option.map_eq_some_iff.mp e
      exact ⟨r, ioAt_some h0, ioAt3_some h3, .inr ⟨rfl, rfl⟩⟩
    | _ => cases e
theorem has_noneM2 {x qual : Str} {st : Stmt} {f : Addr} {fd : FuncData} {ps : List Str} {k : Nat} (F : Fun K x qual st f fd) (hb : Binds K fd ps []) (hm : mg x = some (.ref f)) : Has P w K mg base k x ps (spM2 K fun _ _ _ => none) := by
  refine ⟨f, fd, ⟨fun vs H Q E h => ?_, fun A outer s H args us vs Q E _ _ _ _ h => ?_⟩, hb, hm, F.kp⟩
  · obtain ⟨G, p, q, xs, ys, v1, v2, v4, bs, ls, ds, z, bs', ls', _, _, _, _, _, _, _, _, _, _, e, _⟩ := h
    cases e
  · obtain ⟨G, p, q, xs, ys, v1, v2, v4, bs, ls, ds, z, bs', ls', _, _, _, _, _, _, _, _, _, _, e, _⟩ := h
    cases e
end
end DL
namespace DL
open PySem PySem.Spec PyProof.Rows L2 Lk
end DL
namespace DL
open PySem PySem.Spec PyProof.Rows L2 Lk
end DL
namespace DL
open PySem PySem.Spec PyProof.Rows L2 Lk
end DL
namespace DL
open PySem PySem.Spec PyProof.Rows L2 Lk
end DL
namespace DL
open PySem PySem.Spec PyProof.Rows L2 Lk
end DL
namespace DL
open PySem PySem.Spec PyProof.Rows L2 Lk
def v_q_law_bag_0df30 : SM := (sSeq (sSet 1 (M.ret (.int 0)))
  (sSeq (sIf (mOpT geM (mV 0) (mOp2 powM (M.ret (.int 10)) (M.ret (.int 18))))
    (sSet 1 (mOp2 subM (mV 0) (mOp2 powM (M.ret (.int 10)) (M.ret (.int 18)))))
    sNil)
  (sRetF (mLst (mCons (mV 1) (mCons (mOp2 modM (mCall intM (mCons (mV 0) mNil)) (M.ret (.int 1000000000000000003))) (mCons (M.ret (.int 0)) mNil)))))))
def g_q_law_bag_0df30 : List PyData → Option PQ := runQ ["cell", "rest"] 1 v_q_law_bag_0df30
theorem r_q_law_bag_0df30 (x0 : PyData) : g_q_law_bag_0df30 [x0] = outQ (v_q_law_bag_0df30 [.pl x0, .un]) := rfl
def v_law_draw_80bbd : SM := (sSeq (sIf (mOpT gtM (mIxO 0 (M.ret (.int 0))) (M.ret (.int 0)))
    (sSeq (sSet 2 (mOp2 modM (mCall intM (mCons (mIxO 0 (M.ret (.int 0))) mNil)) (mV 1)))
  (sSeq (sPutIx 0 (M.ret (.int 0)) (mOp2 divM (mIxO 0 (M.ret (.int 0))) (mV 1)))
  (sRet (mV 2))))
    sNil)
  (sSeq (sPutIx 0 (M.ret (.int 2)) (mOp2 addM (mIxO 0 (M.ret (.int 2))) (M.ret (.int 1))))
  (sSeq (sSet 3 (mIxO 0 (M.ret (.int 2))))
  (sSeq (sSet 4 (mOp2 addM (mOp2 mulM (mOp2 addM (mIxO 0 (M.ret (.int 1))) (M.ret (.int 7))) (mOp2 addM (mOp2 addM (mOp2 mulM (mOp2 mulM (M.ret (.int 31)) (mV 3)) (mV 3)) (mOp2 mulM (M.ret (.int 104729)) (mV 3))) (M.ret (.int 13)))) (mOp2 mulM (M.ret (.int 17)) (mV 3))))
  (sSeq (sSet 4 (mOp2 divM (mOp2 modM (mCall intM (mCons (mOp2 addM (mOp2 mulM (mV 4) (mV 4)) (mOp2 mulM (M.ret (.int 999983)) (mV 4))) mNil)) (M.ret (.int 1000000000000000009))) (M.ret (.int 1009))))
  (sRet (mOp2 modM (mOp2 divM (mOp2 modM (mCall intM (mCons (mOp2 addM (mOp2 addM (mOp2 mulM (mV 4) (mV 4)) (mOp2 mulM (M.ret (.int 65537)) (mV 4))) (mV 3)) mNil)) (M.ret (.int 2147483629))) (M.ret (.int 16))) (mV 1))))))))
def g_law_draw_80bbd : List PyData → List PyData → Option (PyData × List PyData) := runM ["bag", "many", "digit", "turn", "mixed"] 2 v_law_draw_80bbd
theorem r_law_draw_80bbd (bs : List PyData) (x0 : PyData) : g_law_draw_80bbd bs [x0] = outM (v_law_draw_80bbd [.io bs, .pl x0, .un, .un, .un]) := rfl
def v_law_sheet_490db : SM := (sSeq (sSet 1 (mCallM 0 (mCons (M.ret (.int 6)) mNil) g_law_draw_80bbd))
  (sSeq (sSet 2 (M.ret (.int 24)))
  (sSeq (sIf (mOpT eqM (mV 1) (M.ret (.int 0)))
    (sSet 2 (mCallM 0 (mCons (M.ret (.int 3)) mNil) g_law_draw_80bbd))
    (sIf (mOpT gtM (mV 1) (M.ret (.int 1)))
    (sSet 2 (mCallM 0 (mCons (M.ret (.int 25)) mNil) g_law_draw_80bbd))
    sNil))
  (sRet (mNew (mLc [3] (mRng1 (mCons (mV 2) mNil)) (gN 3) mYes (mOp2 addM (M.ret (.int 2)) (mCallM 0 (mCons (M.ret (.int 5)) mNil) g_law_draw_80bbd))))))))
def g_law_sheet_490db : List PyData → List PyData → Option (PyData × List PyData) := runM ["bag", "shape", "many", "k"] 1 v_law_sheet_490db
theorem r_law_sheet_490db (bs : List PyData) : g_law_sheet_490db bs [] = outM (v_law_sheet_490db [.io bs, .un, .un, .un]) := rfl
def v_law_forms_3b09a (self : List PyData → Option PyData) : SM := (sSeq (sIf (mOpT eqM (mOp2 ixM (mV 0) (M.ret (.int 0))) (M.ret (.str "say")))
    (sRet (M.ret (.int 1)))
    sNil)
  (sRet (mOp2 addM (M.ret (.int 1)) (mCall sumM (mCons (mNew (mLc [1] (mSeq (mOp2 ixM (mV 0) (M.ret (.int 2)))) (gN 1) mYes (mCall self (mCons (mV 1) mNil)))) mNil)))))
def g_law_forms_3b09a : Nat → List PyData → Option PyData
  | 0 => fun _ => none
  | n + 1 => runD ["tree", "branch"] 1 (v_law_forms_3b09a (g_law_forms_3b09a n))
theorem r_law_forms_3b09a {n : Nat} (x0 : PyData) : g_law_forms_3b09a (n + 1) [x0] = outD ((v_law_forms_3b09a (g_law_forms_3b09a n)) [.pl x0, .un]) := rfl
def v_law_tree_95268 (self : G2) : SM := (sSeq (sIf (mAnd (mOpT ltM (mV 4) (M.ret (.int 8))) (mAnd (mOpT neM (mV 2) (mNew (mLst mNil))) (mOpT gtM (mCallM 0 (mCons (M.ret (.int 5)) mNil) g_law_draw_80bbd) (M.ret (.int 0)))))
    (sSeq (sSet 5 (mOp2 ixM (mV 2) (mCallM 0 (mCons (mCall lenM (mCons (mV 2) mNil)) mNil) g_law_draw_80bbd)))
  (sSeq (sSet 6 (mOp2 ixM (mV 1) (mV 5)))
  (sSeq (sSet 7 (mOp2 eqM (mCallM 0 (mCons (M.ret (.int 6)) mNil) g_law_draw_80bbd) (M.ret (.int 0))))
  (sIf (mOpT leM (mV 6) (mIxO 3 (M.ret (.int 0))))
    (sSeq (sPutIx 3 (M.ret (.int 0)) (mOp2 subM (mIxO 3 (M.ret (.int 0))) (mV 6)))
  (sSeq (sIf (mNotT (mTru (mV 7)))
    (sSeq (sSet 8 (mNew (mLc [11] (mRng1 (mCons (mV 6) mNil)) (gN 11) mYes (mCallM2 0 3 (mV 1) (mV 2) (mOp2 addM (mV 4) (M.ret (.int 1))) self))))
  (sRet (mTup (mCons (M.ret (.str "tree")) (mCons (mV 5) (mCons (mCall tupleM (mCons (mV 8) mNil)) mNil))))))
    sNil)
  (sSeq (sSet 9 (mCallM2 0 3 (mV 1) (mV 2) (mOp2 addM (mV 4) (M.ret (.int 1))) self))
  (sSeq (sSet 10 (mOp2 mulM (mOp2 subM (mCall (g_law_forms_3b09a FU) (mCons (mV 9) mNil)) (M.ret (.int 1))) (mOp2 subM (mV 6) (M.ret (.int 1)))))
  (sSeq (sIf (mOpT leM (mV 10) (mIxO 3 (M.ret (.int 0))))
    (sSeq (sPutIx 3 (M.ret (.int 0)) (mOp2 subM (mIxO 3 (M.ret (.int 0))) (mV 10)))
  (sRet (mTup (mCons (M.ret (.str "tree")) (mCons (mV 5) (mCons (mCall tupleM (mCons (mNew (mRep (mLst (mCons (mV 9) mNil)) (mV 6))) mNil)) mNil))))))
    sNil)
  (sRet (mTup (mCons (M.ret (.str "tree")) (mCons (mV 5) (mCons (mCall tupleM (mCons (mOp2 addM (mNew (mLst (mCons (mV 9) mNil))) (mNew (mRep (mLst (mCons (mTup (mCons (M.ret (.str "say")) (mCons (M.ret (.bool false)) mNil))) mNil)) (mOp2 subM (mV 6) (M.ret (.int 1)))))) mNil)) mNil))))))))))
    sNil))))
    sNil)
  (sRet (mTup (mCons (M.ret (.str "say")) (mCons (mOp2 eqM (mCallM 0 (mCons (M.ret (.int 2)) mNil) g_law_draw_80bbd) (M.ret (.int 1))) mNil)))))
def g_law_tree_95268 : Nat → G2
  | 0 => fun _ _ _ => none
  | n + 1 => runM2 ["bag", "sheet", "pool", "left", "level", "field", "many", "same", "grown", "first", "more", "value"] (v_law_tree_95268 (g_law_tree_95268 n))
theorem r_law_tree_95268 {n : Nat} (bs ls : List PyData) (x1 x2 x4 : PyData) : g_law_tree_95268 (n + 1) bs ls [x1, x2, x4] = outM2 (v_law_tree_95268 (g_law_tree_95268 n) [.io bs, .pl x1, .pl x2, .io ls, .pl x4, .un, .un, .un, .un, .un, .un, .un]) := rfl
def v_law_pool_d95fb : SM := (sSeq (sIf (mOr (mOpT eqM (mV 1) (mNew (mLst mNil))) (mOpT eqM (mCallM 0 (mCons (M.ret (.int 3)) mNil) g_law_draw_80bbd) (M.ret (.int 0))))
    (sRet (mNew (mLRng1 (mCall lenM (mCons (mV 1) mNil)))))
    sNil)
  (sSeq (sSet 2 (mOp2 addM (M.ret (.int 1)) (mCallM 0 (mCons (M.ret (.int 6)) mNil) g_law_draw_80bbd)))
  (sRet (mNew (mLc [3] (mRng1 (mCons (mV 2) mNil)) (gN 3) mYes (mCallM 0 (mCons (mCall lenM (mCons (mV 1) mNil)) mNil) g_law_draw_80bbd))))))
def g_law_pool_d95fb : List PyData → List PyData → Option (PyData × List PyData) := runM ["bag", "sheet", "many", "k"] 2 v_law_pool_d95fb
theorem r_law_pool_d95fb (bs : List PyData) (x0 : PyData) : g_law_pool_d95fb bs [x0] = outM (v_law_pool_d95fb [.io bs, .pl x0, .un, .un]) := rfl
def v_law_row_81117 : SM := (sRet (mNew (mLc [2] (mSeq (mV 1)) (gN 2) mYes (mCallM 0 (mCons (mV 2) mNil) g_law_draw_80bbd))))
def g_law_row_81117 : List PyData → List PyData → Option (PyData × List PyData) := runM ["bag", "sheet", "size"] 2 v_law_row_81117
def v_law_said_c2468 : SM := (sSeq (whGo (mOpT eqM (mOp2 ixM (mV 0) (M.ret (.int 0))) (M.ret (.str "tree")))
    (sSet 0 (mOp2 ixM (mOp2 ixM (mV 0) (M.ret (.int 2))) (mOp2 ixM (mV 1) (mOp2 ixM (mV 0) (M.ret (.int 1)))))) WH)
  (sRet (mOp2 ixM (mV 0) (M.ret (.int 1)))))
def g_law_said_c2468 : List PyData → Option PyData := runD ["tree", "row"] 2 v_law_said_c2468
def v_law_ways_11a6f (self : List PyData → Option PyData) : SM := (sSeq (sIf (mOpT eqM (mOp2 ixM (mV 0) (M.ret (.int 0))) (M.ret (.str "say")))
    (sRet (mNew (mLst (mCons (mTup (mCons (mCall tupleM (mCons (mNew (mSortP (mV 1))) mNil)) (mCons (mOp2 ixM (mV 0) (M.ret (.int 1))) mNil))) mNil))))
    sNil)
  (sSeq (sSet 2 (mNew (mLst mNil)))
  (sSeq (sSet 3 (mNew (mLc [5] (mSeq (mV 1)) (gN 5) (mOpT eqM (mOp2 ixM (mV 5) (M.ret (.int 0))) (mOp2 ixM (mV 0) (M.ret (.int 1)))) (mOp2 ixM (mV 5) (M.ret (.int 1))))))
  (sSeq (sFor (mRng1 (mCons (mCall lenM (mCons (mOp2 ixM (mV 0) (M.ret (.int 2))) mNil)) mNil)) (gN 4)
    (sIf (mOr (mOpT eqM (mV 3) (mNew (mLst mNil))) (mOpT eqM (mOp2 ixM (mV 3) (M.ret (.int 0))) (mV 4)))
    (sSet 2 (mOp2 addM (mV 2) (mCall self (mCons (mOp2 ixM (mOp2 ixM (mV 0) (M.ret (.int 2))) (mV 4)) (mCons (mOp2 addM (mV 1) (mNew (mLst (mCons (mTup (mCons (mOp2 ixM (mV 0) (M.ret (.int 1))) (mCons (mV 4) mNil))) mNil)))) mNil)))))
    sNil))
  (sRet (mV 2))))))
def g_law_ways_11a6f : Nat → List PyData → Option PyData
  | 0 => fun _ => none
  | n + 1 => runD ["tree", "known", "found", "there", "value", "pair"] 2 (v_law_ways_11a6f (g_law_ways_11a6f n))
def v_law_whole_61a6b : SM := (sRet (mAndV (mIsi "int" (mV 0)) (mNotV (mIsi "bool" (mV 0)))))
def g_law_whole_61a6b : List PyData → Option PyData := runD ["found"] 1 v_law_whole_61a6b
theorem r_law_whole_61a6b (x0 : PyData) : g_law_whole_61a6b [x0] = outD (v_law_whole_61a6b [.pl x0]) := rfl
end DL
namespace DL
open PySem PySem.Spec PyProof.Rows L2 Lk
def v_law_is_tree_84b8a (self : List PyData → Option PyData) : SM := (sSeq (sIf (mOr (mNotT (mTru (mIsi "tuple" (mV 0)))) (mOr (mOpT ltM (mCall lenM (mCons (mV 0) mNil)) (M.ret (.int 2))) (mNotT (mTru (mIsi "str" (mOp2 ixM (mV 0) (M.ret (.int 0))))))))
    (sRet (M.ret (.bool false)))
    sNil)
  (sSeq (sIf (mOpT eqM (mOp2 ixM (mV 0) (M.ret (.int 0))) (M.ret (.str "say")))
    (sRet (mAndV (mOp2 eqM (mCall lenM (mCons (mV 0) mNil)) (M.ret (.int 2))) (mIsi "bool" (mOp2 ixM (mV 0) (M.ret (.int 1))))))
    sNil)
  (sSeq (sIf (mOr (mOpT neM (mOp2 ixM (mV 0) (M.ret (.int 0))) (M.ret (.str "tree"))) (mOr (mOpT neM (mCall lenM (mCons (mV 0) mNil)) (M.ret (.int 3))) (mOr (mNotT (mTru (mCall g_law_whole_61a6b (mCons (mOp2 ixM (mV 0) (M.ret (.int 1))) mNil)))) (mNotT (mTru (mIsi "tuple" (mOp2 ixM (mV 0) (M.ret (.int 2)))))))))
    (sRet (M.ret (.bool false)))
    sNil)
  (sRet (mOp2 eqM (mNew (mLc [1] (mSeq (mOp2 ixM (mV 0) (M.ret (.int 2)))) (gN 1) (mNotT (mTru (mCall self (mCons (mV 1) mNil)))) (mV 1))) (mNew (mLst mNil)))))))
def g_law_is_tree_84b8a : Nat → List PyData → Option PyData
  | 0 => fun _ => none
  | n + 1 => runD ["found", "branch"] 1 (v_law_is_tree_84b8a (g_law_is_tree_84b8a n))
theorem r_law_is_tree_84b8a {n : Nat} (x0 : PyData) : g_law_is_tree_84b8a (n + 1) [x0] = outD ((v_law_is_tree_84b8a (g_law_is_tree_84b8a n)) [.pl x0, .un]) := rfl
def v_law_once_a2454 (self : List PyData → Option PyData) : SM := (sSeq (sIf (mOpT eqM (mOp2 ixM (mV 0) (M.ret (.int 0))) (M.ret (.str "say")))
    (sRet (mV 0))
    sNil)
  (sSeq (sSet 2 (mNew (mLc [4] (mSeq (mV 1)) (gN 4) (mOpT eqM (mOp2 ixM (mV 4) (M.ret (.int 0))) (mOp2 ixM (mV 0) (M.ret (.int 1)))) (mOp2 ixM (mV 4) (M.ret (.int 1))))))
  (sSeq (sIf (mOpT neM (mV 2) (mNew (mLst mNil)))
    (sRet (mCall self (mCons (mOp2 ixM (mOp2 ixM (mV 0) (M.ret (.int 2))) (mOp2 ixM (mV 2) (M.ret (.int 0)))) (mCons (mV 1) mNil))))
    sNil)
  (sSeq (sSet 3 (mNew (mLc [5] (mRng1 (mCons (mCall lenM (mCons (mOp2 ixM (mV 0) (M.ret (.int 2))) mNil)) mNil)) (gN 5) mYes (mCall self (mCons (mOp2 ixM (mOp2 ixM (mV 0) (M.ret (.int 2))) (mV 5)) (mCons (mOp2 addM (mV 1) (mNew (mLst (mCons (mTup (mCons (mOp2 ixM (mV 0) (M.ret (.int 1))) (mCons (mV 5) mNil))) mNil)))) mNil))))))
  (sRet (mTup (mCons (M.ret (.str "tree")) (mCons (mOp2 ixM (mV 0) (M.ret (.int 1))) (mCons (mCall tupleM (mCons (mV 3) mNil)) mNil)))))))))
def g_law_once_a2454 : Nat → List PyData → Option PyData
  | 0 => fun _ => none
  | n + 1 => runD ["tree", "known", "there", "grown", "pair", "value"] 2 (v_law_once_a2454 (g_law_once_a2454 n))
theorem r_law_once_a2454 {n : Nat} (x0 : PyData) (x1 : PyData) : g_law_once_a2454 (n + 1) [x0, x1] = outD ((v_law_once_a2454 (g_law_once_a2454 n)) [.pl x0, .pl x1, .un, .un, .un, .un]) := rfl
def v_law_merged_1016b (self : List PyData → Option PyData) : SM := (sSeq (sIf (mOpT eqM (mOp2 ixM (mV 0) (M.ret (.int 0))) (M.ret (.str "say")))
    (sRet (mV 0))
    sNil)
  (sSeq (sSet 1 (mNew (mLc [2] (mSeq (mOp2 ixM (mV 0) (M.ret (.int 2)))) (gN 2) mYes (mCall self (mCons (mV 2) mNil)))))
  (sSeq (sIf (mOpT eqM (mNew (mLc [2] (mSeq (mV 1)) (gN 2) (mOpT neM (mV 2) (mOp2 ixM (mV 1) (M.ret (.int 0)))) (mV 2))) (mNew (mLst mNil)))
    (sRet (mOp2 ixM (mV 1) (M.ret (.int 0))))
    sNil)
  (sRet (mTup (mCons (M.ret (.str "tree")) (mCons (mOp2 ixM (mV 0) (M.ret (.int 1))) (mCons (mCall tupleM (mCons (mV 1) mNil)) mNil))))))))
def g_law_merged_1016b : Nat → List PyData → Option PyData
  | 0 => fun _ => none
  | n + 1 => runD ["tree", "grown", "branch"] 1 (v_law_merged_1016b (g_law_merged_1016b n))
theorem r_law_merged_1016b {n : Nat} (x0 : PyData) : g_law_merged_1016b (n + 1) [x0] = outD ((v_law_merged_1016b (g_law_merged_1016b n)) [.pl x0, .un, .un]) := rfl
def v_law_graft_c3e04 (self : List PyData → Option PyData) : SM := (sSeq (sIf (mOpT eqM (mOp2 ixM (mV 0) (M.ret (.int 0))) (M.ret (.str "say")))
    (sRet (mOp2 ixM (mNew (mLst (mCons (mV 2) (mCons (mV 1) mNil)))) (mCall intM (mCons (mOp2 ixM (mV 0) (M.ret (.int 1))) mNil))))
    sNil)
  (sRet (mTup (mCons (M.ret (.str "tree")) (mCons (mOp2 ixM (mV 0) (M.ret (.int 1))) (mCons (mCall tupleM (mCons (mNew (mLc [3] (mSeq (mOp2 ixM (mV 0) (M.ret (.int 2)))) (gN 3) mYes (mCall self (mCons (mV 3) (mCons (mV 1) (mCons (mV 2) mNil)))))) mNil)) mNil))))))
def g_law_graft_c3e04 : Nat → List PyData → Option PyData
  | 0 => fun _ => none
  | n + 1 => runD ["tree", "yes", "no", "branch"] 3 (v_law_graft_c3e04 (g_law_graft_c3e04 n))
theorem r_law_graft_c3e04 {n : Nat} (x0 : PyData) (x1 : PyData) (x2 : PyData) : g_law_graft_c3e04 (n + 1) [x0, x1, x2] = outD ((v_law_graft_c3e04 (g_law_graft_c3e04 n)) [.pl x0, .pl x1, .pl x2, .un]) := rfl
def v_law_k32 : SM := (sSeq (sFor (mSeq (mOp2 addM (mNew (mLst (mCons (M.ret (.int 0)) mNil))) (mNew (mSlice (mV 0) mNoPart (mPart (M.ret (.int 8))))))) (gN 1)
    (sSeq (sSetQ 2 (mCallQ g_q_law_bag_0df30 (mCons (mV 1) mNil)))
  (sSeq (sSet 3 (mCallM 2 mNil g_law_sheet_490db))
  (sSeq (sSet 4 (mCallM 2 (mCons (mV 3) mNil) g_law_pool_d95fb))
  (sSeq (sSet 5 (mCallM 2 (mCons (M.ret (.int 3)) mNil) g_law_draw_80bbd))
  (sSeq (sSet 6 (mCallM2L 2 (mV 3) (mV 4) (mLst (mCons (M.ret (.int 59)) mNil)) (M.ret (.int 1)) (g_law_tree_95268 FU)))
  (sSeq (sSet 7 (mCallM2L 2 (mV 3) (mV 4) (mLst (mCons (M.ret (.int 24)) mNil)) (M.ret (.int 1)) (g_law_tree_95268 FU)))
  (sSeq (sSet 8 (mCallM2L 2 (mV 3) (mV 4) (mLst (mCons (M.ret (.int 39)) mNil)) (M.ret (.int 1)) (g_law_tree_95268 FU)))
  (sSeq (sSet 9 (mTup (mCons (M.ret (.str "say")) (mCons (mOp2 eqM (mCallM 2 (mCons (M.ret (.int 2)) mNil) g_law_draw_80bbd) (M.ret (.int 1))) mNil))))
  (sSeq (sIf (mOpT eqM (mV 5) (M.ret (.int 1)))
    (sPar 8 9 (mCons (mV 9) (mCons (mV 8) mNil)))
    sNil)
  (sSeq (sIf (mOpT eqM (mV 5) (M.ret (.int 2)))
    (sSet 9 (mCallM2L 2 (mV 3) (mV 4) (mLst (mCons (M.ret (.int 39)) mNil)) (M.ret (.int 1)) (g_law_tree_95268 FU)))
    sNil)
  (sSeq (sSet 10 (mNew (mCallF listM (mCons (mV 3) mNil))))
  (sSeq (sSet 11 (mCall g_trimmed (mCons (mV 10) (mCons (mV 6) mNil))))
  (sSeq (sIf (mOr (mNotT (mTru (mCall (g_law_is_tree_84b8a FU) (mCons (mV 11) mNil)))) (mOr (mOpT neM (mV 11) (mCall (g_law_merged_1016b FU) (mCons (mCall (g_law_once_a2454 FU) (mCons (mV 6) (mCons (mNew (mLst mNil)) mNil))) mNil))) (mOpT neM (mCall g_trimmed (mCons (mV 10) (mCons (mV 11) mNil))) (mV 11))))
    (sRet (M.ret (.bool false)))
    sNil)
  (sSeq (sSet 11 (mCall g_grafted (mCons (mV 10) (mCons (mV 7) (mCons (mV 8) (mCons (mV 9) mNil))))))
  (sSeq (sIf (mOr (mNotT (mTru (mCall (g_law_is_tree_84b8a FU) (mCons (mV 11) mNil)))) (mOpT neM (mV 11) (mCall (g_law_merged_1016b FU) (mCons (mCall (g_law_once_a2454 FU) (mCons (mCall (g_law_graft_c3e04 FU) (mCons (mV 7) (mCons (mV 8) (mCons (mV 9) mNil)))) (mCons (mNew (mLst mNil)) mNil))) mNil))))
    (sRet (M.ret (.bool false)))
    sNil)
  (sIf (mOpT neM (mV 10) (mV 3))
    (sRet (M.ret (.bool false)))
    sNil)))))))))))))))))
  (sRet (M.ret (.bool true))))
def g_law_k32 : List PyData → Option PyData := runD ["script", "cell", "bag", "sheet", "pool", "side", "plain", "tree", "yes", "no", "handed", "found"] 1 v_law_k32
theorem r_law_k32 (x0 : PyData) : g_law_k32 [x0] = outD (v_law_k32 [.pl x0, .un, .un, .un, .un, .un, .un, .un, .un, .un, .un, .un]) := rfl
end DL
namespace DL
open PySem PySem.Spec PyProof.Rows L2 Lk
def top (i : Nat) : Stmt := PySem.Challenge.pw_leastreasons_k32_trees_trimmed_and_graft.main.body.getD i (.Pass ⟨0, 0, 0, 0⟩)
abbrev s_is_integer : Stmt := top 6
theorem sc_is_integer : FnScope ["value"] ["value"] (defScope s_is_integer) := ⟨rfl, rfl, rfl, by decide +kernel, rfl, by decide +kernel, by decide +kernel⟩
theorem f_is_integer {P : Program} {w : World} {K : PySem.W.Frag} {mg : Str → Option Value} {base : Heap} {f : Addr} {fd : FuncData} {k : Nat} (F : Fun K "is_integer" "is_integer" s_is_integer f fd) (hb : Binds K fd ["value"] []) (hm : mg "is_integer" = some (.ref f))
    (y_bool : mg "bool" = none)
    (y_int : mg "int" = none)
    (y_isinstance : mg "isinstance" = none) : FnOk P w K mg base CX0 (k + 1) f fd ["value"] (spD K g_is_integer) := fn_d F sc_is_integer fun cdv A outer s H E hr =>
  (dss_one (ds_ret (de_and (xe_isi (n := "int") (by decide) (by rfl) y_isinstance (by rfl) y_int (by decide +kernel) (de_v 0)) (de_one (xe_not (xe_isi (n := "bool") (by decide) (by rfl) y_isinstance (by rfl) y_bool (by decide +kernel) (de_v 0)))))))
theorem t_is_integer {P : Program} {w : World} {K : PySem.W.Frag} {mg : Str → Option Value} {base : Heap} {f : Addr} {fd : FuncData} {k : Nat} (F : Fun K "is_integer" "is_integer" s_is_integer f fd) (hb : Binds K fd ["value"] []) (hm : mg "is_integer" = some (.ref f))
    (y_bool : mg "bool" = none)
    (y_int : mg "int" = none)
    (y_isinstance : mg "isinstance" = none) : Has P w K mg base (k + 1) "is_integer" ["value"] (spD K g_is_integer) := ⟨f, fd, f_is_integer F hb hm y_bool y_int y_isinstance, hb, hm, F.kp⟩
abbrev s_is_sizes : Stmt := top 14
theorem sc_is_sizes : FnScope ["value", "size"] ["value"] (defScope s_is_sizes) := ⟨rfl, rfl, rfl, by decide +kernel, rfl, by decide +kernel, by decide +kernel⟩
theorem f_is_sizes {P : Program} {w : World} {K : PySem.W.Frag} {mg : Str → Option Value} {base : Heap} {f : Addr} {fd : FuncData} {k : Nat} (F : Fun K "is_sizes" "is_sizes" s_is_sizes f fd) (hb : Binds K fd ["value"] []) (hm : mg "is_sizes" = some (.ref f))
    (y_all : mg "all" = none)
    (m_GREATEST_SIZE : ∃ t, mg "GREATEST_SIZE" = some (.int 6 t))
    (m_LEAST_SIZE : ∃ t, mg "LEAST_SIZE" = some (.int 2 t))
    (m_MOST_FIELDS : ∃ t, mg "MOST_FIELDS" = some (.int 24 t))
    (y_isinstance : mg "isinstance" = none)
    (y_len : mg "len" = none)
    (y_list : mg "list" = none)
    (G_is_integer : Has P w K mg base k "is_integer" ["value"] (spD K g_is_integer)) : FnOk P w K mg base CX0 (k + 1) f fd ["value"] (spD K g_is_sizes) := fn_d F sc_is_sizes fun cdv A outer s H E hr =>
  (dss_cons (ds_if (DW.pt (dw_or (xt_not (xt_tru (xe_isi (n := "list") (by decide) (by rfl) y_isinstance (by rfl) y_list (by decide +kernel) (de_v 0)))) (dw_or1 (xt_cmp opd_gt (xcB cd_len (by rfl) y_len (by decide +kernel) (xa_cons (de_v 0) xa_nil)) (de_g (v := .int 24) (d := .int 24) (by rfl) m_MOST_FIELDS.choose_spec ⟨_, rfl⟩ fun _ => .int _) (nomark _)))))
    (dss_one (ds_ret de_bl))
    dss_nil)
  (dss_one (ds_ret (xcB (cd_all rfl) (by rfl) y_all (by decide +kernel) (xa_cons (xe_fr (df_lc (own := [("size", 1)]) rfl sc_is_sizes.nd (xi_seq (de_v 0)) (blkOk_by (by kernel_rfl)) (fun _ _ _ _ _ => (dg_name 1 sc_is_sizes.nd rfl (by first | exact Or.inl rfl | exact Or.inr rfl))) (fun _ _ _ _ _ => dts_nil) (fun _ _ _ _ _ => (de_and (xc G_is_integer hr (by rfl) (xa_cons (de_v 1) xa_nil)) (de_one (de_chain opd_le opd_le (de_g (v := .int 2) (d := .int 2) (by rfl) m_LEAST_SIZE.choose_spec ⟨_, rfl⟩ fun _ => .int _) (de_v 1) (de_g (v := .int 6) (d := .int 6) (by rfl) m_GREATEST_SIZE.choose_spec ⟨_, rfl⟩ fun _ => .int _))))))) xa_nil)))))
theorem t_is_sizes {P : Program} {w : World} {K : PySem.W.Frag} {mg : Str → Option Value} {base : Heap} {f : Addr} {fd : FuncData} {k : Nat} (F : Fun K "is_sizes" "is_sizes" s_is_sizes f fd) (hb : Binds K fd ["value"] []) (hm : mg "is_sizes" = some (.ref f))
    (y_all : mg "all" = none)
    (m_GREATEST_SIZE : ∃ t, mg "GREATEST_SIZE" = some (.int 6 t))
    (m_LEAST_SIZE : ∃ t, mg "LEAST_SIZE" = some (.int 2 t))
    (m_MOST_FIELDS : ∃ t, mg "MOST_FIELDS" = some (.int 24 t))
    (y_isinstance : mg "isinstance" = none)
    (y_len : mg "len" = none)
    (y_list : mg "list" = none)
    (G_is_integer : Has P w K mg base k "is_integer" ["value"] (spD K g_is_integer)) : Has P w K mg base (k + 1) "is_sizes" ["value"] (spD K g_is_sizes) := ⟨f, fd, f_is_sizes F hb hm y_all m_GREATEST_SIZE m_LEAST_SIZE m_MOST_FIELDS y_isinstance y_len y_list G_is_integer, hb, hm, F.kp⟩
abbrev s_check_sizes : Stmt := top 15
theorem sc_check_sizes : FnScope ["sizes"] ["sizes"] (defScope s_check_sizes) := ⟨rfl, rfl, rfl, by decide +kernel, rfl, by decide +kernel, by decide +kernel⟩
theorem f_check_sizes {P : Program} {w : World} {K : PySem.W.Frag} {mg : Str → Option Value} {base : Heap} {f : Addr} {fd : FuncData} {k : Nat} (F : Fun K "check_sizes" "check_sizes" s_check_sizes f fd) (hb : Binds K fd ["sizes"] []) (hm : mg "check_sizes" = some (.ref f))
    (G_is_sizes : Has P w K mg base k "is_sizes" ["value"] (spD K g_is_sizes)) : FnOk P w K mg base CX0 (k + 1) f fd ["sizes"] (spD K g_check_sizes) := fn_d F sc_check_sizes fun cdv A outer s H E hr =>
  (dss_one (ds_if (xt_not (xt_tru (xc G_is_sizes hr (by rfl) (xa_cons (de_v 0) xa_nil))))
    (dss_one xs_no)
    dss_nil))
theorem t_check_sizes {P : Program} {w : World} {K : PySem.W.Frag} {mg : Str → Option Value} {base : Heap} {f : Addr} {fd : FuncData} {k : Nat} (F : Fun K "check_sizes" "check_sizes" s_check_sizes f fd) (hb : Binds K fd ["sizes"] []) (hm : mg "check_sizes" = some (.ref f))
    (G_is_sizes : Has P w K mg base k "is_sizes" ["value"] (spD K g_is_sizes)) : Has P w K mg base (k + 1) "check_sizes" ["sizes"] (spD K g_check_sizes) := ⟨f, fd, f_check_sizes F hb hm G_is_sizes, hb, hm, F.kp⟩
abbrev s_inner_forms : Stmt := top 21
theorem sc_inner_forms : FnScope ["form"] ["form"] (defScope s_inner_forms) := ⟨rfl, rfl, rfl, by decide +kernel, rfl, by decide +kernel, by decide +kernel⟩
theorem f_inner_forms {P : Program} {w : World} {K : PySem.W.Frag} {mg : Str → Option Value} {base : Heap} {f : Addr} {fd : FuncData} {k : Nat} (F : Fun K "inner_forms" "inner_forms" s_inner_forms f fd) (hb : Binds K fd ["form"] []) (hm : mg "inner_forms" = some (.ref f))
    (m_JOINING_WORDS : CTup K mg "JOINING_WORDS" c_JOINING_WORDS) : FnOk P w K mg base CX0 (k + 1) f fd ["form"] (spD K g_inner_forms) := fn_d F sc_inner_forms fun cdv A outer s H E hr =>
  (dss_cons (ds_if (xt_cmp (opd_eq hr) (xe_ix (de_v 0) de_int (fun _ _ => rfl)) de_str (nomark _))
    (dss_one (ds_ret (xe_ix (de_v 0) de_int (fun _ _ => rfl))))
    dss_nil)
  (dss_cons (ds_if (xt_cmp (opd_eq hr) (xe_ix (de_v 0) de_int (fun _ _ => rfl)) de_str (nomark _))
    (dss_one (ds_ret (xe_tup (xa_cons (xe_ix (de_v 0) de_int (fun _ _ => rfl)) xa_nil))))
    dss_nil)
  (dss_cons (ds_if (xt_cmp (opd_in hr) (xe_ix (de_v 0) de_int (fun _ _ => rfl)) (m_JOINING_WORDS.de (by rfl)) (by rfl))
    (dss_one (ds_ret (xe_ix (de_v 0) de_int (fun _ _ => rfl))))
    dss_nil)
  (dss_one (ds_ret (xe_tup xa_nil))))))
theorem t_inner_forms {P : Program} {w : World} {K : PySem.W.Frag} {mg : Str → Option Value} {base : Heap} {f : Addr} {fd : FuncData} {k : Nat} (F : Fun K "inner_forms" "inner_forms" s_inner_forms f fd) (hb : Binds K fd ["form"] []) (hm : mg "inner_forms" = some (.ref f))
    (m_JOINING_WORDS : CTup K mg "JOINING_WORDS" c_JOINING_WORDS) : Has P w K mg base (k + 1) "inner_forms" ["form"] (spD K g_inner_forms) := ⟨f, fd, f_inner_forms F hb hm m_JOINING_WORDS, hb, hm, F.kp⟩
abbrev s_all_forms : Stmt := top 22
theorem sc_all_forms : FnScope ["form", "found", "left", "part"] ["form"] (defScope s_all_forms) := ⟨rfl, rfl, rfl, by decide +kernel, rfl, by decide +kernel, by decide +kernel⟩
theorem f_all_forms {P : Program} {w : World} {K : PySem.W.Frag} {mg : Str → Option Value} {base : Heap} {f : Addr} {fd : FuncData} {k : Nat} (F : Fun K "all_forms" "all_forms" s_all_forms f fd) (hb : Binds K fd ["form"] []) (hm : mg "all_forms" = some (.ref f))
    (G_inner_forms : Has P w K mg base k "inner_forms" ["form"] (spD K g_inner_forms)) : FnOk P w K mg base CX0 (k + 1) f fd ["form"] (spD K g_all_forms) := fn_d F sc_all_forms fun cdv A outer s H E hr =>
  (dss_cons (ds_own (i := 1) sc_all_forms.nd rfl (by first | exact Or.inl rfl | exact Or.inr rfl) (xf_lst xa_nil))
  (dss_cons (ds_own (i := 2) sc_all_forms.nd rfl (by first | exact Or.inl rfl | exact Or.inr rfl) (xf_lst (xa_cons (de_v 0) xa_nil)))
  (dss_cons (ds_while WH PassesOwn.never (dt_truO 2)
    (dss_cons (ds_set (i := 3) sc_all_forms.nd rfl (by first | exact Or.inl rfl | exact Or.inr rfl) (de_pop 2 (hpe := pe_bm0 PySem.F.plainAttrs_list PySem.F.slot_list_pop PySem.F.type_list_pop mt_pop (pv 2))))
  (dss_cons (ds_app 1 (te := _) (fun _ _ _ _ h => h) (ps_expr (pe_bm PySem.F.plainAttrs_list PySem.F.slot_list_append PySem.F.type_list_append mt_append (pv 1) (pa_cons ((show DE _ _ _ _ _ from (de_v 3)).pe rfl) pa_nil))))
  (dss_one (ds_ext 2 (te := _) (fun _ _ _ _ h => h) (ps_expr (pe_bm PySem.F.plainAttrs_list PySem.F.slot_list_extend PySem.F.type_list_extend mt_extendA (pv 2) (pa_cons ((show DE _ _ _ _ _ from (xc G_inner_forms hr (by rfl) (xa_cons (de_v 3) xa_nil))).pe rfl) pa_nil))))))))
  (dss_one (ds_frz 1 (ds_ret (de_v 1)))))))
theorem t_all_forms {P : Program} {w : World} {K : PySem.W.Frag} {mg : Str → Option Value} {base : Heap} {f : Addr} {fd : FuncData} {k : Nat} (F : Fun K "all_forms" "all_forms" s_all_forms f fd) (hb : Binds K fd ["form"] []) (hm : mg "all_forms" = some (.ref f))
    (G_inner_forms : Has P w K mg base k "inner_forms" ["form"] (spD K g_inner_forms)) : Has P w K mg base (k + 1) "all_forms" ["form"] (spD K g_all_forms) := ⟨f, fd, f_all_forms F hb hm G_inner_forms, hb, hm, F.kp⟩
abbrev s_has_plain_words : Stmt := top 24
theorem sc_has_plain_words : FnScope ["form", "part"] ["form"] (defScope s_has_plain_words) := ⟨rfl, rfl, rfl, by decide +kernel, rfl, by decide +kernel, by decide +kernel⟩
theorem f_has_plain_words {P : Program} {w : World} {K : PySem.W.Frag} {mg : Str → Option Value} {base : Heap} {f : Addr} {fd : FuncData} {k : Nat} (F : Fun K "has_plain_words" "has_plain_words" s_has_plain_words f fd) (hb : Binds K fd ["form"] []) (hm : mg "has_plain_words" = some (.ref f))
    (y_all : mg "all" = none)
    (m_PLAIN_WORDS : CTup K mg "PLAIN_WORDS" c_PLAIN_WORDS)
    (G_all_forms : Has P w K mg base k "all_forms" ["form"] (spD K g_all_forms)) : FnOk P w K mg base CX0 (k + 1) f fd ["form"] (spD K g_has_plain_words) := fn_d F sc_has_plain_words fun cdv A outer s H E hr =>
  (dss_one (ds_ret (xcB (cd_all rfl) (by rfl) y_all (by decide +kernel) (xa_cons (xe_fr (df_lc (own := [("part", 1)]) rfl sc_has_plain_words.nd (xi_seq (xc G_all_forms hr (by rfl) (xa_cons (de_v 0) xa_nil))) (blkOk_by (by kernel_rfl)) (fun _ _ _ _ _ => (dg_name 1 sc_has_plain_words.nd rfl (by first | exact Or.inl rfl | exact Or.inr rfl))) (fun _ _ _ _ _ => dts_nil) (fun _ _ _ _ _ => (xe_cmp (opd_in hr) (xe_ix (de_v 1) de_int (fun _ _ => rfl)) (m_PLAIN_WORDS.de (by rfl)) (by rfl))))) xa_nil))))
theorem t_has_plain_words {P : Program} {w : World} {K : PySem.W.Frag} {mg : Str → Option Value} {base : Heap} {f : Addr} {fd : FuncData} {k : Nat} (F : Fun K "has_plain_words" "has_plain_words" s_has_plain_words f fd) (hb : Binds K fd ["form"] []) (hm : mg "has_plain_words" = some (.ref f))
    (y_all : mg "all" = none)
    (m_PLAIN_WORDS : CTup K mg "PLAIN_WORDS" c_PLAIN_WORDS)
    (G_all_forms : Has P w K mg base k "all_forms" ["form"] (spD K g_all_forms)) : Has P w K mg base (k + 1) "has_plain_words" ["form"] (spD K g_has_plain_words) := ⟨f, fd, f_has_plain_words F hb hm y_all m_PLAIN_WORDS G_all_forms, hb, hm, F.kp⟩
abbrev s_number_of_cases : Stmt := top 16
theorem sc_number_of_cases : FnScope ["sizes", "number", "size"] ["sizes"] (defScope s_number_of_cases) := ⟨rfl, rfl, rfl, by decide +kernel, rfl, by decide +kernel, by decide +kernel⟩
theorem f_number_of_cases {P : Program} {w : World} {K : PySem.W.Frag} {mg : Str → Option Value} {base : Heap} {f : Addr} {fd : FuncData} {k : Nat} (F : Fun K "number_of_cases" "number_of_cases" s_number_of_cases f fd) (hb : Binds K fd ["sizes"] []) (hm : mg "number_of_cases" = some (.ref f))
     : FnOk P w K mg base CX0 (k + 1) f fd ["sizes"] (spD K g_number_of_cases) := fn_d F sc_number_of_cases fun cdv A outer s H E hr =>
  (dss_cons (ds_set (i := 1) sc_number_of_cases.nd rfl (by first | exact Or.inl rfl | exact Or.inr rfl) de_int)
  (dss_cons (ds_for PassesOwn.never rfl (xi_seq (de_v 0)) (dg_name 2 sc_number_of_cases.nd rfl (by first | exact Or.inl rfl | exact Or.inr rfl))
    (dss_one (ds_set (i := 1) sc_number_of_cases.nd rfl (by first | exact Or.inl rfl | exact Or.inr rfl) (xe_op opd_mul (de_v 1) (de_v 2)))))
  (dss_one (ds_ret (de_v 1)))))
theorem t_number_of_cases {P : Program} {w : World} {K : PySem.W.Frag} {mg : Str → Option Value} {base : Heap} {f : Addr} {fd : FuncData} {k : Nat} (F : Fun K "number_of_cases" "number_of_cases" s_number_of_cases f fd) (hb : Binds K fd ["sizes"] []) (hm : mg "number_of_cases" = some (.ref f))
     : Has P w K mg base (k + 1) "number_of_cases" ["sizes"] (spD K g_number_of_cases) := ⟨f, fd, f_number_of_cases F hb hm , hb, hm, F.kp⟩
abbrev s_is_small_sheet : Stmt := top 17
theorem sc_is_small_sheet : FnScope ["sizes"] ["sizes"] (defScope s_is_small_sheet) := ⟨rfl, rfl, rfl, by decide +kernel, rfl, by decide +kernel, by decide +kernel⟩
theorem f_is_small_sheet {P : Program} {w : World} {K : PySem.W.Frag} {mg : Str → Option Value} {base : Heap} {f : Addr} {fd : FuncData} {k : Nat} (F : Fun K "is_small_sheet" "is_small_sheet" s_is_small_sheet f fd) (hb : Binds K fd ["sizes"] []) (hm : mg "is_small_sheet" = some (.ref f))
    (m_MOST_CASES_OF_SMALL : ∃ t, mg "MOST_CASES_OF_SMALL" = some (.int 1024 t))
    (G_number_of_cases : Has P w K mg base k "number_of_cases" ["sizes"] (spD K g_number_of_cases)) : FnOk P w K mg base CX0 (k + 1) f fd ["sizes"] (spD K g_is_small_sheet) := fn_d F sc_is_small_sheet fun cdv A outer s H E hr =>
  (dss_one (ds_ret (xe_cmp opd_le (xc G_number_of_cases hr (by rfl) (xa_cons (de_v 0) xa_nil)) (de_g (v := .int 1024) (d := .int 1024) (by rfl) m_MOST_CASES_OF_SMALL.choose_spec ⟨_, rfl⟩ fun _ => .int _) (nomark _))))
theorem t_is_small_sheet {P : Program} {w : World} {K : PySem.W.Frag} {mg : Str → Option Value} {base : Heap} {f : Addr} {fd : FuncData} {k : Nat} (F : Fun K "is_small_sheet" "is_small_sheet" s_is_small_sheet f fd) (hb : Binds K fd ["sizes"] []) (hm : mg "is_small_sheet" = some (.ref f))
    (m_MOST_CASES_OF_SMALL : ∃ t, mg "MOST_CASES_OF_SMALL" = some (.int 1024 t))
    (G_number_of_cases : Has P w K mg base k "number_of_cases" ["sizes"] (spD K g_number_of_cases)) : Has P w K mg base (k + 1) "is_small_sheet" ["sizes"] (spD K g_is_small_sheet) := ⟨f, fd, f_is_small_sheet F hb hm m_MOST_CASES_OF_SMALL G_number_of_cases, hb, hm, F.kp⟩
abbrev s_p_is_tuple_of : Stmt := top 29
theorem sc_p_is_tuple_of : FnScope ["value", "length"] ["value", "length"] (defScope s_p_is_tuple_of) := ⟨rfl, rfl, rfl, by decide +kernel, rfl, by decide +kernel, by decide +kernel⟩
theorem f_p_is_tuple_of {P : Program} {w : World} {K : PySem.W.Frag} {mg : Str → Option Value} {base : Heap} {f : Addr} {fd : FuncData} {k : Nat} (F : Fun K "_is_tuple_of" "_is_tuple_of" s_p_is_tuple_of f fd) (hb : Binds K fd ["value", "length"] []) (hm : mg "_is_tuple_of" = some (.ref f))
    (y_isinstance : mg "isinstance" = none)
    (y_len : mg "len" = none)
    (y_tuple : mg "tuple" = none) : FnOk P w K mg base CX0 (k + 1) f fd ["value", "length"] (spD K g_p_is_tuple_of) := fn_d F sc_p_is_tuple_of fun cdv A outer s H E hr =>
  (dss_one (ds_ret (de_and (xe_isi (n := "tuple") (by decide) (by rfl) y_isinstance (by rfl) y_tuple (by decide +kernel) (de_v 0)) (de_one (xe_cmp (opd_eq hr) (xcB cd_len (by rfl) y_len (by decide +kernel) (xa_cons (de_v 0) xa_nil)) (de_v 1) (nomark _))))))
theorem t_p_is_tuple_of {P : Program} {w : World} {K : PySem.W.Frag} {mg : Str → Option Value} {base : Heap} {f : Addr} {fd : FuncData} {k : Nat} (F : Fun K "_is_tuple_of" "_is_tuple_of" s_p_is_tuple_of f fd) (hb : Binds K fd ["value", "length"] []) (hm : mg "_is_tuple_of" = some (.ref f))
    (y_isinstance : mg "isinstance" = none)
    (y_len : mg "len" = none)
    (y_tuple : mg "tuple" = none) : Has P w K mg base (k + 1) "_is_tuple_of" ["value", "length"] (spD K g_p_is_tuple_of) := ⟨f, fd, f_p_is_tuple_of F hb hm y_isinstance y_len y_tuple, hb, hm, F.kp⟩
abbrev s_p_is_results : Stmt := top 36
theorem sc_p_is_results : FnScope ["sizes", "value", "result"] ["sizes", "value"] (defScope s_p_is_results) := ⟨rfl, rfl, rfl, by decide +kernel, rfl, by decide +kernel, by decide +kernel⟩
theorem f_p_is_results {P : Program} {w : World} {K : PySem.W.Frag} {mg : Str → Option Value} {base : Heap} {f : Addr} {fd : FuncData} {k : Nat} (F : Fun K "_is_results" "_is_results" s_p_is_results f fd) (hb : Binds K fd ["sizes", "value"] []) (hm : mg "_is_results" = some (.ref f))
    (y_all : mg "all" = none)
    (y_bool : mg "bool" = none)
    (y_isinstance : mg "isinstance" = none)
    (G_number_of_cases : Has P w K mg base k "number_of_cases" ["sizes"] (spD K g_number_of_cases))
    (G_is_small_sheet : Has P w K mg base k "is_small_sheet" ["sizes"] (spD K g_is_small_sheet))
    (G_p_is_tuple_of : Has P w K mg base k "_is_tuple_of" ["value", "length"] (spD K g_p_is_tuple_of)) : FnOk P w K mg base CX0 (k + 1) f fd ["sizes", "value"] (spD K g_p_is_results) := fn_d F sc_p_is_results fun cdv A outer s H E hr =>
  (dss_cons (ds_if (DW.pt (dw_or (xt_not (xt_tru (xc G_is_small_sheet hr (by rfl) (xa_cons (de_v 0) xa_nil)))) (dw_or1 (xt_not (xt_tru (xc G_p_is_tuple_of hr (by rfl) (xa_cons (de_v 1) (xa_cons (xc G_number_of_cases hr (by rfl) (xa_cons (de_v 0) xa_nil)) xa_nil))))))))
    (dss_one (ds_ret de_bl))
    dss_nil)
  (dss_one (ds_ret (xcB (cd_all rfl) (by rfl) y_all (by decide +kernel) (xa_cons (xe_fr (df_lc (own := [("result", 2)]) rfl sc_p_is_results.nd (xi_seq (de_v 1)) (blkOk_by (by kernel_rfl)) (fun _ _ _ _ _ => (dg_name 2 sc_p_is_results.nd rfl (by first | exact Or.inl rfl | exact Or.inr rfl))) (fun _ _ _ _ _ => dts_nil) (fun _ _ _ _ _ => (xe_isi (n := "bool") (by decide) (by rfl) y_isinstance (by rfl) y_bool (by decide +kernel) (de_v 2))))) xa_nil)))))
theorem t_p_is_results {P : Program} {w : World} {K : PySem.W.Frag} {mg : Str → Option Value} {base : Heap} {f : Addr} {fd : FuncData} {k : Nat} (F : Fun K "_is_results" "_is_results" s_p_is_results f fd) (hb : Binds K fd ["sizes", "value"] []) (hm : mg "_is_results" = some (.ref f))
    (y_all : mg "all" = none)
    (y_bool : mg "bool" = none)
    (y_isinstance : mg "isinstance" = none)
    (G_number_of_cases : Has P w K mg base k "number_of_cases" ["sizes"] (spD K g_number_of_cases))
    (G_is_small_sheet : Has P w K mg base k "is_small_sheet" ["sizes"] (spD K g_is_small_sheet))
    (G_p_is_tuple_of : Has P w K mg base k "_is_tuple_of" ["value", "length"] (spD K g_p_is_tuple_of)) : Has P w K mg base (k + 1) "_is_results" ["sizes", "value"] (spD K g_p_is_results) := ⟨f, fd, f_p_is_results F hb hm y_all y_bool y_isinstance G_number_of_cases G_is_small_sheet G_p_is_tuple_of, hb, hm, F.kp⟩
abbrev s_p_is_short_form_outside : Stmt := top 27
theorem sc_p_is_short_form_outside : FnScope ["sizes", "word", "part"] ["sizes", "word", "part"] (defScope s_p_is_short_form_outside) := ⟨rfl, rfl, rfl, by decide +kernel, rfl, by decide +kernel, by decide +kernel⟩
theorem f_p_is_short_form_outside {P : Program} {w : World} {K : PySem.W.Frag} {mg : Str → Option Value} {base : Heap} {f : Addr} {fd : FuncData} {k : Nat} (F : Fun K "_is_short_form_outside" "_is_short_form_outside" s_p_is_short_form_outside f fd) (hb : Binds K fd ["sizes", "word", "part"] []) (hm : mg "_is_short_form_outside" = some (.ref f))
    (y_bool : mg "bool" = none)
    (m_JOINING_WORDS : CTup K mg "JOINING_WORDS" c_JOINING_WORDS)
    (y_isinstance : mg "isinstance" = none)
    (y_tuple : mg "tuple" = none)
    (G_p_is_results : Has P w K mg base k "_is_results" ["sizes", "value"] (spD K g_p_is_results)) : FnOk P w K mg base CX0 (k + 1) f fd ["sizes", "word", "part"] (spD K g_p_is_short_form_outside) := fn_d F sc_p_is_short_form_outside fun cdv A outer s H E hr =>
  (dss_cons (ds_if (xt_cmp (opd_eq hr) (de_v 1) de_str (nomark _))
    (dss_one (ds_ret (xe_isi (n := "bool") (by decide) (by rfl) y_isinstance (by rfl) y_bool (by decide +kernel) (de_v 2))))
    dss_nil)
  (dss_cons (ds_if (xt_cmp (opd_eq hr) (de_v 1) de_str (nomark _))
    (dss_one (ds_ret (xc G_p_is_results hr (by rfl) (xa_cons (de_v 0) (xa_cons (de_v 2) xa_nil)))))
    dss_nil)
  (dss_cons (ds_if (xt_cmp (opd_eq hr) (de_v 1) de_str (nomark _))
    (dss_one (ds_ret de_bl))
    dss_nil)
  (dss_one (ds_ret (de_and (xe_cmp (opd_in hr) (de_v 1) (m_JOINING_WORDS.de (by rfl)) (by rfl)) (de_one (xe_isi (n := "tuple") (by decide) (by rfl) y_isinstance (by rfl) y_tuple (by decide +kernel) (de_v 2)))))))))
theorem t_p_is_short_form_outside {P : Program} {w : World} {K : PySem.W.Frag} {mg : Str → Option Value} {base : Heap} {f : Addr} {fd : FuncData} {k : Nat} (F : Fun K "_is_short_form_outside" "_is_short_form_outside" s_p_is_short_form_outside f fd) (hb : Binds K fd ["sizes", "word", "part"] []) (hm : mg "_is_short_form_outside" = some (.ref f))
    (y_bool : mg "bool" = none)
    (m_JOINING_WORDS : CTup K mg "JOINING_WORDS" c_JOINING_WORDS)
    (y_isinstance : mg "isinstance" = none)
    (y_tuple : mg "tuple" = none)
    (G_p_is_results : Has P w K mg base k "_is_results" ["sizes", "value"] (spD K g_p_is_results)) : Has P w K mg base (k + 1) "_is_short_form_outside" ["sizes", "word", "part"] (spD K g_p_is_short_form_outside) := ⟨f, fd, f_p_is_short_form_outside F hb hm y_bool m_JOINING_WORDS y_isinstance y_tuple G_p_is_results, hb, hm, F.kp⟩
abbrev s_is_integer_below : Stmt := top 7
theorem sc_is_integer_below : FnScope ["value", "limit"] ["value", "limit"] (defScope s_is_integer_below) := ⟨rfl, rfl, rfl, by decide +kernel, rfl, by decide +kernel, by decide +kernel⟩
theorem f_is_integer_below {P : Program} {w : World} {K : PySem.W.Frag} {mg : Str → Option Value} {base : Heap} {f : Addr} {fd : FuncData} {k : Nat} (F : Fun K "is_integer_below" "is_integer_below" s_is_integer_below f fd) (hb : Binds K fd ["value", "limit"] []) (hm : mg "is_integer_below" = some (.ref f))
    (G_is_integer : Has P w K mg base k "is_integer" ["value"] (spD K g_is_integer)) : FnOk P w K mg base CX0 (k + 1) f fd ["value", "limit"] (spD K g_is_integer_below) := fn_d F sc_is_integer_below fun cdv A outer s H E hr =>
  (dss_one (ds_ret (de_and (xc G_is_integer hr (by rfl) (xa_cons (de_v 0) xa_nil)) (de_one (de_chain opd_le opd_lt de_int (de_v 0) (de_v 1))))))
theorem t_is_integer_below {P : Program} {w : World} {K : PySem.W.Frag} {mg : Str → Option Value} {base : Heap} {f : Addr} {fd : FuncData} {k : Nat} (F : Fun K "is_integer_below" "is_integer_below" s_is_integer_below f fd) (hb : Binds K fd ["value", "limit"] []) (hm : mg "is_integer_below" = some (.ref f))
    (G_is_integer : Has P w K mg base k "is_integer" ["value"] (spD K g_is_integer)) : Has P w K mg base (k + 1) "is_integer_below" ["value", "limit"] (spD K g_is_integer_below) := ⟨f, fd, f_is_integer_below F hb hm G_is_integer, hb, hm, F.kp⟩
abbrev s_are_ascending_below : Stmt := top 8
theorem sc_are_ascending_below : FnScope ["values", "limit", "least", "value"] ["values", "limit"] (defScope s_are_ascending_below) := ⟨rfl, rfl, rfl, by decide +kernel, rfl, by decide +kernel, by decide +kernel⟩
theorem f_are_ascending_below {P : Program} {w : World} {K : PySem.W.Frag} {mg : Str → Option Value} {base : Heap} {f : Addr} {fd : FuncData} {k : Nat} (F : Fun K "are_ascending_below" "are_ascending_below" s_are_ascending_below f fd) (hb : Binds K fd ["values", "limit"] []) (hm : mg "are_ascending_below" = some (.ref f))
    (G_is_integer_below : Has P w K mg base k "is_integer_below" ["value", "limit"] (spD K g_is_integer_below)) : FnOk P w K mg base CX0 (k + 1) f fd ["values", "limit"] (spD K g_are_ascending_below) := fn_d F sc_are_ascending_below fun cdv A outer s H E hr =>
  (dss_cons (ds_set (i := 2) sc_are_ascending_below.nd rfl (by first | exact Or.inl rfl | exact Or.inr rfl) de_int)
  (dss_cons (ds_for PassesOwn.never rfl (xi_seq (de_v 0)) (dg_name 3 sc_are_ascending_below.nd rfl (by first | exact Or.inl rfl | exact Or.inr rfl))
    (dss_cons (ds_if (DW.pt (dw_or (xt_not (xt_tru (xc G_is_integer_below hr (by rfl) (xa_cons (de_v 3) (xa_cons (de_v 1) xa_nil))))) (dw_or1 (xt_cmp opd_lt (de_v 3) (de_v 2) (nomark _)))))
    (dss_one (ds_ret de_bl))
    dss_nil)
  (dss_one (ds_set (i := 2) sc_are_ascending_below.nd rfl (by first | exact Or.inl rfl | exact Or.inr rfl) (xe_op opd_add (de_v 3) de_int)))))
  (dss_one (ds_ret de_bl))))
theorem t_are_ascending_below {P : Program} {w : World} {K : PySem.W.Frag} {mg : Str → Option Value} {base : Heap} {f : Addr} {fd : FuncData} {k : Nat} (F : Fun K "are_ascending_below" "are_ascending_below" s_are_ascending_below f fd) (hb : Binds K fd ["values", "limit"] []) (hm : mg "are_ascending_below" = some (.ref f))
    (G_is_integer_below : Has P w K mg base k "is_integer_below" ["value", "limit"] (spD K g_is_integer_below)) : Has P w K mg base (k + 1) "are_ascending_below" ["values", "limit"] (spD K g_are_ascending_below) := ⟨f, fd, f_are_ascending_below F hb hm G_is_integer_below, hb, hm, F.kp⟩
abbrev s_p_is_test : Stmt := top 30
theorem sc_p_is_test : FnScope ["sizes", "field", "values"] ["sizes", "field", "values"] (defScope s_p_is_test) := ⟨rfl, rfl, rfl, by decide +kernel, rfl, by decide +kernel, by decide +kernel⟩
theorem f_p_is_test {P : Program} {w : World} {K : PySem.W.Frag} {mg : Str → Option Value} {base : Heap} {f : Addr} {fd : FuncData} {k : Nat} (F : Fun K "_is_test" "_is_test" s_p_is_test f fd) (hb : Binds K fd ["sizes", "field", "values"] []) (hm : mg "_is_test" = some (.ref f))
    (y_isinstance : mg "isinstance" = none)
    (y_len : mg "len" = none)
    (y_tuple : mg "tuple" = none)
    (G_is_integer_below : Has P w K mg base k "is_integer_below" ["value", "limit"] (spD K g_is_integer_below))
    (G_are_ascending_below : Has P w K mg base k "are_ascending_below" ["values", "limit"] (spD K g_are_ascending_below)) : FnOk P w K mg base CX0 (k + 1) f fd ["sizes", "field", "values"] (spD K g_p_is_test) := fn_d F sc_p_is_test fun cdv A outer s H E hr =>
  (dss_cons (ds_if (DW.pt (dw_or (xt_not (xt_tru (xc G_is_integer_below hr (by rfl) (xa_cons (de_v 1) (xa_cons (xcB cd_len (by rfl) y_len (by decide +kernel) (xa_cons (de_v 0) xa_nil)) xa_nil))))) (dw_or1 (xt_not (xt_tru (xe_isi (n := "tuple") (by decide) (by rfl) y_isinstance (by rfl) y_tuple (by decide +kernel) (de_v 2)))))))
    (dss_one (ds_ret de_bl))
    dss_nil)
  (dss_one (ds_ret (xc G_are_ascending_below hr (by rfl) (xa_cons (de_v 2) (xa_cons (xe_ix (de_v 0) (de_v 1) (fun _ _ => rfl)) xa_nil))))))
theorem t_p_is_test {P : Program} {w : World} {K : PySem.W.Frag} {mg : Str → Option Value} {base : Heap} {f : Addr} {fd : FuncData} {k : Nat} (F : Fun K "_is_test" "_is_test" s_p_is_test f fd) (hb : Binds K fd ["sizes", "field", "values"] []) (hm : mg "_is_test" = some (.ref f))
    (y_isinstance : mg "isinstance" = none)
    (y_len : mg "len" = none)
    (y_tuple : mg "tuple" = none)
    (G_is_integer_below : Has P w K mg base k "is_integer_below" ["value", "limit"] (spD K g_is_integer_below))
    (G_are_ascending_below : Has P w K mg base k "are_ascending_below" ["values", "limit"] (spD K g_are_ascending_below)) : Has P w K mg base (k + 1) "_is_test" ["sizes", "field", "values"] (spD K g_p_is_test) := ⟨f, fd, f_p_is_test F hb hm y_isinstance y_len y_tuple G_is_integer_below G_are_ascending_below, hb, hm, F.kp⟩
abbrev s_p_is_condition : Stmt := top 31
theorem sc_p_is_condition : FnScope ["sizes", "value"] ["sizes", "value"] (defScope s_p_is_condition) := ⟨rfl, rfl, rfl, by decide +kernel, rfl, by decide +kernel, by decide +kernel⟩
theorem f_p_is_condition {P : Program} {w : World} {K : PySem.W.Frag} {mg : Str → Option Value} {base : Heap} {f : Addr} {fd : FuncData} {k : Nat} (F : Fun K "_is_condition" "_is_condition" s_p_is_condition f fd) (hb : Binds K fd ["sizes", "value"] []) (hm : mg "_is_condition" = some (.ref f))
    (G_p_is_tuple_of : Has P w K mg base k "_is_tuple_of" ["value", "length"] (spD K g_p_is_tuple_of))
    (G_p_is_test : Has P w K mg base k "_is_test" ["sizes", "field", "values"] (spD K g_p_is_test)) : FnOk P w K mg base CX0 (k + 1) f fd ["sizes", "value"] (spD K g_p_is_condition) := fn_d F sc_p_is_condition fun cdv A outer s H E hr =>
  (dss_one (ds_ret (de_and (xc G_p_is_tuple_of hr (by rfl) (xa_cons (de_v 1) (xa_cons de_int xa_nil))) (de_one (xc G_p_is_test hr (by rfl) (xa_cons (de_v 0) (xa_cons (xe_ix (de_v 1) de_int (fun _ _ => rfl)) (xa_cons (xe_ix (de_v 1) de_int (fun _ _ => rfl)) xa_nil))))))))
theorem t_p_is_condition {P : Program} {w : World} {K : PySem.W.Frag} {mg : Str → Option Value} {base : Heap} {f : Addr} {fd : FuncData} {k : Nat} (F : Fun K "_is_condition" "_is_condition" s_p_is_condition f fd) (hb : Binds K fd ["sizes", "value"] []) (hm : mg "_is_condition" = some (.ref f))
    (G_p_is_tuple_of : Has P w K mg base k "_is_tuple_of" ["value", "length"] (spD K g_p_is_tuple_of))
    (G_p_is_test : Has P w K mg base k "_is_test" ["sizes", "field", "values"] (spD K g_p_is_test)) : Has P w K mg base (k + 1) "_is_condition" ["sizes", "value"] (spD K g_p_is_condition) := ⟨f, fd, f_p_is_condition F hb hm G_p_is_tuple_of G_p_is_test, hb, hm, F.kp⟩
abbrev s_is_conditions : Stmt := top 25
theorem sc_is_conditions : FnScope ["sizes", "value", "part"] ["sizes", "value"] (defScope s_is_conditions) := ⟨rfl, rfl, rfl, by decide +kernel, rfl, by decide +kernel, by decide +kernel⟩
theorem f_is_conditions {P : Program} {w : World} {K : PySem.W.Frag} {mg : Str → Option Value} {base : Heap} {f : Addr} {fd : FuncData} {k : Nat} (F : Fun K "is_conditions" "is_conditions" s_is_conditions f fd) (hb : Binds K fd ["sizes", "value"] []) (hm : mg "is_conditions" = some (.ref f))
    (y_all : mg "all" = none)
    (y_isinstance : mg "isinstance" = none)
    (y_len : mg "len" = none)
    (y_tuple : mg "tuple" = none)
    (G_are_ascending_below : Has P w K mg base k "are_ascending_below" ["values", "limit"] (spD K g_are_ascending_below))
    (G_p_is_condition : Has P w K mg base k "_is_condition" ["sizes", "value"] (spD K g_p_is_condition)) : FnOk P w K mg base CX0 (k + 1) f fd ["sizes", "value"] (spD K g_is_conditions) := fn_d F sc_is_conditions fun cdv A outer s H E hr =>
  (dss_cons (ds_if (DW.pt (dw_or (xt_not (xt_tru (xe_isi (n := "tuple") (by decide) (by rfl) y_isinstance (by rfl) y_tuple (by decide +kernel) (de_v 1)))) (dw_or1 (xt_not (xt_tru (xcB (cd_all rfl) (by rfl) y_all (by decide +kernel) (xa_cons (xe_fr (df_lc (own := [("part", 2)]) rfl sc_is_conditions.nd (xi_seq (de_v 1)) (blkOk_by (by kernel_rfl)) (fun _ _ _ _ _ => (dg_name 2 sc_is_conditions.nd rfl (by first | exact Or.inl rfl | exact Or.inr rfl))) (fun _ _ _ _ _ => dts_nil) (fun _ _ _ _ _ => (xc G_p_is_condition hr (by rfl) (xa_cons (de_v 0) (xa_cons (de_v 2) xa_nil)))))) xa_nil)))))))
    (dss_one (ds_ret de_bl))
    dss_nil)
  (dss_one (ds_ret (xc G_are_ascending_below hr (by rfl) (xa_cons (xe_fr (df_lc (own := [("part", 2)]) rfl sc_is_conditions.nd (xi_seq (de_v 1)) (blkOk_by (by kernel_rfl)) (fun _ _ _ _ _ => (dg_name 2 sc_is_conditions.nd rfl (by first | exact Or.inl rfl | exact Or.inr rfl))) (fun _ _ _ _ _ => dts_nil) (fun _ _ _ _ _ => (xe_ix (de_v 2) de_int (fun _ _ => rfl))))) (xa_cons (xcB cd_len (by rfl) y_len (by decide +kernel) (xa_cons (de_v 0) xa_nil)) xa_nil))))))
theorem t_is_conditions {P : Program} {w : World} {K : PySem.W.Frag} {mg : Str → Option Value} {base : Heap} {f : Addr} {fd : FuncData} {k : Nat} (F : Fun K "is_conditions" "is_conditions" s_is_conditions f fd) (hb : Binds K fd ["sizes", "value"] []) (hm : mg "is_conditions" = some (.ref f))
    (y_all : mg "all" = none)
    (y_isinstance : mg "isinstance" = none)
    (y_len : mg "len" = none)
    (y_tuple : mg "tuple" = none)
    (G_are_ascending_below : Has P w K mg base k "are_ascending_below" ["values", "limit"] (spD K g_are_ascending_below))
    (G_p_is_condition : Has P w K mg base k "_is_condition" ["sizes", "value"] (spD K g_p_is_condition)) : Has P w K mg base (k + 1) "is_conditions" ["sizes", "value"] (spD K g_is_conditions) := ⟨f, fd, f_is_conditions F hb hm y_all y_isinstance y_len y_tuple G_are_ascending_below G_p_is_condition, hb, hm, F.kp⟩
abbrev s_p_is_rule : Stmt := top 32
theorem sc_p_is_rule : FnScope ["sizes", "value"] ["sizes", "value"] (defScope s_p_is_rule) := ⟨rfl, rfl, rfl, by decide +kernel, rfl, by decide +kernel, by decide +kernel⟩
theorem f_p_is_rule {P : Program} {w : World} {K : PySem.W.Frag} {mg : Str → Option Value} {base : Heap} {f : Addr} {fd : FuncData} {k : Nat} (F : Fun K "_is_rule" "_is_rule" s_p_is_rule f fd) (hb : Binds K fd ["sizes", "value"] []) (hm : mg "_is_rule" = some (.ref f))
    (y_bool : mg "bool" = none)
    (y_isinstance : mg "isinstance" = none)
    (G_is_conditions : Has P w K mg base k "is_conditions" ["sizes", "value"] (spD K g_is_conditions))
    (G_p_is_tuple_of : Has P w K mg base k "_is_tuple_of" ["value", "length"] (spD K g_p_is_tuple_of)) : FnOk P w K mg base CX0 (k + 1) f fd ["sizes", "value"] (spD K g_p_is_rule) := fn_d F sc_p_is_rule fun cdv A outer s H E hr =>
  (dss_one (ds_ret (de_and (xc G_p_is_tuple_of hr (by rfl) (xa_cons (de_v 1) (xa_cons de_int xa_nil))) (de_and (xc G_is_conditions hr (by rfl) (xa_cons (de_v 0) (xa_cons (xe_ix (de_v 1) de_int (fun _ _ => rfl)) xa_nil))) (de_one (xe_isi (n := "bool") (by decide) (by rfl) y_isinstance (by rfl) y_bool (by decide +kernel) (xe_ix (de_v 1) de_int (fun _ _ => rfl))))))))
theorem t_p_is_rule {P : Program} {w : World} {K : PySem.W.Frag} {mg : Str → Option Value} {base : Heap} {f : Addr} {fd : FuncData} {k : Nat} (F : Fun K "_is_rule" "_is_rule" s_p_is_rule f fd) (hb : Binds K fd ["sizes", "value"] []) (hm : mg "_is_rule" = some (.ref f))
    (y_bool : mg "bool" = none)
    (y_isinstance : mg "isinstance" = none)
    (G_is_conditions : Has P w K mg base k "is_conditions" ["sizes", "value"] (spD K g_is_conditions))
    (G_p_is_tuple_of : Has P w K mg base k "_is_tuple_of" ["value", "length"] (spD K g_p_is_tuple_of)) : Has P w K mg base (k + 1) "_is_rule" ["sizes", "value"] (spD K g_p_is_rule) := ⟨f, fd, f_p_is_rule F hb hm y_bool y_isinstance G_is_conditions G_p_is_tuple_of, hb, hm, F.kp⟩
abbrev s_p_is_rules : Stmt := top 33
theorem sc_p_is_rules : FnScope ["sizes", "value", "part"] ["sizes", "value"] (defScope s_p_is_rules) := ⟨rfl, rfl, rfl, by decide +kernel, rfl, by decide +kernel, by decide +kernel⟩
theorem f_p_is_rules {P : Program} {w : World} {K : PySem.W.Frag} {mg : Str → Option Value} {base : Heap} {f : Addr} {fd : FuncData} {k : Nat} (F : Fun K "_is_rules" "_is_rules" s_p_is_rules f fd) (hb : Binds K fd ["sizes", "value"] []) (hm : mg "_is_rules" = some (.ref f))
    (y_all : mg "all" = none)
    (y_isinstance : mg "isinstance" = none)
    (y_tuple : mg "tuple" = none)
    (G_p_is_rule : Has P w K mg base k "_is_rule" ["sizes", "value"] (spD K g_p_is_rule)) : FnOk P w K mg base CX0 (k + 1) f fd ["sizes", "value"] (spD K g_p_is_rules) := fn_d F sc_p_is_rules fun cdv A outer s H E hr =>
  (dss_one (ds_ret (de_and (xe_isi (n := "tuple") (by decide) (by rfl) y_isinstance (by rfl) y_tuple (by decide +kernel) (de_v 1)) (de_one (xcB (cd_all rfl) (by rfl) y_all (by decide +kernel) (xa_cons (xe_fr (df_lc (own := [("part", 2)]) rfl sc_p_is_rules.nd (xi_seq (de_v 1)) (blkOk_by (by kernel_rfl)) (fun _ _ _ _ _ => (dg_name 2 sc_p_is_rules.nd rfl (by first | exact Or.inl rfl | exact Or.inr rfl))) (fun _ _ _ _ _ => dts_nil) (fun _ _ _ _ _ => (xc G_p_is_rule hr (by rfl) (xa_cons (de_v 0) (xa_cons (de_v 2) xa_nil)))))) xa_nil))))))
theorem t_p_is_rules {P : Program} {w : World} {K : PySem.W.Frag} {mg : Str → Option Value} {base : Heap} {f : Addr} {fd : FuncData} {k : Nat} (F : Fun K "_is_rules" "_is_rules" s_p_is_rules f fd) (hb : Binds K fd ["sizes", "value"] []) (hm : mg "_is_rules" = some (.ref f))
    (y_all : mg "all" = none)
    (y_isinstance : mg "isinstance" = none)
    (y_tuple : mg "tuple" = none)
    (G_p_is_rule : Has P w K mg base k "_is_rule" ["sizes", "value"] (spD K g_p_is_rule)) : Has P w K mg base (k + 1) "_is_rules" ["sizes", "value"] (spD K g_p_is_rules) := ⟨f, fd, f_p_is_rules F hb hm y_all y_isinstance y_tuple G_p_is_rule, hb, hm, F.kp⟩
abbrev s_p_are_integers : Stmt := top 35
theorem sc_p_are_integers : FnScope ["values", "value"] ["values"] (defScope s_p_are_integers) := ⟨rfl, rfl, rfl, by decide +kernel, rfl, by decide +kernel, by decide +kernel⟩
theorem f_p_are_integers {P : Program} {w : World} {K : PySem.W.Frag} {mg : Str → Option Value} {base : Heap} {f : Addr} {fd : FuncData} {k : Nat} (F : Fun K "_are_integers" "_are_integers" s_p_are_integers f fd) (hb : Binds K fd ["values"] []) (hm : mg "_are_integers" = some (.ref f))
    (y_all : mg "all" = none)
    (G_is_integer : Has P w K mg base k "is_integer" ["value"] (spD K g_is_integer)) : FnOk P w K mg base CX0 (k + 1) f fd ["values"] (spD K g_p_are_integers) := fn_d F sc_p_are_integers fun cdv A outer s H E hr =>
  (dss_one (ds_ret (xcB (cd_all rfl) (by rfl) y_all (by decide +kernel) (xa_cons (xe_fr (df_lc (own := [("value", 1)]) rfl sc_p_are_integers.nd (xi_seq (de_v 0)) (blkOk_by (by kernel_rfl)) (fun _ _ _ _ _ => (dg_name 1 sc_p_are_integers.nd rfl (by first | exact Or.inl rfl | exact Or.inr rfl))) (fun _ _ _ _ _ => dts_nil) (fun _ _ _ _ _ => (xc G_is_integer hr (by rfl) (xa_cons (de_v 1) xa_nil))))) xa_nil))))
theorem t_p_are_integers {P : Program} {w : World} {K : PySem.W.Frag} {mg : Str → Option Value} {base : Heap} {f : Addr} {fd : FuncData} {k : Nat} (F : Fun K "_are_integers" "_are_integers" s_p_are_integers f fd) (hb : Binds K fd ["values"] []) (hm : mg "_are_integers" = some (.ref f))
    (y_all : mg "all" = none)
    (G_is_integer : Has P w K mg base k "is_integer" ["value"] (spD K g_is_integer)) : Has P w K mg base (k + 1) "_are_integers" ["values"] (spD K g_p_are_integers) := ⟨f, fd, f_p_are_integers F hb hm y_all G_is_integer, hb, hm, F.kp⟩
abbrev s_p_is_weights : Stmt := top 34
theorem sc_p_is_weights : FnScope ["sizes", "value", "at"] ["sizes", "value"] (defScope s_p_is_weights) := ⟨rfl, rfl, rfl, by decide +kernel, rfl, by decide +kernel, by decide +kernel⟩
theorem f_p_is_weights {P : Program} {w : World} {K : PySem.W.Frag} {mg : Str → Option Value} {base : Heap} {f : Addr} {fd : FuncData} {k : Nat} (F : Fun K "_is_weights" "_is_weights" s_p_is_weights f fd) (hb : Binds K fd ["sizes", "value"] []) (hm : mg "_is_weights" = some (.ref f))
    (y_all : mg "all" = none)
    (y_len : mg "len" = none)
    (y_range : mg "range" = none)
    (G_p_is_tuple_of : Has P w K mg base k "_is_tuple_of" ["value", "length"] (spD K g_p_is_tuple_of))
    (G_p_are_integers : Has P w K mg base k "_are_integers" ["values"] (spD K g_p_are_integers)) : FnOk P w K mg base CX0 (k + 1) f fd ["sizes", "value"] (spD K g_p_is_weights) := fn_d F sc_p_is_weights fun cdv A outer s H E hr =>
  (dss_cons (ds_if (xt_not (xt_tru (xc G_p_is_tuple_of hr (by rfl) (xa_cons (de_v 1) (xa_cons (xcB cd_len (by rfl) y_len (by decide +kernel) (xa_cons (de_v 0) xa_nil)) xa_nil)))))
    (dss_one (ds_ret de_bl))
    dss_nil)
  (dss_one (ds_ret (xcB (cd_all rfl) (by rfl) y_all (by decide +kernel) (xa_cons (xe_fr (df_lc (own := [("at", 2)]) rfl sc_p_is_weights.nd (xi_range1 (by rfl) y_range (xa_cons (xcB cd_len (by rfl) y_len (by decide +kernel) (xa_cons (de_v 0) xa_nil)) xa_nil)) (blkOk_by (by kernel_rfl)) (fun _ _ _ _ _ => (dg_name 2 sc_p_is_weights.nd rfl (by first | exact Or.inl rfl | exact Or.inr rfl))) (fun _ _ _ _ _ => dts_nil) (fun _ _ _ _ _ => (de_and (xc G_p_is_tuple_of hr (by rfl) (xa_cons (xe_ix (de_v 1) (de_v 2) (fun _ _ => rfl)) (xa_cons (xe_ix (de_v 0) (de_v 2) (fun _ _ => rfl)) xa_nil))) (de_one (xc G_p_are_integers hr (by rfl) (xa_cons (xe_ix (de_v 1) (de_v 2) (fun _ _ => rfl)) xa_nil))))))) xa_nil)))))
theorem t_p_is_weights {P : Program} {w : World} {K : PySem.W.Frag} {mg : Str → Option Value} {base : Heap} {f : Addr} {fd : FuncData} {k : Nat} (F : Fun K "_is_weights" "_is_weights" s_p_is_weights f fd) (hb : Binds K fd ["sizes", "value"] []) (hm : mg "_is_weights" = some (.ref f))
    (y_all : mg "all" = none)
    (y_len : mg "len" = none)
    (y_range : mg "range" = none)
    (G_p_is_tuple_of : Has P w K mg base k "_is_tuple_of" ["value", "length"] (spD K g_p_is_tuple_of))
    (G_p_are_integers : Has P w K mg base k "_are_integers" ["values"] (spD K g_p_are_integers)) : Has P w K mg base (k + 1) "_is_weights" ["sizes", "value"] (spD K g_p_is_weights) := ⟨f, fd, f_p_is_weights F hb hm y_all y_len y_range G_p_is_tuple_of G_p_are_integers, hb, hm, F.kp⟩
abbrev s_p_is_long_form_outside : Stmt := top 28
theorem sc_p_is_long_form_outside : FnScope ["sizes", "word", "part", "second_part"] ["sizes", "word", "part", "second_part"] (defScope s_p_is_long_form_outside) := ⟨rfl, rfl, rfl, by decide +kernel, rfl, by decide +kernel, by decide +kernel⟩
theorem f_p_is_long_form_outside {P : Program} {w : World} {K : PySem.W.Frag} {mg : Str → Option Value} {base : Heap} {f : Addr} {fd : FuncData} {k : Nat} (F : Fun K "_is_long_form_outside" "_is_long_form_outside" s_p_is_long_form_outside f fd) (hb : Binds K fd ["sizes", "word", "part", "second_part"] []) (hm : mg "_is_long_form_outside" = some (.ref f))
    (y_bool : mg "bool" = none)
    (y_isinstance : mg "isinstance" = none)
    (y_len : mg "len" = none)
    (G_is_integer : Has P w K mg base k "is_integer" ["value"] (spD K g_is_integer))
    (G_is_integer_below : Has P w K mg base k "is_integer_below" ["value", "limit"] (spD K g_is_integer_below))
    (G_p_is_tuple_of : Has P w K mg base k "_is_tuple_of" ["value", "length"] (spD K g_p_is_tuple_of))
    (G_p_is_test : Has P w K mg base k "_is_test" ["sizes", "field", "values"] (spD K g_p_is_test))
    (G_p_is_rules : Has P w K mg base k "_is_rules" ["sizes", "value"] (spD K g_p_is_rules))
    (G_p_is_weights : Has P w K mg base k "_is_weights" ["sizes", "value"] (spD K g_p_is_weights)) : FnOk P w K mg base CX0 (k + 1) f fd ["sizes", "word", "part", "second_part"] (spD K g_p_is_long_form_outside) := fn_d F sc_p_is_long_form_outside fun cdv A outer s H E hr =>
  (dss_cons (ds_if (xt_cmp (opd_eq hr) (de_v 1) de_str (nomark _))
    (dss_one (ds_ret (xc G_p_is_test hr (by rfl) (xa_cons (de_v 0) (xa_cons (de_v 2) (xa_cons (de_v 3) xa_nil))))))
    dss_nil)
  (dss_cons (ds_if (xt_cmp (opd_eq hr) (de_v 1) de_str (nomark _))
    (dss_one (ds_ret (de_and (xc G_is_integer_below hr (by rfl) (xa_cons (de_v 2) (xa_cons (xcB cd_len (by rfl) y_len (by decide +kernel) (xa_cons (de_v 0) xa_nil)) xa_nil))) (de_one (xc G_p_is_tuple_of hr (by rfl) (xa_cons (de_v 3) (xa_cons (xe_ix (de_v 0) (de_v 2) (fun _ _ => rfl)) xa_nil)))))))
    dss_nil)
  (dss_cons (ds_if (xt_cmp (opd_eq hr) (de_v 1) de_str (nomark _))
    (dss_one (ds_ret (de_and (xc G_p_is_rules hr (by rfl) (xa_cons (de_v 0) (xa_cons (de_v 2) xa_nil))) (de_one (xe_isi (n := "bool") (by decide) (by rfl) y_isinstance (by rfl) y_bool (by decide +kernel) (de_v 3))))))
    dss_nil)
  (dss_one (ds_ret (de_and (xe_cmp (opd_eq hr) (de_v 1) de_str (nomark _)) (de_and (xc G_p_is_weights hr (by rfl) (xa_cons (de_v 0) (xa_cons (de_v 2) xa_nil))) (de_one (xc G_is_integer hr (by rfl) (xa_cons (de_v 3) xa_nil))))))))))
theorem t_p_is_long_form_outside {P : Program} {w : World} {K : PySem.W.Frag} {mg : Str → Option Value} {base : Heap} {f : Addr} {fd : FuncData} {k : Nat} (F : Fun K "_is_long_form_outside" "_is_long_form_outside" s_p_is_long_form_outside f fd) (hb : Binds K fd ["sizes", "word", "part", "second_part"] []) (hm : mg "_is_long_form_outside" = some (.ref f))
    (y_bool : mg "bool" = none)
    (y_isinstance : mg "isinstance" = none)
    (y_len : mg "len" = none)
    (G_is_integer : Has P w K mg base k "is_integer" ["value"] (spD K g_is_integer))
    (G_is_integer_below : Has P w K mg base k "is_integer_below" ["value", "limit"] (spD K g_is_integer_below))
    (G_p_is_tuple_of : Has P w K mg base k "_is_tuple_of" ["value", "length"] (spD K g_p_is_tuple_of))
    (G_p_is_test : Has P w K mg base k "_is_test" ["sizes", "field", "values"] (spD K g_p_is_test))
    (G_p_is_rules : Has P w K mg base k "_is_rules" ["sizes", "value"] (spD K g_p_is_rules))
    (G_p_is_weights : Has P w K mg base k "_is_weights" ["sizes", "value"] (spD K g_p_is_weights)) : Has P w K mg base (k + 1) "_is_long_form_outside" ["sizes", "word", "part", "second_part"] (spD K g_p_is_long_form_outside) := ⟨f, fd, f_p_is_long_form_outside F hb hm y_bool y_isinstance y_len G_is_integer G_is_integer_below G_p_is_tuple_of G_p_is_test G_p_is_rules G_p_is_weights, hb, hm, F.kp⟩
abbrev s_p_is_form_outside : Stmt := top 26
theorem sc_p_is_form_outside : FnScope ["sizes", "value"] ["sizes", "value"] (defScope s_p_is_form_outside) := ⟨rfl, rfl, rfl, by decide +kernel, rfl, by decide +kernel, by decide +kernel⟩
theorem f_p_is_form_outside {P : Program} {w : World} {K : PySem.W.Frag} {mg : Str → Option Value} {base : Heap} {f : Addr} {fd : FuncData} {k : Nat} (F : Fun K "_is_form_outside" "_is_form_outside" s_p_is_form_outside f fd) (hb : Binds K fd ["sizes", "value"] []) (hm : mg "_is_form_outside" = some (.ref f))
    (y_isinstance : mg "isinstance" = none)
    (y_len : mg "len" = none)
    (y_str : mg "str" = none)
    (y_tuple : mg "tuple" = none)
    (G_p_is_short_form_outside : Has P w K mg base k "_is_short_form_outside" ["sizes", "word", "part"] (spD K g_p_is_short_form_outside))
    (G_p_is_long_form_outside : Has P w K mg base k "_is_long_form_outside" ["sizes", "word", "part", "second_part"] (spD K g_p_is_long_form_outside)) : FnOk P w K mg base CX0 (k + 1) f fd ["sizes", "value"] (spD K g_p_is_form_outside) := fn_d F sc_p_is_form_outside fun cdv A outer s H E hr =>
  (dss_cons (ds_if (DW.pt (dw_or (xt_not (xt_tru (xe_isi (n := "tuple") (by decide) (by rfl) y_isinstance (by rfl) y_tuple (by decide +kernel) (de_v 1)))) (dw_or (xt_cmp (opd_eq hr) (xcB cd_len (by rfl) y_len (by decide +kernel) (xa_cons (de_v 1) xa_nil)) de_int (nomark _)) (dw_or1 (xt_not (xt_tru (xe_isi (n := "str") (by decide) (by rfl) y_isinstance (by rfl) y_str (by decide +kernel) (xe_ix (de_v 1) de_int (fun _ _ => rfl)))))))))
    (dss_one (ds_ret de_bl))
    dss_nil)
  (dss_cons (ds_if (xt_cmp (opd_eq hr) (xcB cd_len (by rfl) y_len (by decide +kernel) (xa_cons (de_v 1) xa_nil)) de_int (nomark _))
    (dss_one (ds_ret (xc G_p_is_short_form_outside hr (by rfl) (xa_cons (de_v 0) (xa_cons (xe_ix (de_v 1) de_int (fun _ _ => rfl)) (xa_cons (xe_ix (de_v 1) de_int (fun _ _ => rfl)) xa_nil))))))
    dss_nil)
  (dss_one (ds_ret (de_and (xe_cmp (opd_eq hr) (xcB cd_len (by rfl) y_len (by decide +kernel) (xa_cons (de_v 1) xa_nil)) de_int (nomark _)) (de_one (xc G_p_is_long_form_outside hr (by rfl) (xa_cons (de_v 0) (xa_cons (xe_ix (de_v 1) de_int (fun _ _ => rfl)) (xa_cons (xe_ix (de_v 1) de_int (fun _ _ => rfl)) (xa_cons (xe_ix (de_v 1) de_int (fun _ _ => rfl)) xa_nil)))))))))))
theorem t_p_is_form_outside {P : Program} {w : World} {K : PySem.W.Frag} {mg : Str → Option Value} {base : Heap} {f : Addr} {fd : FuncData} {k : Nat} (F : Fun K "_is_form_outside" "_is_form_outside" s_p_is_form_outside f fd) (hb : Binds K fd ["sizes", "value"] []) (hm : mg "_is_form_outside" = some (.ref f))
    (y_isinstance : mg "isinstance" = none)
    (y_len : mg "len" = none)
    (y_str : mg "str" = none)
    (y_tuple : mg "tuple" = none)
    (G_p_is_short_form_outside : Has P w K mg base k "_is_short_form_outside" ["sizes", "word", "part"] (spD K g_p_is_short_form_outside))
    (G_p_is_long_form_outside : Has P w K mg base k "_is_long_form_outside" ["sizes", "word", "part", "second_part"] (spD K g_p_is_long_form_outside)) : Has P w K mg base (k + 1) "_is_form_outside" ["sizes", "value"] (spD K g_p_is_form_outside) := ⟨f, fd, f_p_is_form_outside F hb hm y_isinstance y_len y_str y_tuple G_p_is_short_form_outside G_p_is_long_form_outside, hb, hm, F.kp⟩
abbrev s_has_form_shape : Stmt := top 23
theorem sc_has_form_shape : FnScope ["sizes", "value", "left", "part"] ["sizes", "value"] (defScope s_has_form_shape) := ⟨rfl, rfl, rfl, by decide +kernel, rfl, by decide +kernel, by decide +kernel⟩
theorem f_has_form_shape {P : Program} {w : World} {K : PySem.W.Frag} {mg : Str → Option Value} {base : Heap} {f : Addr} {fd : FuncData} {k : Nat} (F : Fun K "has_form_shape" "has_form_shape" s_has_form_shape f fd) (hb : Binds K fd ["sizes", "value"] []) (hm : mg "has_form_shape" = some (.ref f))
    (G_inner_forms : Has P w K mg base k "inner_forms" ["form"] (spD K g_inner_forms))
    (G_p_is_form_outside : Has P w K mg base k "_is_form_outside" ["sizes", "value"] (spD K g_p_is_form_outside)) : FnOk P w K mg base CX0 (k + 1) f fd ["sizes", "value"] (spD K g_has_form_shape) := fn_d F sc_has_form_shape fun cdv A outer s H E hr =>
  (dss_cons (ds_own (i := 2) sc_has_form_shape.nd rfl (by first | exact Or.inl rfl | exact Or.inr rfl) (xf_lst (xa_cons (de_v 1) xa_nil)))
  (dss_cons (ds_while WH PassesOwn.never (dt_truO 2)
    (dss_cons (ds_set (i := 3) sc_has_form_shape.nd rfl (by first | exact Or.inl rfl | exact Or.inr rfl) (de_pop 2 (hpe := pe_bm0 PySem.F.plainAttrs_list PySem.F.slot_list_pop PySem.F.type_list_pop mt_pop (pv 2))))
  (dss_cons (ds_if (xt_not (xt_tru (xc G_p_is_form_outside hr (by rfl) (xa_cons (de_v 0) (xa_cons (de_v 3) xa_nil)))))
    (dss_one (ds_ret de_bl))
    dss_nil)
  (dss_one (ds_ext 2 (te := _) (fun _ _ _ _ h => h) (ps_expr (pe_bm PySem.F.plainAttrs_list PySem.F.slot_list_extend PySem.F.type_list_extend mt_extendA (pv 2) (pa_cons ((show DE _ _ _ _ _ from (xc G_inner_forms hr (by rfl) (xa_cons (de_v 3) xa_nil))).pe rfl) pa_nil))))))))
  (dss_one (ds_ret de_bl))))
theorem t_has_form_shape {P : Program} {w : World} {K : PySem.W.Frag} {mg : Str → Option Value} {base : Heap} {f : Addr} {fd : FuncData} {k : Nat} (F : Fun K "has_form_shape" "has_form_shape" s_has_form_shape f fd) (hb : Binds K fd ["sizes", "value"] []) (hm : mg "has_form_shape" = some (.ref f))
    (G_inner_forms : Has P w K mg base k "inner_forms" ["form"] (spD K g_inner_forms))
    (G_p_is_form_outside : Has P w K mg base k "_is_form_outside" ["sizes", "value"] (spD K g_p_is_form_outside)) : Has P w K mg base (k + 1) "has_form_shape" ["sizes", "value"] (spD K g_has_form_shape) := ⟨f, fd, f_has_form_shape F hb hm G_inner_forms G_p_is_form_outside, hb, hm, F.kp⟩
abbrev s_check_form : Stmt := top 38
theorem sc_check_form : FnScope ["sizes", "form"] ["sizes", "form"] (defScope s_check_form) := ⟨rfl, rfl, rfl, by decide +kernel, rfl, by decide +kernel, by decide +kernel⟩
theorem f_check_form {P : Program} {w : World} {K : PySem.W.Frag} {mg : Str → Option Value} {base : Heap} {f : Addr} {fd : FuncData} {k : Nat} (F : Fun K "check_form" "check_form" s_check_form f fd) (hb : Binds K fd ["sizes", "form"] []) (hm : mg "check_form" = some (.ref f))
    (G_has_form_shape : Has P w K mg base k "has_form_shape" ["sizes", "value"] (spD K g_has_form_shape)) : FnOk P w K mg base CX0 (k + 1) f fd ["sizes", "form"] (spD K g_check_form) := fn_d F sc_check_form fun cdv A outer s H E hr =>
  (dss_one (ds_if (xt_not (xt_tru (xc G_has_form_shape hr (by rfl) (xa_cons (de_v 0) (xa_cons (de_v 1) xa_nil)))))
    (dss_one xs_no)
    dss_nil))
theorem t_check_form {P : Program} {w : World} {K : PySem.W.Frag} {mg : Str → Option Value} {base : Heap} {f : Addr} {fd : FuncData} {k : Nat} (F : Fun K "check_form" "check_form" s_check_form f fd) (hb : Binds K fd ["sizes", "form"] []) (hm : mg "check_form" = some (.ref f))
    (G_has_form_shape : Has P w K mg base k "has_form_shape" ["sizes", "value"] (spD K g_has_form_shape)) : Has P w K mg base (k + 1) "check_form" ["sizes", "form"] (spD K g_check_form) := ⟨f, fd, f_check_form F hb hm G_has_form_shape, hb, hm, F.kp⟩
abbrev s_check_tree : Stmt := top 43
theorem sc_check_tree : FnScope ["sizes", "tree"] ["sizes", "tree"] (defScope s_check_tree) := ⟨rfl, rfl, rfl, by decide +kernel, rfl, by decide +kernel, by decide +kernel⟩
theorem f_check_tree {P : Program} {w : World} {K : PySem.W.Frag} {mg : Str → Option Value} {base : Heap} {f : Addr} {fd : FuncData} {k : Nat} (F : Fun K "check_tree" "check_tree" s_check_tree f fd) (hb : Binds K fd ["sizes", "tree"] []) (hm : mg "check_tree" = some (.ref f))
    (G_has_plain_words : Has P w K mg base k "has_plain_words" ["form"] (spD K g_has_plain_words))
    (G_check_form : Has P w K mg base k "check_form" ["sizes", "form"] (spD K g_check_form)) : FnOk P w K mg base CX0 (k + 1) f fd ["sizes", "tree"] (spD K g_check_tree) := fn_d F sc_check_tree fun cdv A outer s H E hr =>
  (dss_cons (ds_expr (xc G_check_form hr (by rfl) (xa_cons (de_v 0) (xa_cons (de_v 1) xa_nil))))
  (dss_one (ds_if (xt_not (xt_tru (xc G_has_plain_words hr (by rfl) (xa_cons (de_v 1) xa_nil))))
    (dss_one xs_no)
    dss_nil)))
theorem t_check_tree {P : Program} {w : World} {K : PySem.W.Frag} {mg : Str → Option Value} {base : Heap} {f : Addr} {fd : FuncData} {k : Nat} (F : Fun K "check_tree" "check_tree" s_check_tree f fd) (hb : Binds K fd ["sizes", "tree"] []) (hm : mg "check_tree" = some (.ref f))
    (G_has_plain_words : Has P w K mg base k "has_plain_words" ["form"] (spD K g_has_plain_words))
    (G_check_form : Has P w K mg base k "check_form" ["sizes", "form"] (spD K g_check_form)) : Has P w K mg base (k + 1) "check_tree" ["sizes", "tree"] (spD K g_check_tree) := ⟨f, fd, f_check_tree F hb hm G_has_plain_words G_check_form, hb, hm, F.kp⟩
abbrev s_tested : Stmt := top 39
theorem sc_tested : FnScope ["field", "branches"] ["field", "branches"] (defScope s_tested) := ⟨rfl, rfl, rfl, by decide +kernel, rfl, by decide +kernel, by decide +kernel⟩
theorem t_tested {P : Program} {w : World} {K : PySem.W.Frag} {mg : Str → Option Value} {base : Heap} {f : Addr} {fd : FuncData} {k : Nat} (F : Fun K "tested" "tested" s_tested f fd) (hb : Binds K fd ["field", "branches"] []) (hm : mg "tested" = some (.ref f))
    (y_len : mg "len" = none) : Has P w K mg base (k + 1) "tested" ["field", "branches"] (spT K g_tested) := def_t F sc_tested hb hm rfl fun cdv A outer s H E hr =>
  (pss_consK rfl (ps_ifK rfl (pt_cmpK rfl (opd_eq hr) (pe_countT 1 hr rfl (xa_cons (xe_ix (de_v 1) de_int (fun _ _ => rfl)) xa_nil)) (xcB cd_len (by rfl) y_len (by decide +kernel) (xa_cons (de_v 1) xa_nil)) (nomark _)) (dss_one (ds_ret (xe_ix (de_v 1) de_int (fun _ _ => rfl)))) dss_nil) (dss_one (ds_ret (xe_tup (xa_cons de_str (xa_cons (de_v 0) (xa_cons (de_v 1) xa_nil)))))))
abbrev s_p_with_value_33504 : Stmt := top 46
theorem sc_p_with_value_33504 : FnScope ["half", "field", "value"] ["half", "field", "value"] (defScope s_p_with_value_33504) := ⟨rfl, rfl, rfl, by decide +kernel, rfl, by decide +kernel, by decide +kernel⟩
theorem f_p_with_value_33504 {P : Program} {w : World} {K : PySem.W.Frag} {mg : Str → Option Value} {base : Heap} {f : Addr} {fd : FuncData} {k : Nat} (F : Fun K "_with_value" "_with_value" s_p_with_value_33504 f fd) (hb : Binds K fd ["half", "field", "value"] []) (hm : mg "_with_value" = some (.ref f))
     : FnOk P w K mg base CX0 (k + 1) f fd ["half", "field", "value"] (spD K g_p_with_value_33504) := fn_d F sc_p_with_value_33504 fun cdv A outer s H E hr =>
  (dss_one (ds_ret (xe_fr (xf_lst (da_star (xe_fr (xf_slice (de_v 0) xo_none (xo_some (de_v 1)))) (xa_cons (de_v 2) (da_star (xe_fr (xf_slice (de_v 0) (xo_some (xe_op opd_add (de_v 1) de_int)) xo_none)) xa_nil)))))))
theorem t_p_with_value_33504 {P : Program} {w : World} {K : PySem.W.Frag} {mg : Str → Option Value} {base : Heap} {f : Addr} {fd : FuncData} {k : Nat} (F : Fun K "_with_value" "_with_value" s_p_with_value_33504 f fd) (hb : Binds K fd ["half", "field", "value"] []) (hm : mg "_with_value" = some (.ref f))
     : Has P w K mg base (k + 1) "_with_value" ["half", "field", "value"] (spD K g_p_with_value_33504) := ⟨f, fd, f_p_with_value_33504 F hb hm , hb, hm, F.kp⟩
abbrev s_p_trim_below_8c2fe : Stmt := top 44
theorem sc_p_trim_below_8c2fe : FnScope ["tree", "half", "field", "branches", "values", "value"] ["tree", "half"] (defScope s_p_trim_below_8c2fe) := ⟨rfl, rfl, rfl, by decide +kernel, rfl, by decide +kernel, by decide +kernel⟩
theorem t_p_trim_below_8c2fe {P : Program} {w : World} {K : PySem.W.Frag} {mg : Str → Option Value} {base : Heap} {f : Addr} {fd : FuncData} {k : Nat} (F : Fun K "_trim_below" "_trim_below" s_p_trim_below_8c2fe f fd) (hb : Binds K fd ["tree", "half"] []) (hm : mg "_trim_below" = some (.ref f))
    (y_len : mg "len" = none)
    (y_range : mg "range" = none)
    (y_tuple : mg "tuple" = none)
    (G_tested : Has P w K mg base k "tested" ["field", "branches"] (spT K g_tested))
    (G_p_with_value_33504 : Has P w K mg base k "_with_value" ["half", "field", "value"] (spD K g_p_with_value_33504)) : ∀ n, Has P w K mg base (k + n) "_trim_below" ["tree", "half"] (spD K (g_p_trim_below_8c2fe n))
  | 0 => has_none F hb hm
  | n + 1 => by
    have G_self : Has P w K mg base (k + n) "_trim_below" ["tree", "half"] (spD K (g_p_trim_below_8c2fe n)) := t_p_trim_below_8c2fe (k := k) F hb hm y_len y_range y_tuple G_tested G_p_with_value_33504 n
    have G_tested := G_tested.mono (Nat.le_add_right k n)
    have G_p_with_value_33504 := G_p_with_value_33504.mono (Nat.le_add_right k n)
    exact def_d F sc_p_trim_below_8c2fe hb hm fun cdv A outer s H E hr =>
  (dss_cons (ds_if (xt_cmp (opd_eq hr) (xe_ix (de_v 0) de_int (fun _ _ => rfl)) de_str (nomark _))
    (dss_one (ds_ret (de_v 0)))
    dss_nil)
  (dss_cons (ds_set (i := 2) sc_p_trim_below_8c2fe.nd rfl (by first | exact Or.inl rfl | exact Or.inr rfl) (xe_ix (de_v 0) de_int (fun _ _ => rfl)))
  (dss_cons (ds_set (i := 3) sc_p_trim_below_8c2fe.nd rfl (by first | exact Or.inl rfl | exact Or.inr rfl) (xe_ix (de_v 0) de_int (fun _ _ => rfl)))
  (dss_cons (ds_if (xt_cmp opd_isNot (xe_ix (de_v 1) (de_v 2) (fun _ _ => rfl)) de_non (nomark _))
    (dss_one (ds_ret (xc G_self hr (by rfl) (xa_cons (xe_ix (de_v 3) (xe_ix (de_v 1) (de_v 2) (fun _ _ => rfl)) (fun _ _ => rfl)) (xa_cons (de_v 1) xa_nil)))))
    dss_nil)
  (dss_cons (ds_rg (i := 4) sc_p_trim_below_8c2fe.nd rfl (by first | exact Or.inl rfl | exact Or.inr rfl) (by rfl) y_range (xa_cons (xcB cd_len (by rfl) y_len (by decide +kernel) (xa_cons (de_v 3) xa_nil)) xa_nil))
  (dss_one (ds_ret (dc_tested G_tested hr (by rfl) (by rfl) y_tuple (de_v 2) (xe_fr (df_lc (own := [("value", 5)]) rfl sc_p_trim_below_8c2fe.nd (xi_rgN 4) (blkOk_by (by kernel_rfl)) (fun _ _ _ _ _ => (dg_name 5 sc_p_trim_below_8c2fe.nd rfl (by first | exact Or.inl rfl | exact Or.inr rfl))) (fun _ _ _ _ _ => dts_nil) (fun _ _ _ _ _ => (xc G_self hr (by rfl) (xa_cons (xe_ix (de_v 3) (de_v 5) (fun _ _ => rfl)) (xa_cons (xc G_p_with_value_33504 hr (by rfl) (xa_cons (de_v 1) (xa_cons (de_v 2) (xa_cons (de_v 5) xa_nil)))) xa_nil))))))))))))))
abbrev s_trimmed : Stmt := top 41
theorem sc_trimmed : FnScope ["sizes", "tree"] ["sizes", "tree"] (defScope s_trimmed) := ⟨rfl, rfl, rfl, by decide +kernel, rfl, by decide +kernel, by decide +kernel⟩
theorem f_trimmed {P : Program} {w : World} {K : PySem.W.Frag} {mg : Str → Option Value} {base : Heap} {f : Addr} {fd : FuncData} {k : Nat} (F : Fun K "trimmed" "trimmed" s_trimmed f fd) (hb : Binds K fd ["sizes", "tree"] []) (hm : mg "trimmed" = some (.ref f))
    (y_len : mg "len" = none)
    (G_check_sizes : Has P w K mg base k "check_sizes" ["sizes"] (spD K g_check_sizes))
    (G_check_tree : Has P w K mg base k "check_tree" ["sizes", "tree"] (spD K g_check_tree))
    (G_p_trim_below_8c2fe : Has P w K mg base k "_trim_below" ["tree", "half"] (spD K (g_p_trim_below_8c2fe FU))) : FnOk P w K mg base CX0 (k + 1) f fd ["sizes", "tree"] (spD K g_trimmed) := fn_d F sc_trimmed fun cdv A outer s H E hr =>
  (dss_cons (ds_expr (xc G_check_sizes hr (by rfl) (xa_cons (de_v 0) xa_nil)))
  (dss_cons (ds_expr (xc G_check_tree hr (by rfl) (xa_cons (de_v 0) (xa_cons (de_v 1) xa_nil))))
  (dss_one (ds_ret (xc G_p_trim_below_8c2fe hr (by rfl) (xa_cons (de_v 1) (xa_cons (xe_fr (xf_rep (xf_lst (xa_cons de_non xa_nil)) (xcB cd_len (by rfl) y_len (by decide +kernel) (xa_cons (de_v 0) xa_nil)))) xa_nil)))))))
theorem t_trimmed {P : Program} {w : World} {K : PySem.W.Frag} {mg : Str → Option Value} {base : Heap} {f : Addr} {fd : FuncData} {k : Nat} (F : Fun K "trimmed" "trimmed" s_trimmed f fd) (hb : Binds K fd ["sizes", "tree"] []) (hm : mg "trimmed" = some (.ref f))
    (y_len : mg "len" = none)
    (G_check_sizes : Has P w K mg base k "check_sizes" ["sizes"] (spD K g_check_sizes))
    (G_check_tree : Has P w K mg base k "check_tree" ["sizes", "tree"] (spD K g_check_tree))
    (G_p_trim_below_8c2fe : Has P w K mg base k "_trim_below" ["tree", "half"] (spD K (g_p_trim_below_8c2fe FU))) : Has P w K mg base (k + 1) "trimmed" ["sizes", "tree"] (spD K g_trimmed) := ⟨f, fd, f_trimmed F hb hm y_len G_check_sizes G_check_tree G_p_trim_below_8c2fe, hb, hm, F.kp⟩
abbrev s_p_graft_below : Stmt := top 45
theorem sc_p_graft_below : FnScope ["tree", "upper", "lower", "branch"] ["tree", "upper", "lower"] (defScope s_p_graft_below) := ⟨rfl, rfl, rfl, by decide +kernel, rfl, by decide +kernel, by decide +kernel⟩
theorem t_p_graft_below {P : Program} {w : World} {K : PySem.W.Frag} {mg : Str → Option Value} {base : Heap} {f : Addr} {fd : FuncData} {k : Nat} (F : Fun K "_graft_below" "_graft_below" s_p_graft_below f fd) (hb : Binds K fd ["tree", "upper", "lower"] []) (hm : mg "_graft_below" = some (.ref f))
    (y_tuple : mg "tuple" = none) : ∀ n, Has P w K mg base (k + n) "_graft_below" ["tree", "upper", "lower"] (spD K (g_p_graft_below n))
  | 0 => has_none F hb hm
  | n + 1 => by
    have G_self : Has P w K mg base (k + n) "_graft_below" ["tree", "upper", "lower"] (spD K (g_p_graft_below n)) := t_p_graft_below (k := k) F hb hm y_tuple n
    skip
    exact def_d F sc_p_graft_below hb hm fun cdv A outer s H E hr =>
  (dss_cons (ds_if (xt_cmp (opd_eq hr) (xe_ix (de_v 0) de_int (fun _ _ => rfl)) de_str (nomark _))
    (dss_one (ds_ret (de_if (xt_tru (xe_ix (de_v 0) de_int (fun _ _ => rfl))) (de_v 1) (de_v 2))))
    dss_nil)
  (dss_one (ds_ret (xe_tup (xa_cons de_str (xa_cons (xe_ix (de_v 0) de_int (fun _ _ => rfl)) (xa_cons (xcT cd_tuple (by rfl) y_tuple (by decide +kernel) (xa_cons (xe_fr (df_lc (own := [("branch", 3)]) rfl sc_p_graft_below.nd (xi_seq (xe_ix (de_v 0) de_int (fun _ _ => rfl))) (blkOk_by (by kernel_rfl)) (fun _ _ _ _ _ => (dg_name 3 sc_p_graft_below.nd rfl (by first | exact Or.inl rfl | exact Or.inr rfl))) (fun _ _ _ _ _ => dts_nil) (fun _ _ _ _ _ => (xc G_self hr (by rfl) (xa_cons (de_v 3) (xa_cons (de_v 1) (xa_cons (de_v 2) xa_nil))))))) xa_nil)) xa_nil)))))))
abbrev s_grafted : Stmt := top 42
theorem sc_grafted : FnScope ["sizes", "tree", "upper", "lower"] ["sizes", "tree", "upper", "lower"] (defScope s_grafted) := ⟨rfl, rfl, rfl, by decide +kernel, rfl, by decide +kernel, by decide +kernel⟩
theorem f_grafted {P : Program} {w : World} {K : PySem.W.Frag} {mg : Str → Option Value} {base : Heap} {f : Addr} {fd : FuncData} {k : Nat} (F : Fun K "grafted" "grafted" s_grafted f fd) (hb : Binds K fd ["sizes", "tree", "upper", "lower"] []) (hm : mg "grafted" = some (.ref f))
    (y_len : mg "len" = none)
    (G_check_sizes : Has P w K mg base k "check_sizes" ["sizes"] (spD K g_check_sizes))
    (G_check_tree : Has P w K mg base k "check_tree" ["sizes", "tree"] (spD K g_check_tree))
    (G_p_trim_below_8c2fe : Has P w K mg base k "_trim_below" ["tree", "half"] (spD K (g_p_trim_below_8c2fe FU)))
    (G_p_graft_below : Has P w K mg base k "_graft_below" ["tree", "upper", "lower"] (spD K (g_p_graft_below FU))) : FnOk P w K mg base CX0 (k + 1) f fd ["sizes", "tree", "upper", "lower"] (spD K g_grafted) := fn_d F sc_grafted fun cdv A outer s H E hr =>
  (dss_cons (ds_expr (xc G_check_sizes hr (by rfl) (xa_cons (de_v 0) xa_nil)))
  (dss_cons (ds_expr (xc G_check_tree hr (by rfl) (xa_cons (de_v 0) (xa_cons (de_v 1) xa_nil))))
  (dss_cons (ds_expr (xc G_check_tree hr (by rfl) (xa_cons (de_v 0) (xa_cons (de_v 2) xa_nil))))
  (dss_cons (ds_expr (xc G_check_tree hr (by rfl) (xa_cons (de_v 0) (xa_cons (de_v 3) xa_nil))))
  (dss_one (ds_ret (xc G_p_trim_below_8c2fe hr (by rfl) (xa_cons (xc G_p_graft_below hr (by rfl) (xa_cons (de_v 1) (xa_cons (de_v 2) (xa_cons (de_v 3) xa_nil)))) (xa_cons (xe_fr (xf_rep (xf_lst (xa_cons de_non xa_nil)) (xcB cd_len (by rfl) y_len (by decide +kernel) (xa_cons (de_v 0) xa_nil)))) xa_nil)))))))))
theorem t_grafted {P : Program} {w : World} {K : PySem.W.Frag} {mg : Str → Option Value} {base : Heap} {f : Addr} {fd : FuncData} {k : Nat} (F : Fun K "grafted" "grafted" s_grafted f fd) (hb : Binds K fd ["sizes", "tree", "upper", "lower"] []) (hm : mg "grafted" = some (.ref f))
    (y_len : mg "len" = none)
    (G_check_sizes : Has P w K mg base k "check_sizes" ["sizes"] (spD K g_check_sizes))
    (G_check_tree : Has P w K mg base k "check_tree" ["sizes", "tree"] (spD K g_check_tree))
    (G_p_trim_below_8c2fe : Has P w K mg base k "_trim_below" ["tree", "half"] (spD K (g_p_trim_below_8c2fe FU)))
    (G_p_graft_below : Has P w K mg base k "_graft_below" ["tree", "upper", "lower"] (spD K (g_p_graft_below FU))) : Has P w K mg base (k + 1) "grafted" ["sizes", "tree", "upper", "lower"] (spD K g_grafted) := ⟨f, fd, f_grafted F hb hm y_len G_check_sizes G_check_tree G_p_trim_below_8c2fe G_p_graft_below, hb, hm, F.kp⟩
abbrev s_law_bag_0df30 : Stmt := top 48
theorem sc_law_bag_0df30 : FnScope ["cell", "rest"] ["cell"] (defScope s_law_bag_0df30) := ⟨rfl, rfl, rfl, by decide +kernel, rfl, by decide +kernel, by decide +kernel⟩
theorem t_q_law_bag_0df30 {P : Program} {w : World} {K : PySem.W.Frag} {mg : Str → Option Value} {base : Heap} {f : Addr} {fd : FuncData} {k : Nat} (F : Fun K "_law_bag" "_law_bag" s_law_bag_0df30 f fd) (hb : Binds K fd ["cell"] []) (hm : mg "_law_bag" = some (.ref f))
    (y_int : mg "int" = none) : Has P w K mg base (k + 1) "_law_bag" ["cell"] (spQ K g_q_law_bag_0df30) := def_q F sc_law_bag_0df30 hb hm fun cdv A outer s H E hr =>
  (dss_cons (ds_set (i := 1) sc_law_bag_0df30.nd rfl (by first | exact Or.inl rfl | exact Or.inr rfl) de_int)
  (dss_cons (ds_if (xt_cmp opd_ge (de_v 0) (xe_op opd_pow de_int de_int) (nomark _))
    (dss_one (ds_set (i := 1) sc_law_bag_0df30.nd rfl (by first | exact Or.inl rfl | exact Or.inr rfl) (xe_op opd_sub (de_v 0) (xe_op opd_pow de_int de_int))))
    dss_nil)
  (dss_one (ds_retF (xf_lst (xa_cons (de_v 1) (xa_cons (xe_op opd_mod (xcT cd_int (by rfl) y_int (by decide +kernel) (xa_cons (de_v 0) xa_nil)) de_int) (xa_cons de_int xa_nil))))))))
abbrev s_law_draw_80bbd : Stmt := top 49
theorem sc_law_draw_80bbd : FnScope ["bag", "many", "digit", "turn", "mixed"] ["bag", "many"] (defScope s_law_draw_80bbd) := ⟨rfl, rfl, rfl, by decide +kernel, rfl, by decide +kernel, by decide +kernel⟩
theorem t_law_draw_80bbd {P : Program} {w : World} {K : PySem.W.Frag} {mg : Str → Option Value} {base : Heap} {f : Addr} {fd : FuncData} {k : Nat} (F : Fun K "_law_draw" "_law_draw" s_law_draw_80bbd f fd) (hb : Binds K fd ["bag", "many"] []) (hm : mg "_law_draw" = some (.ref f))
    (y_int : mg "int" = none) : Has P w K mg base (k + 1) "_law_draw" ["bag", "many"] (spM K g_law_draw_80bbd) := def_m F sc_law_draw_80bbd hb hm fun cdv A outer s H E hr =>
  (dss_cons (ds_if (xt_cmp opd_gt (de_ixO 0 de_int (fun _ _ => rfl)) de_int (nomark _))
    (dss_cons (ds_set (i := 2) sc_law_draw_80bbd.nd rfl (by first | exact Or.inl rfl | exact Or.inr rfl) (xe_op opd_mod (xcT cd_int (by rfl) y_int (by decide +kernel) (xa_cons (de_ixO 0 de_int (fun _ _ => rfl)) xa_nil)) (de_v 1)))
  (dss_cons (ds_putIx 0 (xe_op opd_div (de_ixO 0 de_int (fun _ _ => rfl)) (de_v 1)) de_int)
  (dss_one (ds_ret (de_v 2)))))
    dss_nil)
  (dss_cons (ds_putIx 0 (xe_op opd_add (de_ixO 0 de_int (fun _ _ => rfl)) de_int) de_int)
  (dss_cons (ds_set (i := 3) sc_law_draw_80bbd.nd rfl (by first | exact Or.inl rfl | exact Or.inr rfl) (de_ixO 0 de_int (fun _ _ => rfl)))
  (dss_cons (ds_set (i := 4) sc_law_draw_80bbd.nd rfl (by first | exact Or.inl rfl | exact Or.inr rfl) (xe_op opd_add (xe_op opd_mul (xe_op opd_add (de_ixO 0 de_int (fun _ _ => rfl)) de_int) (xe_op opd_add (xe_op opd_add (xe_op opd_mul (xe_op opd_mul de_int (de_v 3)) (de_v 3)) (xe_op opd_mul de_int (de_v 3))) de_int)) (xe_op opd_mul de_int (de_v 3))))
  (dss_cons (ds_set (i := 4) sc_law_draw_80bbd.nd rfl (by first | exact Or.inl rfl | exact Or.inr rfl) (xe_op opd_div (xe_op opd_mod (xcT cd_int (by rfl) y_int (by decide +kernel) (xa_cons (xe_op opd_add (xe_op opd_mul (de_v 4) (de_v 4)) (xe_op opd_mul de_int (de_v 4))) xa_nil)) de_int) de_int))
  (dss_one (ds_ret (xe_op opd_mod (xe_op opd_div (xe_op opd_mod (xcT cd_int (by rfl) y_int (by decide +kernel) (xa_cons (xe_op opd_add (xe_op opd_add (xe_op opd_mul (de_v 4) (de_v 4)) (xe_op opd_mul de_int (de_v 4))) (de_v 3)) xa_nil)) de_int) de_int) (de_v 1)))))))))
abbrev s_law_sheet_490db : Stmt := top 51
theorem sc_law_sheet_490db : FnScope ["bag", "shape", "many", "k"] ["bag"] (defScope s_law_sheet_490db) := ⟨rfl, rfl, rfl, by decide +kernel, rfl, by decide +kernel, by decide +kernel⟩
theorem t_law_sheet_490db {P : Program} {w : World} {K : PySem.W.Frag} {mg : Str → Option Value} {base : Heap} {f : Addr} {fd : FuncData} {k : Nat} (F : Fun K "_law_sheet" "_law_sheet" s_law_sheet_490db f fd) (hb : Binds K fd ["bag"] []) (hm : mg "_law_sheet" = some (.ref f))
    (y_range : mg "range" = none)
    (G_law_draw_80bbd : Has P w K mg base k "_law_draw" ["bag", "many"] (spM K g_law_draw_80bbd)) : Has P w K mg base (k + 1) "_law_sheet" ["bag"] (spM K g_law_sheet_490db) := def_m F sc_law_sheet_490db hb hm fun cdv A outer s H E hr =>
  (dss_cons (ds_set (i := 1) sc_law_sheet_490db.nd rfl (by first | exact Or.inl rfl | exact Or.inr rfl) (dcM 0 G_law_draw_80bbd hr (by rfl) (xa_cons de_int xa_nil)))
  (dss_cons (ds_set (i := 2) sc_law_sheet_490db.nd rfl (by first | exact Or.inl rfl | exact Or.inr rfl) de_int)
  (dss_cons (ds_if (xt_cmp (opd_eq hr) (de_v 1) de_int (nomark _))
    (dss_one (ds_set (i := 2) sc_law_sheet_490db.nd rfl (by first | exact Or.inl rfl | exact Or.inr rfl) (dcM 0 G_law_draw_80bbd hr (by rfl) (xa_cons de_int xa_nil))))
    (dss_one (ds_if (xt_cmp opd_gt (de_v 1) de_int (nomark _))
    (dss_one (ds_set (i := 2) sc_law_sheet_490db.nd rfl (by first | exact Or.inl rfl | exact Or.inr rfl) (dcM 0 G_law_draw_80bbd hr (by rfl) (xa_cons de_int xa_nil))))
    dss_nil)))
  (dss_one (ds_ret (xe_fr (df_lc (own := [("k", 3)]) rfl sc_law_sheet_490db.nd (xi_range1 (by rfl) y_range (xa_cons (de_v 2) xa_nil)) (blkOk_by (by kernel_rfl)) (fun _ _ _ _ _ => (dg_name 3 sc_law_sheet_490db.nd rfl (by first | exact Or.inl rfl | exact Or.inr rfl))) (fun _ _ _ _ _ => dts_nil) (fun _ _ _ _ _ => (xe_op opd_add de_int (dcM 0 G_law_draw_80bbd hr (by rfl) (xa_cons de_int xa_nil)))))))))))
abbrev s_law_forms_3b09a : Stmt := top 52
theorem sc_law_forms_3b09a : FnScope ["tree", "branch"] ["tree"] (defScope s_law_forms_3b09a) := ⟨rfl, rfl, rfl, by decide +kernel, rfl, by decide +kernel, by decide +kernel⟩
theorem t_law_forms_3b09a {P : Program} {w : World} {K : PySem.W.Frag} {mg : Str → Option Value} {base : Heap} {f : Addr} {fd : FuncData} {k : Nat} (F : Fun K "_law_forms" "_law_forms" s_law_forms_3b09a f fd) (hb : Binds K fd ["tree"] []) (hm : mg "_law_forms" = some (.ref f))
    (y_sum : mg "sum" = none) : ∀ n, Has P w K mg base (k + n) "_law_forms" ["tree"] (spD K (g_law_forms_3b09a n))
  | 0 => has_none F hb hm
  | n + 1 => by
    have G_self : Has P w K mg base (k + n) "_law_forms" ["tree"] (spD K (g_law_forms_3b09a n)) := t_law_forms_3b09a (k := k) F hb hm y_sum n
    skip
    exact def_d F sc_law_forms_3b09a hb hm fun cdv A outer s H E hr =>
  (dss_cons (ds_if (xt_cmp (opd_eq hr) (xe_ix (de_v 0) de_int (fun _ _ => rfl)) de_str (nomark _))
    (dss_one (ds_ret de_int))
    dss_nil)
  (dss_one (ds_ret (xe_op opd_add de_int (xcB (cd_sum rfl) (by rfl) y_sum (by decide +kernel) (xa_cons (xe_fr (df_lc (own := [("branch", 1)]) rfl sc_law_forms_3b09a.nd (xi_seq (xe_ix (de_v 0) de_int (fun _ _ => rfl))) (blkOk_by (by kernel_rfl)) (fun _ _ _ _ _ => (dg_name 1 sc_law_forms_3b09a.nd rfl (by first | exact Or.inl rfl | exact Or.inr rfl))) (fun _ _ _ _ _ => dts_nil) (fun _ _ _ _ _ => (xc G_self hr (by rfl) (xa_cons (de_v 1) xa_nil))))) xa_nil))))))
abbrev s_law_tree_95268 : Stmt := top 53
theorem sc_law_tree_95268 : FnScope ["bag", "sheet", "pool", "left", "level", "field", "many", "same", "grown", "first", "more", "value"] ["bag", "sheet", "pool", "left", "level"] (defScope s_law_tree_95268) := ⟨rfl, rfl, rfl, by decide +kernel, rfl, by decide +kernel, by decide +kernel⟩
theorem t_law_tree_95268 {P : Program} {w : World} {K : PySem.W.Frag} {mg : Str → Option Value} {base : Heap} {f : Addr} {fd : FuncData} {k : Nat} (F : Fun K "_law_tree" "_law_tree" s_law_tree_95268 f fd) (hb : Binds K fd ["bag", "sheet", "pool", "left", "level"] []) (hm : mg "_law_tree" = some (.ref f))
    (y_len : mg "len" = none)
    (y_range : mg "range" = none)
    (y_tuple : mg "tuple" = none)
    (G_law_draw_80bbd : Has P w K mg base k "_law_draw" ["bag", "many"] (spM K g_law_draw_80bbd))
    (G_law_forms_3b09a : Has P w K mg base k "_law_forms" ["tree"] (spD K (g_law_forms_3b09a FU))) : ∀ n, Has P w K mg base (k + n) "_law_tree" ["bag", "sheet", "pool", "left", "level"] (spM2 K (g_law_tree_95268 n))
  | 0 => has_noneM2 F hb hm
  | n + 1 => by
    have G_self : Has P w K mg base (k + n) "_law_tree" ["bag", "sheet", "pool", "left", "level"] (spM2 K (g_law_tree_95268 n)) := t_law_tree_95268 (k := k) F hb hm y_len y_range y_tuple G_law_draw_80bbd G_law_forms_3b09a n
    have G_law_draw_80bbd := G_law_draw_80bbd.mono (Nat.le_add_right k n)
    have G_law_forms_3b09a := G_law_forms_3b09a.mono (Nat.le_add_right k n)
    exact def_m2 F sc_law_tree_95268 hb hm fun cdv A outer s H E hr =>
  (dss_cons (ds_if (DW.pt (dw_and (xt_cmp opd_lt (de_v 4) de_int (nomark _)) (dw_and (xt_cmp (opd_ne hr) (de_v 2) (xe_fr (xf_lst xa_nil)) (nomark _)) (dw_and1 (xt_cmp opd_gt (dcM 0 G_law_draw_80bbd hr (by rfl) (xa_cons de_int xa_nil)) de_int (nomark _))))))
    (dss_cons (ds_set (i := 5) sc_law_tree_95268.nd rfl (by first | exact Or.inl rfl | exact Or.inr rfl) (xe_ix (de_v 2) (dcM 0 G_law_draw_80bbd hr (by rfl) (xa_cons (xcB cd_len (by rfl) y_len (by decide +kernel) (xa_cons (de_v 2) xa_nil)) xa_nil)) (fun _ _ => rfl)))
  (dss_cons (ds_set (i := 6) sc_law_tree_95268.nd rfl (by first | exact Or.inl rfl | exact Or.inr rfl) (xe_ix (de_v 1) (de_v 5) (fun _ _ => rfl)))
  (dss_cons (ds_set (i := 7) sc_law_tree_95268.nd rfl (by first | exact Or.inl rfl | exact Or.inr rfl) (xe_cmp (opd_eq hr) (dcM 0 G_law_draw_80bbd hr (by rfl) (xa_cons de_int xa_nil)) de_int (nomark _)))
  (dss_one (ds_if (xt_cmp opd_le (de_v 6) (de_ixO 3 de_int (fun _ _ => rfl)) (nomark _))
    (dss_cons (ds_putIx 3 (xe_op opd_sub (de_ixO 3 de_int (fun _ _ => rfl)) (de_v 6)) de_int)
  (dss_cons (ds_if (xt_not (xt_tru (de_v 7)))
    (dss_cons (ds_setLc (i := 8) (own := [("value", 11)]) rfl sc_law_tree_95268.nd rfl rfl (sw_true rfl rfl rfl (by decide +kernel)) (xi_range1 (by rfl) y_range (xa_cons (de_v 6) xa_nil)) (blkOk_by (by kernel_rfl)) (fun _ _ _ _ _ => (dg_name 11 sc_law_tree_95268.nd rfl (by first | exact Or.inl rfl | exact Or.inr rfl))) (fun _ _ _ _ _ => dts_nil) (fun _ _ _ _ _ => (dcM2 0 3 G_self hr (by rfl) (de_v 1) (de_v 2) (xe_op opd_add (de_v 4) de_int))))
  (dss_one (ds_ret (xe_tup (xa_cons de_str (xa_cons (de_v 5) (xa_cons (xcT cd_tuple (by rfl) y_tuple (by decide +kernel) (xa_cons (de_v 8) xa_nil)) xa_nil)))))))
    dss_nil)
  (dss_cons (ds_set (i := 9) sc_law_tree_95268.nd rfl (by first | exact Or.inl rfl | exact Or.inr rfl) (dcM2 0 3 G_self hr (by rfl) (de_v 1) (de_v 2) (xe_op opd_add (de_v 4) de_int)))
  (dss_cons (ds_set (i := 10) sc_law_tree_95268.nd rfl (by first | exact Or.inl rfl | exact Or.inr rfl) (xe_op opd_mul (xe_op opd_sub (xc G_law_forms_3b09a hr (by rfl) (xa_cons (de_v 9) xa_nil)) de_int) (xe_op opd_sub (de_v 6) de_int)))
  (dss_cons (ds_if (xt_cmp opd_le (de_v 10) (de_ixO 3 de_int (fun _ _ => rfl)) (nomark _))
    (dss_cons (ds_putIx 3 (xe_op opd_sub (de_ixO 3 de_int (fun _ _ => rfl)) (de_v 10)) de_int)
  (dss_one (ds_ret (xe_tup (xa_cons de_str (xa_cons (de_v 5) (xa_cons (xcT cd_tuple (by rfl) y_tuple (by decide +kernel) (xa_cons (xe_fr (xf_rep (xf_lst (xa_cons (de_v 9) xa_nil)) (de_v 6))) xa_nil)) xa_nil)))))))
    dss_nil)
  (dss_one (ds_ret (xe_tup (xa_cons de_str (xa_cons (de_v 5) (xa_cons (xcT cd_tuple (by rfl) y_tuple (by decide +kernel) (xa_cons (xe_op opd_add (xe_fr (xf_lst (xa_cons (de_v 9) xa_nil))) (xe_fr (xf_rep (xf_lst (xa_cons (xe_tup (xa_cons de_str (xa_cons de_bl xa_nil))) xa_nil)) (xe_op opd_sub (de_v 6) de_int)))) xa_nil)) xa_nil)))))))))))
    dss_nil)))))
    dss_nil)
  (dss_one (ds_ret (xe_tup (xa_cons de_str (xa_cons (xe_cmp (opd_eq hr) (dcM 0 G_law_draw_80bbd hr (by rfl) (xa_cons de_int xa_nil)) de_int (nomark _)) xa_nil))))))
abbrev s_law_pool_d95fb : Stmt := top 54
theorem sc_law_pool_d95fb : FnScope ["bag", "sheet", "many", "k"] ["bag", "sheet"] (defScope s_law_pool_d95fb) := ⟨rfl, rfl, rfl, by decide +kernel, rfl, by decide +kernel, by decide +kernel⟩
theorem t_law_pool_d95fb {P : Program} {w : World} {K : PySem.W.Frag} {mg : Str → Option Value} {base : Heap} {f : Addr} {fd : FuncData} {k : Nat} (F : Fun K "_law_pool" "_law_pool" s_law_pool_d95fb f fd) (hb : Binds K fd ["bag", "sheet"] []) (hm : mg "_law_pool" = some (.ref f))
    (y_len : mg "len" = none)
    (y_list : mg "list" = none)
    (y_range : mg "range" = none)
    (G_law_draw_80bbd : Has P w K mg base k "_law_draw" ["bag", "many"] (spM K g_law_draw_80bbd)) : Has P w K mg base (k + 1) "_law_pool" ["bag", "sheet"] (spM K g_law_pool_d95fb) := def_m F sc_law_pool_d95fb hb hm fun cdv A outer s H E hr =>
  (dss_cons (ds_if (DW.pt (dw_or (xt_cmp (opd_eq hr) (de_v 1) (xe_fr (xf_lst xa_nil)) (nomark _)) (dw_or1 (xt_cmp (opd_eq hr) (dcM 0 G_law_draw_80bbd hr (by rfl) (xa_cons de_int xa_nil)) de_int (nomark _)))))
    (dss_one (ds_ret (xe_fr (df_lrng1 rfl (by rfl) y_list (by rfl) y_range (xcB cd_len (by rfl) y_len (by decide +kernel) (xa_cons (de_v 1) xa_nil))))))
    dss_nil)
  (dss_cons (ds_set (i := 2) sc_law_pool_d95fb.nd rfl (by first | exact Or.inl rfl | exact Or.inr rfl) (xe_op opd_add de_int (dcM 0 G_law_draw_80bbd hr (by rfl) (xa_cons de_int xa_nil))))
  (dss_one (ds_ret (xe_fr (df_lc (own := [("k", 3)]) rfl sc_law_pool_d95fb.nd (xi_range1 (by rfl) y_range (xa_cons (de_v 2) xa_nil)) (blkOk_by (by kernel_rfl)) (fun _ _ _ _ _ => (dg_name 3 sc_law_pool_d95fb.nd rfl (by first | exact Or.inl rfl | exact Or.inr rfl))) (fun _ _ _ _ _ => dts_nil) (fun _ _ _ _ _ => (dcM 0 G_law_draw_80bbd hr (by rfl) (xa_cons (xcB cd_len (by rfl) y_len (by decide +kernel) (xa_cons (de_v 1) xa_nil)) xa_nil)))))))))
abbrev s_law_whole_61a6b : Stmt := top 50
theorem sc_law_whole_61a6b : FnScope ["found"] ["found"] (defScope s_law_whole_61a6b) := ⟨rfl, rfl, rfl, by decide +kernel, rfl, by decide +kernel, by decide +kernel⟩
theorem f_law_whole_61a6b {P : Program} {w : World} {K : PySem.W.Frag} {mg : Str → Option Value} {base : Heap} {f : Addr} {fd : FuncData} {k : Nat} (F : Fun K "_law_whole" "_law_whole" s_law_whole_61a6b f fd) (hb : Binds K fd ["found"] []) (hm : mg "_law_whole" = some (.ref f))
    (y_bool : mg "bool" = none)
    (y_int : mg "int" = none)
    (y_isinstance : mg "isinstance" = none) : FnOk P w K mg base CX0 (k + 1) f fd ["found"] (spD K g_law_whole_61a6b) := fn_d F sc_law_whole_61a6b fun cdv A outer s H E hr =>
  (dss_one (ds_ret (de_and (xe_isi (n := "int") (by decide) (by rfl) y_isinstance (by rfl) y_int (by decide +kernel) (de_v 0)) (de_one (xe_not (xe_isi (n := "bool") (by decide) (by rfl) y_isinstance (by rfl) y_bool (by decide +kernel) (de_v 0)))))))
theorem t_law_whole_61a6b {P : Program} {w : World} {K : PySem.W.Frag} {mg : Str → Option Value} {base : Heap} {f : Addr} {fd : FuncData} {k : Nat} (F : Fun K "_law_whole" "_law_whole" s_law_whole_61a6b f fd) (hb : Binds K fd ["found"] []) (hm : mg "_law_whole" = some (.ref f))
    (y_bool : mg "bool" = none)
    (y_int : mg "int" = none)
    (y_isinstance : mg "isinstance" = none) : Has P w K mg base (k + 1) "_law_whole" ["found"] (spD K g_law_whole_61a6b) := ⟨f, fd, f_law_whole_61a6b F hb hm y_bool y_int y_isinstance, hb, hm, F.kp⟩
abbrev s_law_is_tree_84b8a : Stmt := top 55
theorem sc_law_is_tree_84b8a : FnScope ["found", "branch"] ["found"] (defScope s_law_is_tree_84b8a) := ⟨rfl, rfl, rfl, by decide +kernel, rfl, by decide +kernel, by decide +kernel⟩
theorem t_law_is_tree_84b8a {P : Program} {w : World} {K : PySem.W.Frag} {mg : Str → Option Value} {base : Heap} {f : Addr} {fd : FuncData} {k : Nat} (F : Fun K "_law_is_tree" "_law_is_tree" s_law_is_tree_84b8a f fd) (hb : Binds K fd ["found"] []) (hm : mg "_law_is_tree" = some (.ref f))
    (y_bool : mg "bool" = none)
    (y_isinstance : mg "isinstance" = none)
    (y_len : mg "len" = none)
    (y_str : mg "str" = none)
    (y_tuple : mg "tuple" = none)
    (G_law_whole_61a6b : Has P w K mg base k "_law_whole" ["found"] (spD K g_law_whole_61a6b)) : ∀ n, Has P w K mg base (k + n) "_law_is_tree" ["found"] (spD K (g_law_is_tree_84b8a n))
  | 0 => has_none F hb hm
  | n + 1 => by
    have G_self : Has P w K mg base (k + n) "_law_is_tree" ["found"] (spD K (g_law_is_tree_84b8a n)) := t_law_is_tree_84b8a (k := k) F hb hm y_bool y_isinstance y_len y_str y_tuple G_law_whole_61a6b n
    have G_law_whole_61a6b := G_law_whole_61a6b.mono (Nat.le_add_right k n)
    exact def_d F sc_law_is_tree_84b8a hb hm fun cdv A outer s H E hr =>
  (dss_cons (ds_if (DW.pt (dw_or (xt_not (xt_tru (xe_isi (n := "tuple") (by decide) (by rfl) y_isinstance (by rfl) y_tuple (by decide +kernel) (de_v 0)))) (dw_or (xt_cmp opd_lt (xcB cd_len (by rfl) y_len (by decide +kernel) (xa_cons (de_v 0) xa_nil)) de_int (nomark _)) (dw_or1 (xt_not (xt_tru (xe_isi (n := "str") (by decide) (by rfl) y_isinstance (by rfl) y_str (by decide +kernel) (xe_ix (de_v 0) de_int (fun _ _ => rfl)))))))))
    (dss_one (ds_ret de_bl))
    dss_nil)
  (dss_cons (ds_if (xt_cmp (opd_eq hr) (xe_ix (de_v 0) de_int (fun _ _ => rfl)) de_str (nomark _))
    (dss_one (ds_ret (de_and (xe_cmp (opd_eq hr) (xcB cd_len (by rfl) y_len (by decide +kernel) (xa_cons (de_v 0) xa_nil)) de_int (nomark _)) (de_one (xe_isi (n := "bool") (by decide) (by rfl) y_isinstance (by rfl) y_bool (by decide +kernel) (xe_ix (de_v 0) de_int (fun _ _ => rfl)))))))
    dss_nil)
  (dss_cons (ds_if (DW.pt (dw_or (xt_cmp (opd_ne hr) (xe_ix (de_v 0) de_int (fun _ _ => rfl)) de_str (nomark _)) (dw_or (xt_cmp (opd_ne hr) (xcB cd_len (by rfl) y_len (by decide +kernel) (xa_cons (de_v 0) xa_nil)) de_int (nomark _)) (dw_or (xt_not (xt_tru (xc G_law_whole_61a6b hr (by rfl) (xa_cons (xe_ix (de_v 0) de_int (fun _ _ => rfl)) xa_nil)))) (dw_or1 (xt_not (xt_tru (xe_isi (n := "tuple") (by decide) (by rfl) y_isinstance (by rfl) y_tuple (by decide +kernel) (xe_ix (de_v 0) de_int (fun _ _ => rfl))))))))))
    (dss_one (ds_ret de_bl))
    dss_nil)
  (dss_one (ds_ret (xe_cmp (opd_eq hr) (xe_fr (df_lc (own := [("branch", 1)]) rfl sc_law_is_tree_84b8a.nd (xi_seq (xe_ix (de_v 0) de_int (fun _ _ => rfl))) (blkOk_by (by kernel_rfl)) (fun _ _ _ _ _ => (dg_name 1 sc_law_is_tree_84b8a.nd rfl (by first | exact Or.inl rfl | exact Or.inr rfl))) (fun _ _ _ _ _ => (dts_one (xt_not (xt_tru (xc G_self hr (by rfl) (xa_cons (de_v 1) xa_nil)))))) (fun _ _ _ _ _ => (de_v 1)))) (xe_fr (xf_lst xa_nil)) (nomark _)))))))
abbrev s_law_once_a2454 : Stmt := top 56
theorem sc_law_once_a2454 : FnScope ["tree", "known", "there", "grown", "pair", "value"] ["tree", "known"] (defScope s_law_once_a2454) := ⟨rfl, rfl, rfl, by decide +kernel, rfl, by decide +kernel, by decide +kernel⟩
theorem t_law_once_a2454 {P : Program} {w : World} {K : PySem.W.Frag} {mg : Str → Option Value} {base : Heap} {f : Addr} {fd : FuncData} {k : Nat} (F : Fun K "_law_once" "_law_once" s_law_once_a2454 f fd) (hb : Binds K fd ["tree", "known"] []) (hm : mg "_law_once" = some (.ref f))
    (y_len : mg "len" = none)
    (y_range : mg "range" = none)
    (y_tuple : mg "tuple" = none) : ∀ n, Has P w K mg base (k + n) "_law_once" ["tree", "known"] (spD K (g_law_once_a2454 n))
  | 0 => has_none F hb hm
  | n + 1 => by
    have G_self : Has P w K mg base (k + n) "_law_once" ["tree", "known"] (spD K (g_law_once_a2454 n)) := t_law_once_a2454 (k := k) F hb hm y_len y_range y_tuple n
    skip
    exact def_d F sc_law_once_a2454 hb hm fun cdv A outer s H E hr =>
  (dss_cons (ds_if (xt_cmp (opd_eq hr) (xe_ix (de_v 0) de_int (fun _ _ => rfl)) de_str (nomark _))
    (dss_one (ds_ret (de_v 0)))
    dss_nil)
  (dss_cons (ds_setLc (i := 2) (own := [("pair", 4)]) rfl sc_law_once_a2454.nd rfl rfl (sw_true rfl rfl rfl (by decide +kernel)) (xi_seq (de_v 1)) (blkOk_by (by kernel_rfl)) (fun _ _ _ _ _ => (dg_name 4 sc_law_once_a2454.nd rfl (by first | exact Or.inl rfl | exact Or.inr rfl))) (fun _ _ _ _ _ => (dts_one (xt_cmp (opd_eq hr) (xe_ix (de_v 4) de_int (fun _ _ => rfl)) (xe_ix (de_v 0) de_int (fun _ _ => rfl)) (nomark _)))) (fun _ _ _ _ _ => (xe_ix (de_v 4) de_int (fun _ _ => rfl))))
  (dss_cons (ds_if (xt_cmp (opd_ne hr) (de_v 2) (xe_fr (xf_lst xa_nil)) (nomark _))
    (dss_one (ds_ret (xc G_self hr (by rfl) (xa_cons (xe_ix (xe_ix (de_v 0) de_int (fun _ _ => rfl)) (xe_ix (de_v 2) de_int (fun _ _ => rfl)) (fun _ _ => rfl)) (xa_cons (de_v 1) xa_nil)))))
    dss_nil)
  (dss_cons (ds_setLc (i := 3) (own := [("value", 5)]) rfl sc_law_once_a2454.nd rfl rfl (sw_true rfl rfl rfl (by decide +kernel)) (xi_range1 (by rfl) y_range (xa_cons (xcB cd_len (by rfl) y_len (by decide +kernel) (xa_cons (xe_ix (de_v 0) de_int (fun _ _ => rfl)) xa_nil)) xa_nil)) (blkOk_by (by kernel_rfl)) (fun _ _ _ _ _ => (dg_name 5 sc_law_once_a2454.nd rfl (by first | exact Or.inl rfl | exact Or.inr rfl))) (fun _ _ _ _ _ => dts_nil) (fun _ _ _ _ _ => (xc G_self hr (by rfl) (xa_cons (xe_ix (xe_ix (de_v 0) de_int (fun _ _ => rfl)) (de_v 5) (fun _ _ => rfl)) (xa_cons (xe_op opd_add (de_v 1) (xe_fr (xf_lst (xa_cons (xe_tup (xa_cons (xe_ix (de_v 0) de_int (fun _ _ => rfl)) (xa_cons (de_v 5) xa_nil))) xa_nil)))) xa_nil)))))
  (dss_one (ds_ret (xe_tup (xa_cons de_str (xa_cons (xe_ix (de_v 0) de_int (fun _ _ => rfl)) (xa_cons (xcT cd_tuple (by rfl) y_tuple (by decide +kernel) (xa_cons (de_v 3) xa_nil)) xa_nil))))))))))
abbrev s_law_merged_1016b : Stmt := top 57
theorem sc_law_merged_1016b : FnScope ["tree", "grown", "branch"] ["tree"] (defScope s_law_merged_1016b) := ⟨rfl, rfl, rfl, by decide +kernel, rfl, by decide +kernel, by decide +kernel⟩
theorem t_law_merged_1016b {P : Program} {w : World} {K : PySem.W.Frag} {mg : Str → Option Value} {base : Heap} {f : Addr} {fd : FuncData} {k : Nat} (F : Fun K "_law_merged" "_law_merged" s_law_merged_1016b f fd) (hb : Binds K fd ["tree"] []) (hm : mg "_law_merged" = some (.ref f))
    (y_tuple : mg "tuple" = none) : ∀ n, Has P w K mg base (k + n) "_law_merged" ["tree"] (spD K (g_law_merged_1016b n))
  | 0 => has_none F hb hm
  | n + 1 => by
    have G_self : Has P w K mg base (k + n) "_law_merged" ["tree"] (spD K (g_law_merged_1016b n)) := t_law_merged_1016b (k := k) F hb hm y_tuple n
    skip
    exact def_d F sc_law_merged_1016b hb hm fun cdv A outer s H E hr =>
  (dss_cons (ds_if (xt_cmp (opd_eq hr) (xe_ix (de_v 0) de_int (fun _ _ => rfl)) de_str (nomark _))
    (dss_one (ds_ret (de_v 0)))
    dss_nil)
  (dss_cons (ds_set (i := 1) sc_law_merged_1016b.nd rfl (by first | exact Or.inl rfl | exact Or.inr rfl) (xe_fr (df_lc (own := [("branch", 2)]) rfl sc_law_merged_1016b.nd (xi_seq (xe_ix (de_v 0) de_int (fun _ _ => rfl))) (blkOk_by (by kernel_rfl)) (fun _ _ _ _ _ => (dg_name 2 sc_law_merged_1016b.nd rfl (by first | exact Or.inl rfl | exact Or.inr rfl))) (fun _ _ _ _ _ => dts_nil) (fun _ _ _ _ _ => (xc G_self hr (by rfl) (xa_cons (de_v 2) xa_nil))))))
  (dss_cons (ds_if (xt_cmp (opd_eq hr) (xe_fr (df_lc (own := [("branch", 2)]) rfl sc_law_merged_1016b.nd (xi_seq (de_v 1)) (blkOk_by (by kernel_rfl)) (fun _ _ _ _ _ => (dg_name 2 sc_law_merged_1016b.nd rfl (by first | exact Or.inl rfl | exact Or.inr rfl))) (fun _ _ _ _ _ => (dts_one (xt_cmp (opd_ne hr) (de_v 2) (xe_ix (de_v 1) de_int (fun _ _ => rfl)) (nomark _)))) (fun _ _ _ _ _ => (de_v 2)))) (xe_fr (xf_lst xa_nil)) (nomark _))
    (dss_one (ds_ret (xe_ix (de_v 1) de_int (fun _ _ => rfl))))
    dss_nil)
  (dss_one (ds_ret (xe_tup (xa_cons de_str (xa_cons (xe_ix (de_v 0) de_int (fun _ _ => rfl)) (xa_cons (xcT cd_tuple (by rfl) y_tuple (by decide +kernel) (xa_cons (de_v 1) xa_nil)) xa_nil)))))))))
abbrev s_law_graft_c3e04 : Stmt := top 58
theorem sc_law_graft_c3e04 : FnScope ["tree", "yes", "no", "branch"] ["tree", "yes", "no"] (defScope s_law_graft_c3e04) := ⟨rfl, rfl, rfl, by decide +kernel, rfl, by decide +kernel, by decide +kernel⟩
theorem t_law_graft_c3e04 {P : Program} {w : World} {K : PySem.W.Frag} {mg : Str → Option Value} {base : Heap} {f : Addr} {fd : FuncData} {k : Nat} (F : Fun K "_law_graft" "_law_graft" s_law_graft_c3e04 f fd) (hb : Binds K fd ["tree", "yes", "no"] []) (hm : mg "_law_graft" = some (.ref f))
    (y_int : mg "int" = none)
    (y_tuple : mg "tuple" = none) : ∀ n, Has P w K mg base (k + n) "_law_graft" ["tree", "yes", "no"] (spD K (g_law_graft_c3e04 n))
  | 0 => has_none F hb hm
  | n + 1 => by
    have G_self : Has P w K mg base (k + n) "_law_graft" ["tree", "yes", "no"] (spD K (g_law_graft_c3e04 n)) := t_law_graft_c3e04 (k := k) F hb hm y_int y_tuple n
    skip
    exact def_d F sc_law_graft_c3e04 hb hm fun cdv A outer s H E hr =>
  (dss_cons (ds_if (xt_cmp (opd_eq hr) (xe_ix (de_v 0) de_int (fun _ _ => rfl)) de_str (nomark _))
    (dss_one (ds_ret (xe_ix (xe_fr (xf_lst (xa_cons (de_v 2) (xa_cons (de_v 1) xa_nil)))) (xcT cd_int (by rfl) y_int (by decide +kernel) (xa_cons (xe_ix (de_v 0) de_int (fun _ _ => rfl)) xa_nil)) (fun _ _ => rfl))))
    dss_nil)
  (dss_one (ds_ret (xe_tup (xa_cons de_str (xa_cons (xe_ix (de_v 0) de_int (fun _ _ => rfl)) (xa_cons (xcT cd_tuple (by rfl) y_tuple (by decide +kernel) (xa_cons (xe_fr (df_lc (own := [("branch", 3)]) rfl sc_law_graft_c3e04.nd (xi_seq (xe_ix (de_v 0) de_int (fun _ _ => rfl))) (blkOk_by (by kernel_rfl)) (fun _ _ _ _ _ => (dg_name 3 sc_law_graft_c3e04.nd rfl (by first | exact Or.inl rfl | exact Or.inr rfl))) (fun _ _ _ _ _ => dts_nil) (fun _ _ _ _ _ => (xc G_self hr (by rfl) (xa_cons (de_v 3) (xa_cons (de_v 1) (xa_cons (de_v 2) xa_nil))))))) xa_nil)) xa_nil)))))))
abbrev s_law_k32 : Stmt := top 59
theorem sc_law_k32 : FnScope ["script", "cell", "bag", "sheet", "pool", "side", "plain", "tree", "yes", "no", "handed", "found"] ["script"] (defScope s_law_k32) := ⟨rfl, rfl, rfl, by decide +kernel, rfl, by decide +kernel, by decide +kernel⟩
theorem f_law_k32 {P : Program} {w : World} {K : PySem.W.Frag} {mg : Str → Option Value} {base : Heap} {f : Addr} {fd : FuncData} {k : Nat} (F : Fun K "law" "law" s_law_k32 f fd) (hb : Binds K fd ["script"] []) (hm : mg "law" = some (.ref f))
    (y_list : mg "list" = none)
    (G_trimmed : Has P w K mg base k "trimmed" ["sizes", "tree"] (spD K g_trimmed))
    (G_grafted : Has P w K mg base k "grafted" ["sizes", "tree", "upper", "lower"] (spD K g_grafted))
    (G_q_law_bag_0df30 : Has P w K mg base k "_law_bag" ["cell"] (spQ K g_q_law_bag_0df30))
    (G_law_draw_80bbd : Has P w K mg base k "_law_draw" ["bag", "many"] (spM K g_law_draw_80bbd))
    (G_law_sheet_490db : Has P w K mg base k "_law_sheet" ["bag"] (spM K g_law_sheet_490db))
    (G_law_tree_95268 : Has P w K mg base k "_law_tree" ["bag", "sheet", "pool", "left", "level"] (spM2 K (g_law_tree_95268 FU)))
    (G_law_pool_d95fb : Has P w K mg base k "_law_pool" ["bag", "sheet"] (spM K g_law_pool_d95fb))
    (G_law_is_tree_84b8a : Has P w K mg base k "_law_is_tree" ["found"] (spD K (g_law_is_tree_84b8a FU)))
    (G_law_once_a2454 : Has P w K mg base k "_law_once" ["tree", "known"] (spD K (g_law_once_a2454 FU)))
    (G_law_merged_1016b : Has P w K mg base k "_law_merged" ["tree"] (spD K (g_law_merged_1016b FU)))
    (G_law_graft_c3e04 : Has P w K mg base k "_law_graft" ["tree", "yes", "no"] (spD K (g_law_graft_c3e04 FU))) : FnOk P w K mg base CX0 (k + 1) f fd ["script"] (spD K g_law_k32) := fn_d F sc_law_k32 fun cdv A outer s H E hr =>
  (dss_cons (ds_for PassesOwn.never rfl (xi_seq (xe_op opd_add (xe_fr (xf_lst (xa_cons de_int xa_nil))) (xe_fr (xf_slice (de_v 0) xo_none (xo_some de_int))))) (dg_name 1 sc_law_k32.nd rfl (by first | exact Or.inl rfl | exact Or.inr rfl))
    (dss_cons (ds_setQ (i := 2) sc_law_k32.nd rfl (by first | exact Or.inl rfl | exact Or.inr rfl) (dcQ G_q_law_bag_0df30 hr (by rfl) (xa_cons (de_v 1) xa_nil)))
  (dss_cons (ds_set (i := 3) sc_law_k32.nd rfl (by first | exact Or.inl rfl | exact Or.inr rfl) (dcM 2 G_law_sheet_490db hr (by rfl) xa_nil))
  (dss_cons (ds_set (i := 4) sc_law_k32.nd rfl (by first | exact Or.inl rfl | exact Or.inr rfl) (dcM 2 G_law_pool_d95fb hr (by rfl) (xa_cons (de_v 3) xa_nil)))
  (dss_cons (ds_set (i := 5) sc_law_k32.nd rfl (by first | exact Or.inl rfl | exact Or.inr rfl) (dcM 2 G_law_draw_80bbd hr (by rfl) (xa_cons de_int xa_nil)))
  (dss_cons (ds_set (i := 6) sc_law_k32.nd rfl (by first | exact Or.inl rfl | exact Or.inr rfl) (dcM2L 2 G_law_tree_95268 hr (by rfl) (de_v 3) (de_v 4) (xf_lst (xa_cons de_int xa_nil)) de_int))
  (dss_cons (ds_set (i := 7) sc_law_k32.nd rfl (by first | exact Or.inl rfl | exact Or.inr rfl) (dcM2L 2 G_law_tree_95268 hr (by rfl) (de_v 3) (de_v 4) (xf_lst (xa_cons de_int xa_nil)) de_int))
  (dss_cons (ds_set (i := 8) sc_law_k32.nd rfl (by first | exact Or.inl rfl | exact Or.inr rfl) (dcM2L 2 G_law_tree_95268 hr (by rfl) (de_v 3) (de_v 4) (xf_lst (xa_cons de_int xa_nil)) de_int))
  (dss_cons (ds_set (i := 9) sc_law_k32.nd rfl (by first | exact Or.inl rfl | exact Or.inr rfl) (xe_tup (xa_cons de_str (xa_cons (xe_cmp (opd_eq hr) (dcM 2 G_law_draw_80bbd hr (by rfl) (xa_cons de_int xa_nil)) de_int (nomark _)) xa_nil))))
  (dss_cons (ds_if (xt_cmp (opd_eq hr) (de_v 5) de_int (nomark _))
    (dss_one (ds_par (i := 8) (j := 9) rfl sc_law_k32.nd rfl rfl (by decide) rfl rfl (xa_cons (de_v 9) (xa_cons (de_v 8) xa_nil)) (by rfl)))
    dss_nil)
  (dss_cons (ds_if (xt_cmp (opd_eq hr) (de_v 5) de_int (nomark _))
    (dss_one (ds_set (i := 9) sc_law_k32.nd rfl (by first | exact Or.inl rfl | exact Or.inr rfl) (dcM2L 2 G_law_tree_95268 hr (by rfl) (de_v 3) (de_v 4) (xf_lst (xa_cons de_int xa_nil)) de_int)))
    dss_nil)
  (dss_cons (ds_set (i := 10) sc_law_k32.nd rfl (by first | exact Or.inl rfl | exact Or.inr rfl) (xe_fr (xcTF cf_list (by rfl) y_list (by decide +kernel) (xa_cons (de_v 3) xa_nil))))
  (dss_cons (ds_set (i := 11) sc_law_k32.nd rfl (by first | exact Or.inl rfl | exact Or.inr rfl) (xc G_trimmed hr (by rfl) (xa_cons (de_v 10) (xa_cons (de_v 6) xa_nil))))
  (dss_cons (ds_if (DW.pt (dw_or (xt_not (xt_tru (xc G_law_is_tree_84b8a hr (by rfl) (xa_cons (de_v 11) xa_nil)))) (dw_or (xt_cmp (opd_ne hr) (de_v 11) (xc G_law_merged_1016b hr (by rfl) (xa_cons (xc G_law_once_a2454 hr (by rfl) (xa_cons (de_v 6) (xa_cons (xe_fr (xf_lst xa_nil)) xa_nil))) xa_nil)) (nomark _)) (dw_or1 (xt_cmp (opd_ne hr) (xc G_trimmed hr (by rfl) (xa_cons (de_v 10) (xa_cons (de_v 11) xa_nil))) (de_v 11) (nomark _))))))
    (dss_one (ds_ret de_bl))
    dss_nil)
  (dss_cons (ds_set (i := 11) sc_law_k32.nd rfl (by first | exact Or.inl rfl | exact Or.inr rfl) (xc G_grafted hr (by rfl) (xa_cons (de_v 10) (xa_cons (de_v 7) (xa_cons (de_v 8) (xa_cons (de_v 9) xa_nil))))))
  (dss_cons (ds_if (DW.pt (dw_or (xt_not (xt_tru (xc G_law_is_tree_84b8a hr (by rfl) (xa_cons (de_v 11) xa_nil)))) (dw_or1 (xt_cmp (opd_ne hr) (de_v 11) (xc G_law_merged_1016b hr (by rfl) (xa_cons (xc G_law_once_a2454 hr (by rfl) (xa_cons (xc G_law_graft_c3e04 hr (by rfl) (xa_cons (de_v 7) (xa_cons (de_v 8) (xa_cons (de_v 9) xa_nil)))) (xa_cons (xe_fr (xf_lst xa_nil)) xa_nil))) xa_nil)) (nomark _)))))
    (dss_one (ds_ret de_bl))
    dss_nil)
  (dss_one (ds_if (xt_cmp (opd_ne hr) (de_v 10) (de_v 3) (nomark _))
    (dss_one (ds_ret de_bl))
    dss_nil))))))))))))))))))
  (dss_one (ds_ret de_bl)))
end DL
namespace DL
open PySem PySem.Spec PyProof.Rows L2 Lk
section
variable {α β : Type} {r r' : En} {m : M α} {k : α → M β} {a : α} {d e z : PyData} {ds es : List PyData} {i : Nat} {ma mb mc : M PyData} {ml : M (List PyData)} {mt mu : M Bool}
@[simp] theorem e_bind : M.bind m k r = (match m r with
  | some (.ok a r') => k a r'
  | some (.ex c p) => some (.ex c p)
  | none => none) := rfl
@[simp] theorem e_ret : (M.ret a : M α) r = some (.ok a r) := rfl
@[simp] theorem e_lift_some : (M.lift (some a) : M α) r = some (.ok a r) := rfl
@[simp] theorem e_lift_none : (M.lift none : M α) r = none := rfl
@[simp] theorem e_map {f : α → β} : M.map f m r = M.bind m (fun a => M.ret (f a)) r := rfl
@[simp] theorem e_V : mV i r = (match r[i]? with
  | some (.pl d) => some (.ok d r)
  | _ => none) := rfl
@[simp] theorem e_op2 {g : PyData → PyData → Option PyData} : mOp2 g ma mb r = M.bind ma (fun d => mb.bind fun e => M.lift (g d e)) r := rfl
@[simp] theorem e_opT {g : PyData → PyData → Option PyData} : mOpT g ma mb r = M.bind ma (fun d => mb.bind fun e => M.lift ((g d e).bind asBool)) r := rfl
@[simp] theorem e_cons : mCons ma ml r = M.bind ma (fun d => ml.bind fun ds => M.ret (d :: ds)) r := rfl
@[simp] theorem e_nil : mNil r = some (.ok [] r) := rfl
@[simp] theorem e_call {g : List PyData → Option PyData} : mCall g ml r = M.bind ml (fun ds => M.lift (g ds)) r := rfl
@[simp] theorem e_callK {gD : List PyData → List PyData} {g : List PyData → Option PyData} : mCallK gD g ml r = M.bind ml (fun ds => M.lift (g (gD ds))) r := rfl
@[simp] theorem e_callF {g : List PyData → Option (List PyData)} : mCallF g ml r = M.bind ml (fun ds => M.lift (g ds)) r := rfl
@[simp] theorem e_tup : mTup ml r = M.bind ml (fun ds => M.lift (tupM ds)) r := rfl
@[simp] theorem e_lst : mLst ml r = M.bind ml (fun ds => M.lift (lstM ds)) r := rfl
@[simp] theorem e_new : mNew ml r = M.bind ml (fun ds => M.ret (.list ds)) r := rfl
@[simp] theorem e_val : mVal ma r = M.bind ma (fun d => M.lift (asBool d)) r := rfl
@[simp] theorem e_tru : mTru ma r = M.bind ma (fun d => M.lift (truD d)) r := rfl
@[simp] theorem e_notT : mNotT mt r = M.bind mt (fun b => M.ret (!b)) r := rfl
@[simp] theorem e_notV : mNotV ma r = M.bind ma (fun d => (M.lift (asBool d)).bind fun b => M.ret (.bool (!b))) r := rfl
@[simp] theorem e_isi {n : String} : mIsi n ma r = M.bind ma (fun d => M.ret (.bool (isTy n d))) r := rfl
@[simp] theorem e_neg : mNeg ma r = M.bind ma (fun d => M.lift (negM d)) r := rfl
@[simp] theorem e_seqI : mSeq ma r = M.bind ma (fun d => M.lift (asSeq d)) r := rfl
@[simp] theorem e_rng1 : mRng1 ml r = (match ml r with
  | some (.ok [d] r') => M.lift (rngM [d]) r'
  | some (.ok _ _) => none
  | some (.ex c p) => some (.ex c p)
  | none => none) := by
  unfold mRng1 M.bind
  cases ml r with
  | none => rfl
  | some o =>
    cases o with
    | ex c p => rfl
    | ok ds r' =>
      dsimp only
      match ds with
      | [] => rfl
      | [d] => rw [if_pos (show [d].length = 1 from rfl)]
      | _ :: _ :: _ => rw [if_neg (by simp)]; rfl
@[simp] theorem e_rng2 : mRng2 ml r = (match ml r with
  | some (.ok [d, e] r') => M.lift (rngM [d, e]) r'
  | some (.ok _ _) => none
  | some (.ex c p) => some (.ex c p)
  | none => none) := by
  unfold mRng2 M.bind
  cases ml r with
  | none => rfl
  | some o =>
    cases o with
    | ex c p => rfl
    | ok ds r' =>
      dsimp only
      match ds with
      | [] => rfl
      | [_] => rw [if_neg (by simp)]; rfl
      | [d, e] => rw [if_pos (show [d, e].length = 2 from rfl)]
      | _ :: _ :: _ :: _ => rw [if_neg (by simp)]; rfl
@[simp] theorem e_part : mPart ma r = M.bind ma (fun d => M.lift ((asInt d).map some)) r := rfl
@[simp] theorem e_nopart : mNoPart r = some (.ok none r) := rfl
@[simp] theorem e_slice {mlo mhi : M (Option Int)} : mSlice ma mlo mhi r = M.bind ma (fun d => mlo.bind fun l => mhi.bind fun h => M.lift ((asList d).map fun ds => cutD ds l h)) r := rfl
@[simp] theorem e_star : mStar ma ml r = M.bind ma (fun d => (M.lift (asSeq d)).bind fun xs => ml.bind fun ds => M.ret (xs ++ ds)) r := rfl
@[simp] theorem e_rep : mRep ml mb r = M.bind ml (fun xs => mb.bind fun d => M.lift (repM xs d)) r := rfl
@[simp] theorem e_and : mAnd mt mu r = M.bind mt (fun b => if b then mu else M.ret false) r := rfl
@[simp] theorem e_or : mOr mt mu r = M.bind mt (fun b => if b then M.ret true else mu) r := rfl
@[simp] theorem e_andV : mAndV ma mb r = M.bind ma (fun d => (M.lift (asBool d)).bind fun b => if b then mb else M.ret (.bool false)) r := rfl
@[simp] theorem e_orV : mOrV ma mb r = M.bind ma (fun d => (M.lift (asBool d)).bind fun b => if b then M.ret (.bool true) else mb) r := rfl
@[simp] theorem e_if {m n : M α} : mIf mt m n r = M.bind mt (fun b => if b then m else n) r := rfl
@[simp] theorem e_chain {f g : PyData → PyData → Option PyData} : mChain f g ma mb mc r = M.bind ma (fun d => mb.bind fun e => (M.lift ((f d e).bind asBool)).bind fun k => if k then mc.bind fun h => M.lift ((g e h).bind fun z => (asBool z).map PyData.bool) else M.ret (.bool false)) r := rfl
@[simp] theorem e_mt {T : String} {g : PyData → List PyData → Option PyData} : mMt T g ma ml r = M.bind ma (fun d => if hasT T d then ml.bind fun ds => M.lift (g d ds) else fun _ => none) r := rfl
@[simp] theorem e_lrng1 : mLRng1 ma r = M.bind ma (fun d => M.lift ((asInt d).bind fun n => if n.natAbs ≤ 1000000 then some (rngL 0 n.toNat) else none)) r := rfl
@[simp] theorem e_lenO : mLenO i r = (match ownOf r[i]? with
  | some ds => some (.ok (.int ds.length) r)
  | none => none) := rfl
@[simp] theorem e_ixO : mIxO i ma r = if (ownOf r[i]?).isSome then (ma.bind fun d r => match ownOf r[i]?, asInt d with
  | some ds, some j => (atI ds j).map fun z => .ok z r
  | _, _ => none) r else none := rfl
@[simp] theorem e_truO : mTruO i r = (match ownOf r[i]? with
  | some ds => some (.ok (!ds.isEmpty) r)
  | none => none) := rfl
@[simp] theorem e_pop : mPop i r = (match ownOf r[i]? with
  | some ds => (ds[ds.length - 1]?).map fun z => .ok z (upO i ds.dropLast r)
  | none => none) := rfl
@[simp] theorem e_own_ow : ownOf (some (.ow ds)) = some ds := rfl
@[simp] theorem e_own_io : ownOf (some (.io ds)) = some ds := rfl
@[simp] theorem e_asBool {b : Bool} : asBool (.bool b) = some b := rfl
@[simp] theorem e_asInt {b : Int} : asInt (.int b) = some b := rfl
@[simp] theorem e_asList : asList (.list ds) = some ds := rfl
@[simp] theorem e_asTup : asTup (.tuple ds) = some ds := rfl
@[simp] theorem e_asSeqL : asSeq (.list ds) = some ds := rfl
@[simp] theorem e_asSeqT : asSeq (.tuple ds) = some ds := rfl
@[simp] theorem e_truB {b : Bool} : truD (.bool b) = some b := rfl
@[simp] theorem e_truL : truD (.list ds) = some (!ds.isEmpty) := rfl
@[simp] theorem e_truT : truD (.tuple ds) = some (!ds.isEmpty) := rfl
@[simp] theorem e_addI {a b : Int} : addM (.int a) (.int b) = some (.int (a + b)) := rfl
@[simp] theorem e_subI {a b : Int} : subM (.int a) (.int b) = some (.int (a - b)) := rfl
@[simp] theorem e_ltI {a b : Int} : ltM (.int a) (.int b) = some (.bool (decide (a < b))) := rfl
@[simp] theorem e_leI {a b : Int} : leM (.int a) (.int b) = some (.bool (decide (a ≤ b))) := rfl
@[simp] theorem e_gtI {a b : Int} : gtM (.int a) (.int b) = some (.bool (decide (b < a))) := rfl
@[simp] theorem e_geI {a b : Int} : geM (.int a) (.int b) = some (.bool (decide (b ≤ a))) := rfl
@[simp] theorem e_eqI {a b : Int} : eqM (.int a) (.int b) = some (.bool (a == b)) := rfl
@[simp] theorem e_neI {a b : Int} : neM (.int a) (.int b) = some (.bool (!(a == b))) := rfl
@[simp] theorem e_eqB {a b : Bool} : eqM (.bool a) (.bool b) = some (.bool (a == b)) := rfl
@[simp] theorem e_neB {a b : Bool} : neM (.bool a) (.bool b) = some (.bool (!(a == b))) := rfl
@[simp] theorem e_isN : isM d .none = some (.bool (isNone d)) := rfl
@[simp] theorem e_isNotN : isNotM d .none = some (.bool (!isNone d)) := rfl
@[simp] theorem e_isNone : isNone .none = true := rfl
@[simp] theorem e_isNoneI {a : Int} : isNone (.int a) = false := rfl
@[simp] theorem e_isNoneB {a : Bool} : isNone (.bool a) = false := rfl
@[simp] theorem e_isNoneT : isNone (.tuple ds) = false := rfl
@[simp] theorem e_isNoneL : isNone (.list ds) = false := rfl
@[simp] theorem e_lenL : lenM [.list ds] = some (.int ds.length) := rfl
@[simp] theorem e_lenT : lenM [.tuple ds] = some (.int ds.length) := rfl
@[simp] theorem e_intI {a : Int} : intM [.int a] = some (.int a) := rfl
@[simp] theorem e_intB {b : Bool} : intM [.bool b] = some (.int (if b then 1 else 0)) := rfl
@[simp] theorem e_tupleL : tupleM [.list ds] = some (.tuple ds) := rfl
@[simp] theorem e_tupleT : tupleM [.tuple ds] = some (.tuple ds) := rfl
@[simp] theorem e_listL : listM [.list ds] = some ds := rfl
@[simp] theorem e_listT : listM [.tuple ds] = some ds := rfl
@[simp] theorem e_negI {a : Int} : negM (.int a) = some (.int (-a)) := rfl
@[simp] theorem e_tup0 : tupM [] = some (.tuple []) := rfl
@[simp] theorem e_tup1 : tupM [d] = some (.tuple [d]) := rfl
@[simp] theorem e_tup2 : tupM [d, e] = some (.tuple [d, e]) := rfl
@[simp] theorem e_tup3 : tupM [d, e, z] = some (.tuple [d, e, z]) := rfl
@[simp] theorem e_tup4 {y : PyData} : tupM [d, e, z, y] = some (.tuple [d, e, z, y]) := rfl
@[simp] theorem e_lst0 : lstM [] = some [] := rfl
@[simp] theorem e_lst1 : lstM [d] = some [d] := rfl
@[simp] theorem e_lst2 : lstM [d, e] = some [d, e] := rfl
@[simp] theorem e_lst3 : lstM [d, e, z] = some [d, e, z] := rfl
@[simp] theorem e_ixL {j : Int} : ixM (.list ds) (.int j) = atI ds j := rfl
@[simp] theorem e_ixT {j : Int} : ixM (.tuple ds) (.int j) = atI ds j := rfl
@[simp] theorem e_isTyInt {a : Int} : isTy "int" (.int a) = true := rfl
@[simp] theorem e_isTyIntB {a : Bool} : isTy "int" (.bool a) = true := rfl
@[simp] theorem e_isTyBoolI {a : Int} : isTy "bool" (.int a) = false := rfl
@[simp] theorem e_isTyBool {a : Bool} : isTy "bool" (.bool a) = true := rfl
@[simp] theorem e_isTyList : isTy "list" (.list ds) = true := rfl
@[simp] theorem e_isTyListT : isTy "list" (.tuple ds) = false := rfl
@[simp] theorem e_isTyTuple : isTy "tuple" (.tuple ds) = true := rfl
@[simp] theorem e_isTyStr {x : Str} : isTy "str" (.str x) = true := rfl
@[simp] theorem e_isTyIntN : isTy "int" .none = false := rfl
@[simp] theorem e_isTyBoolN : isTy "bool" .none = false := rfl
@[simp] theorem e_hasTL : hasT "list" (.list ds) = true := rfl
@[simp] theorem e_asBoolMap {b : Bool} : (asBool (.bool b)).map PyData.bool = some (.bool b) := rfl
theorem e_mulI {a b : Int} (ha : a.natAbs < 2 ^ 1000) (hb : b.natAbs < 2 ^ 1000) : mulM (.int a) (.int b) = some (.int (a * b)) := by
  have h1 := PySem.Flt.log2_lt_of (by decide : 0 < 1000) ha
  have h2 := PySem.Flt.log2_lt_of (by decide : 0 < 1000) hb
  show (if _ then _ else _) = _
  rw [if_pos (by omega)]
theorem e_divI {a b : Int} (h : 0 < b) (hb : b.natAbs < 2 ^ 1000) : divM (.int a) (.int b) = some (.int (a / b)) := by
  have h2 := PySem.Flt.log2_lt_of (by decide : 0 < 1000) hb
  show (if _ then _ else _) = _
  rw [if_pos ⟨h, by omega⟩]
theorem e_modI {a b : Int} (h : 0 < b) : modM (.int a) (.int b) = some (.int (a % b)) := by
  show (if _ then _ else _) = _
  rw [if_pos h]
theorem e_addL (h : ds.length + es.length ≤ 1000000) : addM (.list ds) (.list es) = some (.list (ds ++ es)) := by
  show (if _ then _ else _) = _
  rw [if_pos h]
theorem e_at {xs : List α} {j : Nat} {v : α} (h : xs[j]? = some v) : atI xs (j : Int) = some v := atI_nat h
@[simp] theorem e_at0 {x : α} {xs : List α} : atI (x :: xs) 0 = some x := atI_nat (j := 0) rfl
@[simp] theorem e_at1 {x y : α} {xs : List α} : atI (x :: y :: xs) 1 = some y := atI_nat (j := 1) rfl
@[simp] theorem e_at2 {x y w : α} {xs : List α} : atI (x :: y :: w :: xs) 2 = some w := atI_nat (j := 2) rfl
@[simp] theorem e_asum {ns : List Int} : sumM [.list (ns.map PyData.int)] = some (.int ns.sum) := by
  show (intsOf _).map _ = _
  rw [intsOf_map]
  rfl
@[simp] theorem e_all {bs : List Bool} : allM [.list (bs.map PyData.bool)] = some (.bool (bs.all id)) := by
  show (boolsOf _).map _ = _
  rw [boolsOf_map]
  rfl
@[simp] theorem e_any {bs : List Bool} : anyM [.list (bs.map PyData.bool)] = some (.bool (bs.any id)) := by
  show (boolsOf _).map _ = _
  rw [boolsOf_map]
  rfl
end
section
variable {α : Type} {r r' : En} {m : M α} {k : α → SM} {a b : SM} {mc : M Bool} {ma mb : M PyData} {ml : M (List PyData)} {i j : Nat} {d : PyData} {ds : List PyData}
@[simp] theorem s_bind : sBind m k r = (match m r with
  | some (.ok a r') => k a r'
  | some (.ex c p) => some (.ex c p)
  | none => none) := rfl
@[simp] theorem s_nil : sNil r = some (.nx r) := rfl
@[simp] theorem s_seq : sSeq a b r = (match a r with
  | some (.nx r') => b r'
  | o => o) := rfl
@[simp] theorem s_expr : sExpr ma r = sBind ma (fun _ => sNil) r := rfl
@[simp] theorem s_ret : sRet ma r = sBind ma (fun d r => some (.rt d r)) r := rfl
@[simp] theorem s_retN : sRetN r = some (.rt .none r) := rfl
@[simp] theorem s_if : sIf mc a b r = sBind mc (fun k => if k then a else b) r := rfl
@[simp] theorem s_put : sPut i d r = (match r[i]? with
  | some (.io _) => none
  | some _ => some (.nx (r.set i (.pl d)))
  | none => none) := rfl
@[simp] theorem s_set : sSet i ma r = sBind ma (sPut i) r := rfl
@[simp] theorem s_putO : sPutO i ds r = (match r[i]? with
  | some (.io _) => none
  | some _ => some (.nx (r.set i (.ow ds)))
  | none => none) := rfl
@[simp] theorem s_own : sOwn i ml r = sBind ml (sPutO i) r := rfl
@[simp] theorem s_frz : sFrz i a r = (match r[i]? with
  | some (.ow ds) => a (r.set i (.pl (.list ds)))
  | _ => a r) := rfl
@[simp] theorem s_app : sApp i ma r = if (ownOf r[i]?).isSome then sBind ma (fun d r => match ownOf r[i]? with
  | some ds => if ds.length ≤ 1000000 then some (.nx (upO i (ds ++ [d]) r)) else none
  | none => none) r else none := rfl
@[simp] theorem s_putIx : sPutIx i ma mb r = sBind mb (fun d r1 => if (ownOf r1[i]?).isSome then sBind ma (fun j r => match ownOf r[i]?, asInt j with
  | some ds, some j => (ixN ds.length j).map fun n => .nx (upO i (ds.set n d) r)
  | _, _ => none) r1 else none) r := rfl
@[simp] theorem s_par : sPar i j ml r = sBind ml (fun ds r => match ds with
  | [d, e] => sSeq (sPut i d) (sPut j e) r
  | _ => none) r := rfl
@[simp] theorem s_asg {g : PyData → En → Option En} : sAsg ma g r = sBind ma (fun d r => (g d r).map .nx) r := rfl
@[simp] theorem s_ext : sExt i ma r = if (ownOf r[i]?).isSome then sBind ma (fun d r => match ownOf r[i]?, asTup d with
  | some ds, some es => if ds.length + es.length ≤ 1000000 then some (.nx (upO i (ds ++ es) r)) else none
  | _, _ => none) r else none := rfl
@[simp] theorem s_no : sNo r = none := rfl
@[simp] theorem s_brk : sBrk r = some (.bk r) := rfl
@[simp] theorem s_cont : sCont r = some (.ct r) := rfl
@[simp] theorem s_upO : upO i ds r = (match r[i]? with
  | some c => r.set i (reOwn ds c)
  | none => r) := rfl
@[simp] theorem s_re_ow {es : List PyData} : reOwn ds (.ow es) = .ow ds := rfl
@[simp] theorem s_re_io {es : List PyData} : reOwn ds (.io es) = .io ds := rfl
@[simp] theorem o_rt : outD (some (.rt d r)) = some d := rfl
@[simp] theorem o_nx : outD (some (.nx r)) = some .none := rfl
@[simp] theorem s_gN : gN i d r = (match r[i]? with
  | some c => if c.own then none else some (r.set i (.pl d))
  | none => none) := rfl
@[simp] theorem s_ownU : Cel.own .un = false := rfl
@[simp] theorem s_ownP : Cel.own (.pl d) = false := rfl
@[simp] theorem s_gTup {n : Nat} {g : List PyData → En → Option En} {es : List PyData} : gTupD n g (.tuple es) r = if es.length = n then g es r else none := rfl
@[simp] theorem s_gCons {g : PyData → En → Option En} {h : List PyData → En → Option En} {es : List PyData} : gConsD g h (d :: es) r = (g d r).bind (h es) := rfl
@[simp] theorem s_gNil : gNilD [] r = some r := rfl
@[simp] theorem s_wipe0 : wipeE r [] = r := rfl
@[simp] theorem s_wipeS {vs : List Nat} : wipeE r (i :: vs) = (wipeE r vs).set i .un := rfl
end
theorem restE_wipe {r : En} : ∀ {vs : List Nat} {r' : En}, r'.length = r.length → (∀ j, j ∉ vs → r'[j]? = r[j]?) → restE r r' vs = r
  | [], r', hl, h => List.ext_getElem? fun j => h j (by simp)
  | v :: vs, r', hl, h => by
    show (restE r (r'.set v .un) vs).set v ((r[v]?).getD .un) = r
    by_cases hv : v < r.length
    · have e : r[v]? = some r[v] := List.getElem?_eq_getElem hv
      -- the slot v first restored, then the others
      have key : ∀ {vs : List Nat} {r' : En}, r'.length = r.length → (∀ j, j ∉ vs → j ≠ v → r'[j]? = r[j]?) → (restE r r' vs).set v r[v] = r := by
        intro vs
        induction vs with
        | nil =>
          intro r' hl h
          show r'.set v r[v] = r
          refine List.ext_getElem? fun j => ?_
          by_cases z : v = j
          · subst z
            rw [List.getElem?_set_self (by omega), e]
          · rw [List.getElem?_set_ne z]
            exact h j (by simp) (Ne.symm z)
        | cons w ws ih =>
          intro r' hl h
          show ((restE r (r'.set w .un) ws).set w ((r[w]?).getD .un)).set v r[v] = r
          have step : (restE r (r'.set w .un) ws).set v r[v] = r ∨ w ∉ ws := by
            by_cases hw : w ∈ ws
            · exact .inl (ih (by rw [List.length_set]; exact hl) fun j hj hjv => by
                rw [List.getElem?_set_ne fun z => hj (by rw [← z]; exact hw)]
                exact h j (by
                  rw [List.mem_cons, not_or]
                  exact ⟨fun z => hj (by rw [z]; exact hw), hj⟩) hjv)
            · exact .inr hw
          have lenR : ∀ {vs : List Nat} {r' : En}, (restE r r' vs).length = r'.length := by
            intro vs
            induction vs with
            | nil => intro r'; rfl
            | cons a l ih => intro r'; show ((restE r (r'.set a .un) l).set a _).length = _; rw [List.length_set, ih, List.length_set]
          have outR : ∀ {vs : List Nat} {r' : En} {j : Nat}, j ∉ vs → (restE r r' vs)[j]? = r'[j]? := by
            intro vs
            induction vs with
            | nil => intro r' j _; rfl
            | cons a l ih =>
              intro r' j hj
              rw [List.mem_cons, not_or] at hj
              show ((restE r (r'.set a .un) l).set a _)[j]? = _
              rw [List.getElem?_set_ne (Ne.symm hj.1), ih hj.2, List.getElem?_set_ne (Ne.symm hj.1)]
          have inR : ∀ {vs : List Nat} {r' : En} {j : Nat}, r'.length = r.length → j ∈ vs → (restE r r' vs)[j]? = r[j]? := by
            intro vs
            induction vs with
            | nil => intro r' j _ hj; cases hj
            | cons a l ih =>
              intro r' j hl hj
              show ((restE r (r'.set a .un) l).set a ((r[a]?).getD .un))[j]? = _
              by_cases z : a = j
              · subst z
                by_cases hb : a < r.length
                · rw [List.getElem?_set_self (by rw [lenR, List.length_set, hl]; exact hb), List.getElem?_eq_getElem hb]
                  rfl
                · rw [List.getElem?_eq_none (by rw [List.length_set, lenR, List.length_set, hl]; omega), List.getElem?_eq_none (by omega)]
              · rw [List.getElem?_set_ne z]
                exact ih (by rw [List.length_set]; exact hl) ((List.mem_cons.mp hj).resolve_left (Ne.symm z))
          refine List.ext_getElem? fun j => ?_
          by_cases z : v = j
          · subst z
            rw [List.getElem?_set_self (by rw [List.length_set, lenR, List.length_set, hl]; exact hv), e]
          · rw [List.getElem?_set_ne z]
            by_cases hj : j ∈ w :: ws
            · exact inR (vs := w :: ws) hl hj
            · show (restE r r' (w :: ws))[j]? = _
              rw [outR hj]
              exact h j hj (Ne.symm z)
      rw [e]
      exact key (by rw [List.length_set]; exact hl) fun j hj hjv => by
        rw [List.getElem?_set_ne (Ne.symm hjv)]
        exact h j (by rw [List.mem_cons, not_or]; exact ⟨hjv, hj⟩)
    · rw [List.set_eq_of_length_le]
      · have hv' : r'.set v .un = r' := List.set_eq_of_length_le (by omega)
        rw [hv']
        refine restE_wipe hl fun j hj => ?_
        by_cases z : j = v
        · subst z
          rw [List.getElem?_eq_none (by omega), List.getElem?_eq_none (by omega)]
        · exact h j (by rw [List.mem_cons, not_or]; exact ⟨z, hj⟩)
      · have lenR : ∀ {vs : List Nat} {r' : En}, (restE r r' vs).length = r'.length := by
          intro vs
          induction vs with
          | nil => intro r'; rfl
          | cons a l ih => intro r'; show ((restE r (r'.set a .un) l).set a _).length = _; rw [List.length_set, ih, List.length_set]
        rw [lenR, List.length_set]
        omega
theorem wipeE_length {r : En} : ∀ {vs : List Nat}, (wipeE r vs).length = r.length
  | [] => rfl
  | v :: vs => by rw [s_wipeS, List.length_set, wipeE_length]
theorem wipeE_out {r : En} {j : Nat} : ∀ {vs : List Nat}, j ∉ vs → (wipeE r vs)[j]? = r[j]?
  | [], _ => rfl
  | v :: vs, h => by
    rw [List.mem_cons, not_or] at h
    rw [s_wipeS, List.getElem?_set_ne (Ne.symm h.1), wipeE_out h.2]
theorem filter_true {α : Type} {l : List α} : l.filter (fun _ => true) = l := List.filter_eq_self.mpr fun _ _ => rfl
theorem forGo_cons {g : PyData → En → Option En} {b : SM} {r : En} {x : PyData} {xs : List PyData} : forGo g b (x :: xs) r = (g x r).bind fun r1 => match b r1 with
    | some (.nx r2) => forGo g b xs r2
    | some (.ct r2) => forGo g b xs r2
    | some (.bk r2) => some (.nx r2)
    | o => o := rfl
theorem whGo_step {c : M Bool} {b : SM} {n : Nat} {r r1 : En} {k : Bool} (h : c r = some (.ok k r1)) : whGo c b (n + 1) r = if k then (match b r1 with
    | some (.nx r2) => whGo c b n r2
    | some (.ct r2) => whGo c b n r2
    | some (.bk r2) => some (.nx r2)
    | o => o) else some (.nx r1) := by
  rw [whGo, sBind, h]
  cases k <;> rfl
@[simp] theorem s_for {mi : M (List PyData)} {g : PyData → En → Option En} {b : SM} {r : En} : sFor mi g b r = sBind mi (fun items => forGo g b items) r := rfl
end DL
namespace DL
open PySem PySem.Spec PyProof.Rows L2 Lk
section
variable {α β : Type} {vs : List Nat} {mi : M (List PyData)} {g : PyData → En → Option En} {mt : M Bool} {me : M PyData} {r0 r : En}
theorem lcGo_m {f : α → PyData} {p : α → Bool} {F : α → PyData} {e : α → En} : ∀ {xs : List α} {r : En}, (∀ x ∈ xs, g (f x) (wipeE r vs) = some (e x)) → (∀ x ∈ xs, wipeE (e x) vs = wipeE r vs) →
    (∀ x ∈ xs, mt (e x) = some (.ok (p x) (e x))) → (∀ x ∈ xs, p x = true → me (e x) = some (.ok (F x) (e x))) → lcGo vs g mt me (xs.map f) r = some ((xs.filter p).map F, wipeE r vs)
  | [], _, _, _, _, _ => rfl
  | x :: xs, r, hg, hw, ht, he => by
    have h1 := hg x (List.mem_cons_self ..)
    have h2 := ht x (List.mem_cons_self ..)
    have h3 := hw x (List.mem_cons_self ..)
    have ih := lcGo_m (f := f) (p := p) (F := F) (e := e) (xs := xs) (r := e x) (fun y hy => by rw [h3]; exact hg y (List.mem_cons_of_mem _ hy)) (fun y hy => by rw [h3]; exact hw y (List.mem_cons_of_mem _ hy))
      (fun y hy => ht y (List.mem_cons_of_mem _ hy)) fun y hy => he y (List.mem_cons_of_mem _ hy)
    rw [List.map_cons, lcGo, h1]
    dsimp only [Option.bind]
    rw [h2]
    cases hp : p x with
    | false =>
      dsimp only
      rw [ih, h3, List.filter_cons, if_neg (by rw [hp]; exact Bool.false_ne_true)]
    | true =>
      have h4 := he x (List.mem_cons_self ..) hp
      dsimp only
      rw [h4]
      dsimp only
      rw [ih, h3, List.filter_cons, if_pos hp]
      rfl
/-- [F x for x in xs if p x], the names as they were -/
theorem lc_m (f : α → PyData) (p : α → Bool) (F : α → PyData) (e : α → En) {xs : List α} (hi : mi r0 = some (.ok (xs.map f) r)) (hf : freeAt r vs = true) (hl : xs.length ≤ 1000000)
    (hg : ∀ x ∈ xs, g (f x) (wipeE r vs) = some (e x)) (hw : ∀ x ∈ xs, wipeE (e x) vs = wipeE r vs) (ht : ∀ x ∈ xs, mt (e x) = some (.ok (p x) (e x))) (he : ∀ x ∈ xs, p x = true → me (e x) = some (.ok (F x) (e x))) :
    mLc vs mi g mt me r0 = some (.ok ((xs.filter p).map F) r) := by
  unfold mLc M.bind
  rw [hi]
  dsimp only
  rw [hf, decide_eq_true (by rw [List.length_map]; exact hl), lcGo_m hg hw ht he]
  show some (Out.ok _ (restE r (wipeE r vs) vs)) = _
  rw [restE_wipe wipeE_length fun j hj => wipeE_out hj]
/-- [F x for x in xs] -/
theorem lc_y (f : α → PyData) (F : α → PyData) (e : α → En) {xs : List α} (hi : mi r0 = some (.ok (xs.map f) r)) (hf : freeAt r vs = true) (hl : xs.length ≤ 1000000)
    (hg : ∀ x ∈ xs, g (f x) (wipeE r vs) = some (e x)) (hw : ∀ x ∈ xs, wipeE (e x) vs = wipeE r vs) (he : ∀ x ∈ xs, me (e x) = some (.ok (F x) (e x))) :
    mLc vs mi g mYes me r0 = some (.ok (xs.map F) r) := by
  have := lc_m (mt := mYes) f (fun _ => true) F e hi hf hl hg hw (fun _ _ => rfl) fun x hx _ => he x hx
  rw [filter_true] at this
  exact this
theorem for_m {b : SM} (f : α → PyData) (enc : β → En) (step : β → α → β) (I : β → List α → Prop) : ∀ {xs : List α} {s : β}, I s xs → (∀ s x xs, I s (x :: xs) → ∃ r1, g (f x) (enc s) = some r1 ∧ (b r1 = some (.nx (enc (step s x))) ∨ b r1 = some (.ct (enc (step s x)))) ∧ I (step s x) xs) →
    forGo g b (xs.map f) (enc s) = some (.nx (enc (xs.foldl step s)))
  | [], _, _, _ => rfl
  | x :: xs, s, h0, h => by
    obtain ⟨r1, h1, h2, h3⟩ := h s x xs h0
    rw [List.map_cons, forGo_cons, h1]
    dsimp only [Option.bind]
    rcases h2 with h2 | h2
    · rw [h2]
      exact for_m f enc step I h3 h
    · rw [h2]
      exact for_m f enc step I h3 h
end
theorem for_i {α : Type} {g : PyData → En → Option En} {b : SM} (f : α → PyData) (I : List α → En → Prop) : ∀ {xs : List α} {r : En}, I xs r → (∀ x xs r, I (x :: xs) r → ∃ r1 r2, g (f x) r = some r1 ∧ b r1 = some (.nx r2) ∧ I xs r2) →
    ∃ r2, forGo g b (xs.map f) r = some (.nx r2) ∧ I [] r2
  | [], r, h0, _ => ⟨r, rfl, h0⟩
  | x :: xs, r, h0, h => by
    obtain ⟨r1, r2, h1, h2, h3⟩ := h x xs r h0
    rw [List.map_cons, forGo_cons, h1]
    dsimp only [Option.bind]
    rw [h2]
    exact for_i f I h3 h
end DL
namespace DL
open PySem PySem.Spec PyProof.Rows L2 Lk
def nD (n : Nat) : PyData := .int (n : Int)
abbrev nsD (ns : List Nat) : PyData := .list (ns.map nD)
@[simp] theorem e_lt_n {a b : Nat} : ltM (nD a) (nD b) = some (.bool (decide (a < b))) := by
  show some (PyData.bool (decide ((a : Int) < b))) = _
  simp
@[simp] theorem e_eq_n {a b : Nat} : eqM (nD a) (nD b) = some (.bool (a == b)) := by
  show some (PyData.bool ((a : Int) == b)) = _
  have : ((a : Int) == b) = (a == b) := by rw [Bool.eq_iff_iff, beq_iff_eq, beq_iff_eq]; omega
  rw [this]
@[simp] theorem e_ne_n {a b : Nat} : neM (nD a) (nD b) = some (.bool (!(a == b))) := by
  show some (PyData.bool (!((a : Int) == b))) = _
  have : ((a : Int) == b) = (a == b) := by rw [Bool.eq_iff_iff, beq_iff_eq, beq_iff_eq]; omega
  rw [this]
theorem nD0 : PyData.int 0 = nD 0 := rfl
@[simp] theorem e_isNone_n {a : Nat} : isNone (nD a) = false := rfl
theorem g_is_integer_int (i : Int) : g_is_integer [.int i] = some (.bool true) := by
  rw [r_is_integer]; simp [v_is_integer]
theorem g_below (i l : Int) : g_is_integer_below [.int i, .int l] = some (.bool (decide (0 ≤ i ∧ i < l))) := by
  rw [r_is_integer_below]
  by_cases h : 0 ≤ i <;> simp [v_is_integer_below, g_is_integer_int, h]
theorem g_below_n (i l : Nat) : g_is_integer_below [nD i, nD l] = some (.bool (decide (i < l))) := by
  have := g_below i l
  simpa [nD] using this
def AscFrom : Nat → Nat → List Nat → Prop
  | _, _, [] => True
  | lo, lim, v :: vs => lo ≤ v ∧ v < lim ∧ AscFrom (v + 1) lim vs
theorem g_asc {d : PyData} {vs : List Nat} {lim : Nat} (hd : asSeq d = some (vs.map nD)) (h : AscFrom 0 lim vs) : g_are_ascending_below [d, nD lim] = some (.bool true) := by
  rw [r_are_ascending_below]
  have L := for_m (b := sSeq (sIf (mOr (mNotT (mTru (mCall g_is_integer_below (mCons (mV 3) (mCons (mV 1) mNil))))) (mOpT ltM (mV 3) (mV 2))) (sRet (M.ret (.bool false))) sNil) (sSet 2 (mOp2 addM (mV 3) (M.ret (.int 1)))))
    (g := gN 3) nD (fun (s : Nat × Cel) => [.pl d, .pl (nD lim), .pl (nD s.1), s.2]) (fun s v => (v + 1, .pl (nD v))) (fun s xs => AscFrom s.1 lim xs ∧ s.2.own = false) (xs := vs) (s := (0, .un)) ⟨h, rfl⟩
    (by
      rintro ⟨lo, c⟩ v xs ⟨⟨h1, h2, h3⟩, hc⟩
      have nlt : ¬ v < lo := by omega
      simp only at hc h1
      refine ⟨[.pl d, .pl (nD lim), .pl (nD lo), .pl (nD v)], by simp [hc], .inl ?_, h3, rfl⟩
      simp [g_below_n, h2, nlt]
      rfl)
  simp only [nD0] at *
  simp [v_are_ascending_below, hd, nD0]
  rw [L]
  rfl
def Sz (ns : List Nat) : Prop := ns.length ≤ 24 ∧ ∀ n ∈ ns, 2 ≤ n ∧ n ≤ 6
theorem g_is_sizes_ok {ns : List Nat} (h : Sz ns) : g_is_sizes [nsD ns] = some (.bool true) := by
  rw [r_is_sizes]
  have lc := lc_y (vs := [1]) (mi := mSeq (mV 0)) (g := gN 1) (me := mAndV (mCall g_is_integer (mCons (mV 1) mNil)) (mChain leM leM (M.ret (.int 2)) (mV 1) (M.ret (.int 6)))) (r0 := [.pl (nsD ns), .un]) (r := [.pl (nsD ns), .un]) nD (fun _ => .bool true) (fun x => [.pl (nsD ns), .pl (nD x)]) (xs := ns)
    (by simp) (by simp [freeAt]) (by have := h.1; omega) (by simp) (by simp) (by
      intro x hx
      have := h.2 x hx
      have a1 : (2 : Int) ≤ x := by omega
      have a2 : (x : Int) ≤ 6 := by omega
      simp [g_is_integer_int, nD, a1, a2])
  have hl : ¬ (24 : Int) < (ns.length : Int) := by have := h.1; omega
  simp [v_is_sizes, hl, lc]
  have := e_all (bs := ns.map fun _ => true)
  rw [List.map_map] at this
  rw [show (List.map (fun _ => PyData.bool true) ns) = List.map (PyData.bool ∘ fun _ => true) ns from rfl, this]
  simp
theorem g_check_sizes_ok {ns : List Nat} (h : Sz ns) : g_check_sizes [nsD ns] = some .none := by
  rw [r_check_sizes]
  simp [v_check_sizes, g_is_sizes_ok h]
def prod : List Nat → Nat
  | [] => 1
  | n :: ns => n * prod ns
theorem foldl_mul : ∀ (ns : List Nat) (a : Nat), ns.foldl (· * ·) a = a * prod ns
  | [], a => by show a = a * 1; omega
  | n :: ns, a => by
    show ns.foldl (· * ·) (a * n) = _
    rw [foldl_mul ns, prod, Nat.mul_assoc]
theorem prod_le : ∀ {ns : List Nat}, (∀ n ∈ ns, n ≤ 6) → prod ns ≤ 6 ^ ns.length
  | [], _ => by decide
  | n :: ns, h => by
    have h1 := h n (List.mem_cons_self ..)
    have h2 := prod_le (ns := ns) fun m hm => h m (List.mem_cons_of_mem _ hm)
    rw [prod, List.length_cons, Nat.pow_succ, Nat.mul_comm (6 ^ _)]
    exact Nat.mul_le_mul h1 h2
theorem prod_small {ns : List Nat} (h : Sz ns) : prod ns ≤ 6 ^ 24 := Nat.le_trans (prod_le fun n hn => (h.2 n hn).2) (Nat.pow_le_pow_right (by decide) h.1)
theorem prod_pos : ∀ {ns : List Nat}, (∀ n ∈ ns, 0 < n) → 0 < prod ns
  | [], _ => by decide
  | n :: ns, h => Nat.mul_pos (h n (List.mem_cons_self ..)) (prod_pos fun m hm => h m (List.mem_cons_of_mem _ hm))
theorem e_mul_n {a b : Nat} (ha : a < 2 ^ 1000) (hb : b < 2 ^ 1000) : mulM (nD a) (nD b) = some (nD (a * b)) := by
  have := e_mulI (a := a) (b := b) (by simpa using ha) (by simpa using hb)
  unfold nD
  rw [this, Int.natCast_mul]
theorem lt_big {a k : Nat} (h : a ≤ k) (hk : k < 2 ^ 1000 := by decide) : a < 2 ^ 1000 := Nat.lt_of_le_of_lt h hk
theorem g_number_ok {ns : List Nat} (h : Sz ns) : g_number_of_cases [nsD ns] = some (nD (prod ns)) := by
  rw [r_number_of_cases]
  have L := for_m (b := sSet 1 (mOp2 mulM (mV 1) (mV 2))) (g := gN 2) nD (fun (s : Nat × Cel) => [.pl (nsD ns), .pl (nD s.1), s.2]) (fun s v => (s.1 * v, .pl (nD v))) (fun s xs => s.1 * prod xs ≤ 6 ^ 24 ∧ (∀ x ∈ xs, 2 ≤ x ∧ x ≤ 6) ∧ s.2.own = false) (xs := ns) (s := (1, .un))
    ⟨by have := prod_small h; omega, h.2, rfl⟩ (by
      rintro ⟨a, c⟩ v xs ⟨h1, h2, hc⟩
      simp only at hc h1
      have b := h2 v (List.mem_cons_self ..)
      have pp : 0 < prod xs := prod_pos fun m hm => by have := h2 m (List.mem_cons_of_mem _ hm); omega
      rw [prod, ← Nat.mul_assoc] at h1
      have a1 : a * v ≤ 6 ^ 24 := Nat.le_trans (Nat.le_mul_of_pos_right _ pp) h1
      have a2 : a ≤ 6 ^ 24 := Nat.le_trans (Nat.le_mul_of_pos_right _ (by omega)) a1
      refine ⟨[.pl (nsD ns), .pl (nD a), .pl (nD v)], by simp [hc], .inl ?_, h1, fun x hx => h2 x (List.mem_cons_of_mem _ hx), rfl⟩
      simp [e_mul_n (lt_big a2) (lt_big b.2)])
  have e1 : PyData.int 1 = nD 1 := rfl
  simp [v_number_of_cases, e1]
  rw [L]
  have key : ∀ (xs : List Nat) (s : Nat × Cel), (xs.foldl (fun (s : Nat × Cel) (v : Nat) => (s.1 * v, Cel.pl (nD v))) s).1 = xs.foldl (· * ·) s.1 := fun xs => by
    induction xs with
    | nil => intro s; rfl
    | cons x xs ih => intro s; exact ih _
  simp [key, foldl_mul]
theorem g_is_small_ok {ns : List Nat} (h : Sz ns) : g_is_small_sheet [nsD ns] = some (.bool (decide (prod ns ≤ 1024))) := by
  rw [r_is_small_sheet]
  simp [v_is_small_sheet, g_number_ok h, nD]
  omega
end DL
namespace DL
open PySem PySem.Spec PyProof.Rows L2 Lk
def oD : Option Nat → PyData
  | none => .none
  | some v => nD v
abbrev halfD (hs : List (Option Nat)) : PyData := .list (hs.map oD)
def Half (ns : List Nat) (hs : List (Option Nat)) : Prop := hs.length = ns.length ∧ ∀ (i n v : Nat), ns[i]? = some n → hs[i]? = some (some v) → v < n
def Case (ns cs : List Nat) : Prop := cs.length = ns.length ∧ ∀ (i n c : Nat), ns[i]? = some n → cs[i]? = some c → c < n
theorem rng_nat (n : Nat) : rngL 0 n = (List.range n).map nD := by
  unfold rngL nD
  refine List.map_congr_left fun i _ => ?_
  rw [Int.zero_add]
theorem at_n {α : Type} {xs : List α} {i : Nat} {v : α} (h : xs[i]? = some v) : atI xs (i : Int) = some v := atI_nat h
@[simp] theorem e_ix_n {f : Nat → PyData} {xs : List Nat} {i : Nat} : ixM (.list (xs.map f)) (nD i) = (xs[i]?).map f := by
  show atI _ _ = _
  cases h : xs[i]? with
  | none =>
    have : xs.length ≤ i := List.getElem?_eq_none_iff.mp h
    unfold atI ixN
    rw [List.length_map]
    rw [if_pos (by omega), if_neg (by omega)]
    rfl
  | some v => exact at_n (by rw [List.getElem?_map, h]; rfl)
theorem e_ix_l {α : Type} {f : α → PyData} {xs : List α} {i : Nat} : ixM (.list (xs.map f)) (nD i) = (xs[i]?).map f := by
  show atI _ _ = _
  cases h : xs[i]? with
  | none =>
    have : xs.length ≤ i := List.getElem?_eq_none_iff.mp h
    unfold atI ixN
    rw [List.length_map]
    rw [if_pos (by omega), if_neg (by omega)]
    rfl
  | some v => exact at_n (by rw [List.getElem?_map, h]; rfl)
theorem e_ix_t {α : Type} {f : α → PyData} {xs : List α} {i : Nat} : ixM (.tuple (xs.map f)) (nD i) = (xs[i]?).map f := by
  show atI _ _ = _
  cases h : xs[i]? with
  | none =>
    have : xs.length ≤ i := List.getElem?_eq_none_iff.mp h
    unfold atI ixN
    rw [List.length_map]
    rw [if_pos (by omega), if_neg (by omega)]
    rfl
  | some v => exact at_n (by rw [List.getElem?_map, h]; rfl)
/-- range(n) as it is walked -/
theorem e_rng (n : Nat) (h : n ≤ 1000000) : rngM [.int (n : Int)] = some ((List.range n).map nD) := by
  have : rngM [.int (n : Int)] = if (n : Int).natAbs ≤ 1000000 then some (rngL 0 (n : Int).toNat) else none := by rw [rngM]
  rw [this, if_pos (by omega), Int.toNat_natCast, rng_nat]
@[simp] theorem asInt_n {n : Nat} : asInt (nD n) = some (n : Int) := rfl
theorem e_rng_n (n : Nat) (h : n ≤ 1000000) : rngM [nD n] = some ((List.range n).map nD) := e_rng n h
theorem e_allT {α : Type} {xs : List α} {f : α → Bool} : allM [.list (xs.map fun x => PyData.bool (f x))] = some (.bool (xs.all f)) := by
  have := e_all (bs := xs.map f)
  rw [List.map_map] at this
  rw [show List.map (fun x => PyData.bool (f x)) xs = List.map (PyData.bool ∘ f) xs from rfl, this, List.all_map]
  rfl
@[simp] theorem isNone_oD {o : Option Nat} : isNone (oD o) = o.isNone := by cases o <;> rfl
end DL
namespace DL
open PySem PySem.Spec PyProof.Rows L2 Lk
section
variable {r : En} {m : M (List PyData)} {mq : M PQ} {md : M PyData} {i : Nat} {z : PyData} {ds bs : List PyData}
@[simp] theorem e_callQ {g : List PyData → Option PQ} : mCallQ g m r = M.bind m (fun ds => M.lift (g ds)) r := rfl
@[simp] theorem s_setQ : sSetQ i mq r = sBind mq (fun z => match z with
  | .inl d => sPut i d
  | .inr ds => sPutO i ds) r := rfl
@[simp] theorem s_retF : sRetF m r = sBind m (fun ds r => some (.rf ds r)) r := rfl
@[simp] theorem s_retQ : sRetQ mq r = sBind mq (fun z r => match z with
  | .inl d => some (.rt d r)
  | .inr ds => some (.rf ds r)) r := rfl
@[simp] theorem s_retO : sRetO i r = (match r[i]? with
  | some (.ow ds) => some (.rf ds r)
  | _ => none) := rfl
@[simp] theorem q_rt : outQ (some (.rt z r)) = some (.inl z) := rfl
@[simp] theorem q_nx : outQ (some (.nx r)) = some (.inl .none) := rfl
@[simp] theorem q_rf : outQ (some (.rf ds r)) = some (.inr ds) := rfl
@[simp] theorem m_rt : outM (some (.rt z r)) = (ioAt r).map fun bs => (z, bs) := rfl
@[simp] theorem m_nx : outM (some (.nx r)) = (ioAt r).map fun bs => (.none, bs) := rfl
@[simp] theorem m_io : ioAt (.io bs :: r) = some bs := rfl
@[simp] theorem e_bits : mBits md r = M.bind md (fun d => M.lift ((asInt d).map fun i => .int (Builtin.Int.intBits i : Nat))) r := rfl
@[simp] theorem e_callM {g : List PyData → List PyData → Option (PyData × List PyData)} : mCallM i m g r = if (ownOf r[i]?).isSome then (m.bind fun ds r => match ownOf r[i]? with
  | some bs => (g bs ds).map fun z => .ok z.1 (upO i z.2 r)
  | none => none) r else none := rfl
@[simp] theorem e_peek {mt : M Bool} : mPeek mt r = if r.all noIo then (match mt (fz r) with
  | some (.ok b _) => some (.ok b r)
  | some (.ex c p) => some (.ex c p)
  | none => none) else none := rfl
@[simp] theorem e_peekV {md : M PyData} : mPeekV md r = if r.all noIo then (match md (fz r) with
  | some (.ok d _) => if atomD d then some (.ok d r) else none
  | some (.ex c p) => some (.ex c p)
  | none => none) else none := rfl
@[simp] theorem e_peekF {m : M (List PyData)} : mPeekF m r = if r.all noIo then (match m (fz r) with
  | some (.ok ds _) => if ds.all atomD then some (.ok ds r) else none
  | some (.ex c p) => some (.ex c p)
  | none => none) else none := rfl
@[simp] theorem e_callX {g : List PyData → Option PX} : mCallX g m r = M.bind m (fun ds r => match g ds with
  | some (.inl z) => some (.ok z r)
  | some (.inr c) => some (.ex c [])
  | none => none) r := rfl
@[simp] theorem s_raise {c : Str} : sRaise c r = some (.ex c []) := rfl
@[simp] theorem x_rt : outX (some (.rt z r)) = some (.inl z) := rfl
@[simp] theorem x_nx : outX (some (.nx r)) = some (.inl .none) := rfl
@[simp] theorem x_ex {c : Str} : outX (some (.ex c [])) = some (.inr c) := rfl
@[simp] theorem s_okNx {d : PyData} : okNx d r = some (.nx r) := rfl
@[simp] theorem s_try {L : List Str} {g : List PyData → Option PX} {hs : List (Str × SM)} {ok : PyData → SM} : sTry L g m hs ok r = (match m r with
  | some (.ok ds r') => match g ds with
    | some (.inl z) => ok z r'
    | some (.inr c) => if L.contains c then (match pick c hs with
      | some sv => sv r'
      | none => none) else none
    | none => none
  | _ => none) := rfl
end
def fzC : Cel → Cel
  | .ow ds => .pl (.list ds)
  | c => c
theorem fzTo_at {r : En} : ∀ {n j : Nat}, (fzTo n r)[j]? = if j < n then r[j]?.map fzC else r[j]?
  | 0, j => by simp [fzTo]
  | n + 1, j => by
    have ih := @fzTo_at r n
    have hn := ih (j := n)
    rw [if_neg (by omega)] at hn
    have len : ∀ m, (fzTo m r).length = r.length := fun m => by
      induction m with
      | zero => rfl
      | succ m im =>
        rw [fzTo]
        split
        · rw [List.length_set]; exact im
        · exact im
    rw [fzTo]
    by_cases hj : j = n
    · subst hj
      rw [if_pos (by omega)]
      split
      · rename_i ds e
        rw [hn] at e
        rw [List.getElem?_set_self (by rw [len]; exact (List.getElem?_eq_some_iff.mp e).1), e]
        rfl
      · rename_i e
        rw [hn]
        cases h : r[j]? with
        | none => rfl
        | some c =>
          cases c with
          | ow ds => exact (e ds (hn.trans h)).elim
          | _ => rfl
    · have q : (fzTo n r)[j]? = if j < n + 1 then r[j]?.map fzC else r[j]? := by
        rw [ih]
        by_cases h : j < n
        · rw [if_pos h, if_pos (by omega)]
        · rw [if_neg h, if_neg (by omega)]
      split
      · rw [List.getElem?_set_ne (Ne.symm hj)]
        exact q
      · exact q
theorem fz_map {r : En} : fz r = r.map fzC := List.ext_getElem? fun j => by
  unfold fz
  rw [fzTo_at, List.getElem?_map]
  split
  · rfl
  · rename_i h
    rw [List.getElem?_eq_none (by omega)]
    rfl
@[simp] theorem fz_nil : fz [] = [] := rfl
@[simp] theorem fz_cons {c : Cel} {r : En} : fz (c :: r) = fzC c :: fz r := by rw [fz_map, fz_map]; rfl
@[simp] theorem fzC_ow {ds : List PyData} : fzC (.ow ds) = .pl (.list ds) := rfl
@[simp] theorem fzC_pl {d : PyData} : fzC (.pl d) = .pl d := rfl
@[simp] theorem fzC_un : fzC .un = .un := rfl
@[simp] theorem noIo_ow {ds : List PyData} : noIo (.ow ds) = true := rfl
@[simp] theorem noIo_pl {d : PyData} : noIo (.pl d) = true := rfl
@[simp] theorem noIo_un : noIo .un = true := rfl
@[simp] theorem atom_int {i : Int} : atomD (.int i) = true := rfl
@[simp] theorem atom_bool {i : Bool} : atomD (.bool i) = true := rfl
@[simp] theorem atom_none : atomD .none = true := rfl
@[simp] theorem atom_str {s : Str} : atomD (.str s) = true := rfl
end DL
namespace DL
open PySem PySem.Spec PyProof.Rows L2 Lk
end DL
namespace DL
open PySem PySem.Spec PyProof.Rows L2 Lk
theorem log_lt {a : Int} {k : Nat} (h0 : 0 ≤ a) (h : a < 2 ^ k) (hk : 0 < k) : a.natAbs.log2 < k := PySem.Flt.log2_lt_of hk (by
  have : ((2 ^ k : Nat) : Int) = 2 ^ k := by simp
  omega)
theorem e_mulK {a b : Int} {k l : Nat} (ha : 0 ≤ a) (ha' : a < 2 ^ k) (hb : 0 ≤ b) (hb' : b < 2 ^ l) (hk : 0 < k) (hl : 0 < l) (h : k + l < 100000000) : mulM (.int a) (.int b) = some (.int (a * b)) := by
  have h1 := log_lt ha ha' hk
  have h2 := log_lt hb hb' hl
  show (if _ then _ else _) = _
  rw [if_pos (by omega)]
def BitsI (c : Int) : Prop := Builtin.Int.intBits c ≤ 1048576
structure Bag where
  a : Int
  b : Int
  n : Nat
def Bag.D (B : Bag) : List PyData := [.int B.a, .int B.b, nD B.n]
structure Bag.Ok (B : Bag) : Prop where
  a0 : 0 ≤ B.a
  b0 : 0 ≤ B.b
  b1 : B.b < 2305843009213693951
  n1 : B.n ≤ 1000000000
theorem e_pow1018 : powM (.int 10) (.int 18) = some (.int 1000000000000000000) := by rfl
theorem e_atB0 {B : Bag} : atI B.D 0 = some (.int B.a) := e_at0
theorem e_atB1 {B : Bag} : atI B.D 1 = some (.int B.b) := e_at1
theorem e_atB2 {B : Bag} : atI B.D 2 = some (nD B.n) := e_at2
theorem ixB0 {B : Bag} : ixN B.D.length 0 = some 0 := rfl
theorem ixB2 {B : Bag} : ixN B.D.length 2 = some 2 := rfl
theorem set2 {B : Bag} {k : Nat} : B.D.set 2 (nD k) = (Bag.mk B.a B.b k).D := rfl
theorem set0 {B : Bag} {a : Int} : B.D.set 0 (.int a) = (Bag.mk a B.b B.n).D := rfl
theorem bits_le {m k : Nat} (h : m < 2 ^ k) : Builtin.Int.intBits (m : Int) ≤ k := by
  unfold Builtin.Int.intBits
  split
  · exact Nat.zero_le _
  · rename_i z
    have : m ≠ 0 := fun e => z (by rw [e]; rfl)
    have h2 : m.log2 < k := (Nat.log2_lt this).mpr h
    show (m : Int).natAbs.log2 + 1 ≤ k
    rw [Int.natAbs_natCast]
    omega
end DL
namespace DL
open PySem PySem.Spec PyProof.Rows L2 Lk
theorem shaped_of {d : PyData} (h1 : d.canLay0 = true) (h2 : d.depth ≤ 64) : SeqAt.shaped d = true := by
  unfold SeqAt.shaped
  rw [h1, decide_eq_true h2]
  rfl
theorem e_eqD {d e : PyData} (h1 : SeqAt.shaped d = true) (h2 : SeqAt.shaped e = true) : eqM d e = some (.bool (PyData.eqv d e)) := by
  unfold eqM
  rw [h1, h2]
  rfl
theorem e_neD {d e : PyData} (h1 : SeqAt.shaped d = true) (h2 : SeqAt.shaped e = true) : neM d e = some (.bool (!PyData.eqv d e)) := by
  unfold neM
  rw [h1, h2]
  rfl
theorem sh_str {a : Str} (h : PyData.strOk a = true) : SeqAt.shaped (.str a) = true := shaped_of (by rw [PyData.canLay0]; exact h) (by rw [PyData.depth]; omega)
theorem e_eqS {a b : Str} (ha : PyData.strOk a = true) (hb : PyData.strOk b = true) : eqM (.str a) (.str b) = some (.bool (a == b)) := by
  rw [e_eqD (sh_str ha) (sh_str hb), PyData.eqv]
theorem in_join {w : Str} : inM (.str w) c_JOINING_WORDS = some (.bool ((("and" : Str) == w) || ((("or" : Str) == w) || (("odd" : Str) == w)))) := by
  simp [inM, c_JOINING_WORDS, flatD, memD, PyData.eqv]
@[simp] theorem ws0 : eqM (.str "say") (.str "say") = some (.bool true) := (e_eqS (by decide +kernel) (by decide +kernel)).trans (congrArg (fun b => some (PyData.bool b)) (by decide +kernel))
@[simp] theorem ws1 : eqM (.str "say") (.str "is") = some (.bool false) := (e_eqS (by decide +kernel) (by decide +kernel)).trans (congrArg (fun b => some (PyData.bool b)) (by decide +kernel))
@[simp] theorem ws2 : eqM (.str "say") (.str "tree") = some (.bool false) := (e_eqS (by decide +kernel) (by decide +kernel)).trans (congrArg (fun b => some (PyData.bool b)) (by decide +kernel))
@[simp] theorem ws3 : eqM (.str "say") (.str "rules") = some (.bool false) := (e_eqS (by decide +kernel) (by decide +kernel)).trans (congrArg (fun b => some (PyData.bool b)) (by decide +kernel))
@[simp] theorem ws4 : eqM (.str "say") (.str "card") = some (.bool false) := (e_eqS (by decide +kernel) (by decide +kernel)).trans (congrArg (fun b => some (PyData.bool b)) (by decide +kernel))
@[simp] theorem ws5 : eqM (.str "say") (.str "table") = some (.bool false) := (e_eqS (by decide +kernel) (by decide +kernel)).trans (congrArg (fun b => some (PyData.bool b)) (by decide +kernel))
@[simp] theorem ws6 : eqM (.str "say") (.str "not") = some (.bool false) := (e_eqS (by decide +kernel) (by decide +kernel)).trans (congrArg (fun b => some (PyData.bool b)) (by decide +kernel))
@[simp] theorem ws7 : eqM (.str "say") (.str "and") = some (.bool false) := (e_eqS (by decide +kernel) (by decide +kernel)).trans (congrArg (fun b => some (PyData.bool b)) (by decide +kernel))
@[simp] theorem ws8 : eqM (.str "say") (.str "or") = some (.bool false) := (e_eqS (by decide +kernel) (by decide +kernel)).trans (congrArg (fun b => some (PyData.bool b)) (by decide +kernel))
@[simp] theorem ws9 : eqM (.str "say") (.str "odd") = some (.bool false) := (e_eqS (by decide +kernel) (by decide +kernel)).trans (congrArg (fun b => some (PyData.bool b)) (by decide +kernel))
@[simp] theorem wj10 : inM (.str "say") c_JOINING_WORDS = some (.bool false) := in_join.trans (congrArg (fun b => some (PyData.bool b)) (by decide +kernel))
@[simp] theorem wi10 : isTy "str" (.str "say") = true := rfl
@[simp] theorem ws10 : eqM (.str "is") (.str "say") = some (.bool false) := (e_eqS (by decide +kernel) (by decide +kernel)).trans (congrArg (fun b => some (PyData.bool b)) (by decide +kernel))
@[simp] theorem ws11 : eqM (.str "is") (.str "is") = some (.bool true) := (e_eqS (by decide +kernel) (by decide +kernel)).trans (congrArg (fun b => some (PyData.bool b)) (by decide +kernel))
@[simp] theorem ws12 : eqM (.str "is") (.str "tree") = some (.bool false) := (e_eqS (by decide +kernel) (by decide +kernel)).trans (congrArg (fun b => some (PyData.bool b)) (by decide +kernel))
@[simp] theorem ws13 : eqM (.str "is") (.str "rules") = some (.bool false) := (e_eqS (by decide +kernel) (by decide +kernel)).trans (congrArg (fun b => some (PyData.bool b)) (by decide +kernel))
@[simp] theorem ws14 : eqM (.str "is") (.str "card") = some (.bool false) := (e_eqS (by decide +kernel) (by decide +kernel)).trans (congrArg (fun b => some (PyData.bool b)) (by decide +kernel))
@[simp] theorem ws15 : eqM (.str "is") (.str "table") = some (.bool false) := (e_eqS (by decide +kernel) (by decide +kernel)).trans (congrArg (fun b => some (PyData.bool b)) (by decide +kernel))
@[simp] theorem ws16 : eqM (.str "is") (.str "not") = some (.bool false) := (e_eqS (by decide +kernel) (by decide +kernel)).trans (congrArg (fun b => some (PyData.bool b)) (by decide +kernel))
@[simp] theorem ws17 : eqM (.str "is") (.str "and") = some (.bool false) := (e_eqS (by decide +kernel) (by decide +kernel)).trans (congrArg (fun b => some (PyData.bool b)) (by decide +kernel))
@[simp] theorem ws18 : eqM (.str "is") (.str "or") = some (.bool false) := (e_eqS (by decide +kernel) (by decide +kernel)).trans (congrArg (fun b => some (PyData.bool b)) (by decide +kernel))
@[simp] theorem ws19 : eqM (.str "is") (.str "odd") = some (.bool false) := (e_eqS (by decide +kernel) (by decide +kernel)).trans (congrArg (fun b => some (PyData.bool b)) (by decide +kernel))
@[simp] theorem wj20 : inM (.str "is") c_JOINING_WORDS = some (.bool false) := in_join.trans (congrArg (fun b => some (PyData.bool b)) (by decide +kernel))
@[simp] theorem wi20 : isTy "str" (.str "is") = true := rfl
@[simp] theorem ws20 : eqM (.str "tree") (.str "say") = some (.bool false) := (e_eqS (by decide +kernel) (by decide +kernel)).trans (congrArg (fun b => some (PyData.bool b)) (by decide +kernel))
@[simp] theorem ws21 : eqM (.str "tree") (.str "is") = some (.bool false) := (e_eqS (by decide +kernel) (by decide +kernel)).trans (congrArg (fun b => some (PyData.bool b)) (by decide +kernel))
@[simp] theorem ws22 : eqM (.str "tree") (.str "tree") = some (.bool true) := (e_eqS (by decide +kernel) (by decide +kernel)).trans (congrArg (fun b => some (PyData.bool b)) (by decide +kernel))
@[simp] theorem ws23 : eqM (.str "tree") (.str "rules") = some (.bool false) := (e_eqS (by decide +kernel) (by decide +kernel)).trans (congrArg (fun b => some (PyData.bool b)) (by decide +kernel))
@[simp] theorem ws24 : eqM (.str "tree") (.str "card") = some (.bool false) := (e_eqS (by decide +kernel) (by decide +kernel)).trans (congrArg (fun b => some (PyData.bool b)) (by decide +kernel))
@[simp] theorem ws25 : eqM (.str "tree") (.str "table") = some (.bool false) := (e_eqS (by decide +kernel) (by decide +kernel)).trans (congrArg (fun b => some (PyData.bool b)) (by decide +kernel))
@[simp] theorem ws26 : eqM (.str "tree") (.str "not") = some (.bool false) := (e_eqS (by decide +kernel) (by decide +kernel)).trans (congrArg (fun b => some (PyData.bool b)) (by decide +kernel))
@[simp] theorem ws27 : eqM (.str "tree") (.str "and") = some (.bool false) := (e_eqS (by decide +kernel) (by decide +kernel)).trans (congrArg (fun b => some (PyData.bool b)) (by decide +kernel))
@[simp] theorem ws28 : eqM (.str "tree") (.str "or") = some (.bool false) := (e_eqS (by decide +kernel) (by decide +kernel)).trans (congrArg (fun b => some (PyData.bool b)) (by decide +kernel))
@[simp] theorem ws29 : eqM (.str "tree") (.str "odd") = some (.bool false) := (e_eqS (by decide +kernel) (by decide +kernel)).trans (congrArg (fun b => some (PyData.bool b)) (by decide +kernel))
@[simp] theorem wj30 : inM (.str "tree") c_JOINING_WORDS = some (.bool false) := in_join.trans (congrArg (fun b => some (PyData.bool b)) (by decide +kernel))
@[simp] theorem wi30 : isTy "str" (.str "tree") = true := rfl
@[simp] theorem ws30 : eqM (.str "rules") (.str "say") = some (.bool false) := (e_eqS (by decide +kernel) (by decide +kernel)).trans (congrArg (fun b => some (PyData.bool b)) (by decide +kernel))
@[simp] theorem ws31 : eqM (.str "rules") (.str "is") = some (.bool false) := (e_eqS (by decide +kernel) (by decide +kernel)).trans (congrArg (fun b => some (PyData.bool b)) (by decide +kernel))
@[simp] theorem ws32 : eqM (.str "rules") (.str "tree") = some (.bool false) := (e_eqS (by decide +kernel) (by decide +kernel)).trans (congrArg (fun b => some (PyData.bool b)) (by decide +kernel))
@[simp] theorem ws33 : eqM (.str "rules") (.str "rules") = some (.bool true) := (e_eqS (by decide +kernel) (by decide +kernel)).trans (congrArg (fun b => some (PyData.bool b)) (by decide +kernel))
@[simp] theorem ws34 : eqM (.str "rules") (.str "card") = some (.bool false) := (e_eqS (by decide +kernel) (by decide +kernel)).trans (congrArg (fun b => some (PyData.bool b)) (by decide +kernel))
@[simp] theorem ws35 : eqM (.str "rules") (.str "table") = some (.bool false) := (e_eqS (by decide +kernel) (by decide +kernel)).trans (congrArg (fun b => some (PyData.bool b)) (by decide +kernel))
@[simp] theorem ws36 : eqM (.str "rules") (.str "not") = some (.bool false) := (e_eqS (by decide +kernel) (by decide +kernel)).trans (congrArg (fun b => some (PyData.bool b)) (by decide +kernel))
@[simp] theorem ws37 : eqM (.str "rules") (.str "and") = some (.bool false) := (e_eqS (by decide +kernel) (by decide +kernel)).trans (congrArg (fun b => some (PyData.bool b)) (by decide +kernel))
@[simp] theorem ws38 : eqM (.str "rules") (.str "or") = some (.bool false) := (e_eqS (by decide +kernel) (by decide +kernel)).trans (congrArg (fun b => some (PyData.bool b)) (by decide +kernel))
@[simp] theorem ws39 : eqM (.str "rules") (.str "odd") = some (.bool false) := (e_eqS (by decide +kernel) (by decide +kernel)).trans (congrArg (fun b => some (PyData.bool b)) (by decide +kernel))
@[simp] theorem wj40 : inM (.str "rules") c_JOINING_WORDS = some (.bool false) := in_join.trans (congrArg (fun b => some (PyData.bool b)) (by decide +kernel))
@[simp] theorem wi40 : isTy "str" (.str "rules") = true := rfl
@[simp] theorem ws40 : eqM (.str "card") (.str "say") = some (.bool false) := (e_eqS (by decide +kernel) (by decide +kernel)).trans (congrArg (fun b => some (PyData.bool b)) (by decide +kernel))
@[simp] theorem ws41 : eqM (.str "card") (.str "is") = some (.bool false) := (e_eqS (by decide +kernel) (by decide +kernel)).trans (congrArg (fun b => some (PyData.bool b)) (by decide +kernel))
@[simp] theorem ws42 : eqM (.str "card") (.str "tree") = some (.bool false) := (e_eqS (by decide +kernel) (by decide +kernel)).trans (congrArg (fun b => some (PyData.bool b)) (by decide +kernel))
@[simp] theorem ws43 : eqM (.str "card") (.str "rules") = some (.bool false) := (e_eqS (by decide +kernel) (by decide +kernel)).trans (congrArg (fun b => some (PyData.bool b)) (by decide +kernel))
@[simp] theorem ws44 : eqM (.str "card") (.str "card") = some (.bool true) := (e_eqS (by decide +kernel) (by decide +kernel)).trans (congrArg (fun b => some (PyData.bool b)) (by decide +kernel))
@[simp] theorem ws45 : eqM (.str "card") (.str "table") = some (.bool false) := (e_eqS (by decide +kernel) (by decide +kernel)).trans (congrArg (fun b => some (PyData.bool b)) (by decide +kernel))
@[simp] theorem ws46 : eqM (.str "card") (.str "not") = some (.bool false) := (e_eqS (by decide +kernel) (by decide +kernel)).trans (congrArg (fun b => some (PyData.bool b)) (by decide +kernel))
@[simp] theorem ws47 : eqM (.str "card") (.str "and") = some (.bool false) := (e_eqS (by decide +kernel) (by decide +kernel)).trans (congrArg (fun b => some (PyData.bool b)) (by decide +kernel))
@[simp] theorem ws48 : eqM (.str "card") (.str "or") = some (.bool false) := (e_eqS (by decide +kernel) (by decide +kernel)).trans (congrArg (fun b => some (PyData.bool b)) (by decide +kernel))
@[simp] theorem ws49 : eqM (.str "card") (.str "odd") = some (.bool false) := (e_eqS (by decide +kernel) (by decide +kernel)).trans (congrArg (fun b => some (PyData.bool b)) (by decide +kernel))
@[simp] theorem wj50 : inM (.str "card") c_JOINING_WORDS = some (.bool false) := in_join.trans (congrArg (fun b => some (PyData.bool b)) (by decide +kernel))
@[simp] theorem wi50 : isTy "str" (.str "card") = true := rfl
@[simp] theorem ws50 : eqM (.str "table") (.str "say") = some (.bool false) := (e_eqS (by decide +kernel) (by decide +kernel)).trans (congrArg (fun b => some (PyData.bool b)) (by decide +kernel))
@[simp] theorem ws51 : eqM (.str "table") (.str "is") = some (.bool false) := (e_eqS (by decide +kernel) (by decide +kernel)).trans (congrArg (fun b => some (PyData.bool b)) (by decide +kernel))
@[simp] theorem ws52 : eqM (.str "table") (.str "tree") = some (.bool false) := (e_eqS (by decide +kernel) (by decide +kernel)).trans (congrArg (fun b => some (PyData.bool b)) (by decide +kernel))
@[simp] theorem ws53 : eqM (.str "table") (.str "rules") = some (.bool false) := (e_eqS (by decide +kernel) (by decide +kernel)).trans (congrArg (fun b => some (PyData.bool b)) (by decide +kernel))
@[simp] theorem ws54 : eqM (.str "table") (.str "card") = some (.bool false) := (e_eqS (by decide +kernel) (by decide +kernel)).trans (congrArg (fun b => some (PyData.bool b)) (by decide +kernel))
@[simp] theorem ws55 : eqM (.str "table") (.str "table") = some (.bool true) := (e_eqS (by decide +kernel) (by decide +kernel)).trans (congrArg (fun b => some (PyData.bool b)) (by decide +kernel))
@[simp] theorem ws56 : eqM (.str "table") (.str "not") = some (.bool false) := (e_eqS (by decide +kernel) (by decide +kernel)).trans (congrArg (fun b => some (PyData.bool b)) (by decide +kernel))
@[simp] theorem ws57 : eqM (.str "table") (.str "and") = some (.bool false) := (e_eqS (by decide +kernel) (by decide +kernel)).trans (congrArg (fun b => some (PyData.bool b)) (by decide +kernel))
@[simp] theorem ws58 : eqM (.str "table") (.str "or") = some (.bool false) := (e_eqS (by decide +kernel) (by decide +kernel)).trans (congrArg (fun b => some (PyData.bool b)) (by decide +kernel))
@[simp] theorem ws59 : eqM (.str "table") (.str "odd") = some (.bool false) := (e_eqS (by decide +kernel) (by decide +kernel)).trans (congrArg (fun b => some (PyData.bool b)) (by decide +kernel))
@[simp] theorem wj60 : inM (.str "table") c_JOINING_WORDS = some (.bool false) := in_join.trans (congrArg (fun b => some (PyData.bool b)) (by decide +kernel))
@[simp] theorem wi60 : isTy "str" (.str "table") = true := rfl
@[simp] theorem ws60 : eqM (.str "not") (.str "say") = some (.bool false) := (e_eqS (by decide +kernel) (by decide +kernel)).trans (congrArg (fun b => some (PyData.bool b)) (by decide +kernel))
@[simp] theorem ws61 : eqM (.str "not") (.str "is") = some (.bool false) := (e_eqS (by decide +kernel) (by decide +kernel)).trans (congrArg (fun b => some (PyData.bool b)) (by decide +kernel))
@[simp] theorem ws62 : eqM (.str "not") (.str "tree") = some (.bool false) := (e_eqS (by decide +kernel) (by decide +kernel)).trans (congrArg (fun b => some (PyData.bool b)) (by decide +kernel))
@[simp] theorem ws63 : eqM (.str "not") (.str "rules") = some (.bool false) := (e_eqS (by decide +kernel) (by decide +kernel)).trans (congrArg (fun b => some (PyData.bool b)) (by decide +kernel))
@[simp] theorem ws64 : eqM (.str "not") (.str "card") = some (.bool false) := (e_eqS (by decide +kernel) (by decide +kernel)).trans (congrArg (fun b => some (PyData.bool b)) (by decide +kernel))
@[simp] theorem ws65 : eqM (.str "not") (.str "table") = some (.bool false) := (e_eqS (by decide +kernel) (by decide +kernel)).trans (congrArg (fun b => some (PyData.bool b)) (by decide +kernel))
@[simp] theorem ws66 : eqM (.str "not") (.str "not") = some (.bool true) := (e_eqS (by decide +kernel) (by decide +kernel)).trans (congrArg (fun b => some (PyData.bool b)) (by decide +kernel))
@[simp] theorem ws67 : eqM (.str "not") (.str "and") = some (.bool false) := (e_eqS (by decide +kernel) (by decide +kernel)).trans (congrArg (fun b => some (PyData.bool b)) (by decide +kernel))
@[simp] theorem ws68 : eqM (.str "not") (.str "or") = some (.bool false) := (e_eqS (by decide +kernel) (by decide +kernel)).trans (congrArg (fun b => some (PyData.bool b)) (by decide +kernel))
@[simp] theorem ws69 : eqM (.str "not") (.str "odd") = some (.bool false) := (e_eqS (by decide +kernel) (by decide +kernel)).trans (congrArg (fun b => some (PyData.bool b)) (by decide +kernel))
@[simp] theorem wj70 : inM (.str "not") c_JOINING_WORDS = some (.bool false) := in_join.trans (congrArg (fun b => some (PyData.bool b)) (by decide +kernel))
@[simp] theorem wi70 : isTy "str" (.str "not") = true := rfl
@[simp] theorem ws70 : eqM (.str "and") (.str "say") = some (.bool false) := (e_eqS (by decide +kernel) (by decide +kernel)).trans (congrArg (fun b => some (PyData.bool b)) (by decide +kernel))
@[simp] theorem ws71 : eqM (.str "and") (.str "is") = some (.bool false) := (e_eqS (by decide +kernel) (by decide +kernel)).trans (congrArg (fun b => some (PyData.bool b)) (by decide +kernel))
@[simp] theorem ws72 : eqM (.str "and") (.str "tree") = some (.bool false) := (e_eqS (by decide +kernel) (by decide +kernel)).trans (congrArg (fun b => some (PyData.bool b)) (by decide +kernel))
@[simp] theorem ws73 : eqM (.str "and") (.str "rules") = some (.bool false) := (e_eqS (by decide +kernel) (by decide +kernel)).trans (congrArg (fun b => some (PyData.bool b)) (by decide +kernel))
@[simp] theorem ws74 : eqM (.str "and") (.str "card") = some (.bool false) := (e_eqS (by decide +kernel) (by decide +kernel)).trans (congrArg (fun b => some (PyData.bool b)) (by decide +kernel))
@[simp] theorem ws75 : eqM (.str "and") (.str "table") = some (.bool false) := (e_eqS (by decide +kernel) (by decide +kernel)).trans (congrArg (fun b => some (PyData.bool b)) (by decide +kernel))
@[simp] theorem ws76 : eqM (.str "and") (.str "not") = some (.bool false) := (e_eqS (by decide +kernel) (by decide +kernel)).trans (congrArg (fun b => some (PyData.bool b)) (by decide +kernel))
@[simp] theorem ws77 : eqM (.str "and") (.str "and") = some (.bool true) := (e_eqS (by decide +kernel) (by decide +kernel)).trans (congrArg (fun b => some (PyData.bool b)) (by decide +kernel))
@[simp] theorem ws78 : eqM (.str "and") (.str "or") = some (.bool false) := (e_eqS (by decide +kernel) (by decide +kernel)).trans (congrArg (fun b => some (PyData.bool b)) (by decide +kernel))
@[simp] theorem ws79 : eqM (.str "and") (.str "odd") = some (.bool false) := (e_eqS (by decide +kernel) (by decide +kernel)).trans (congrArg (fun b => some (PyData.bool b)) (by decide +kernel))
@[simp] theorem wj80 : inM (.str "and") c_JOINING_WORDS = some (.bool true) := in_join.trans (congrArg (fun b => some (PyData.bool b)) (by decide +kernel))
@[simp] theorem wi80 : isTy "str" (.str "and") = true := rfl
@[simp] theorem ws80 : eqM (.str "or") (.str "say") = some (.bool false) := (e_eqS (by decide +kernel) (by decide +kernel)).trans (congrArg (fun b => some (PyData.bool b)) (by decide +kernel))
@[simp] theorem ws81 : eqM (.str "or") (.str "is") = some (.bool false) := (e_eqS (by decide +kernel) (by decide +kernel)).trans (congrArg (fun b => some (PyData.bool b)) (by decide +kernel))
@[simp] theorem ws82 : eqM (.str "or") (.str "tree") = some (.bool false) := (e_eqS (by decide +kernel) (by decide +kernel)).trans (congrArg (fun b => some (PyData.bool b)) (by decide +kernel))
@[simp] theorem ws83 : eqM (.str "or") (.str "rules") = some (.bool false) := (e_eqS (by decide +kernel) (by decide +kernel)).trans (congrArg (fun b => some (PyData.bool b)) (by decide +kernel))
@[simp] theorem ws84 : eqM (.str "or") (.str "card") = some (.bool false) := (e_eqS (by decide +kernel) (by decide +kernel)).trans (congrArg (fun b => some (PyData.bool b)) (by decide +kernel))
@[simp] theorem ws85 : eqM (.str "or") (.str "table") = some (.bool false) := (e_eqS (by decide +kernel) (by decide +kernel)).trans (congrArg (fun b => some (PyData.bool b)) (by decide +kernel))
@[simp] theorem ws86 : eqM (.str "or") (.str "not") = some (.bool false) := (e_eqS (by decide +kernel) (by decide +kernel)).trans (congrArg (fun b => some (PyData.bool b)) (by decide +kernel))
@[simp] theorem ws87 : eqM (.str "or") (.str "and") = some (.bool false) := (e_eqS (by decide +kernel) (by decide +kernel)).trans (congrArg (fun b => some (PyData.bool b)) (by decide +kernel))
@[simp] theorem ws88 : eqM (.str "or") (.str "or") = some (.bool true) := (e_eqS (by decide +kernel) (by decide +kernel)).trans (congrArg (fun b => some (PyData.bool b)) (by decide +kernel))
@[simp] theorem ws89 : eqM (.str "or") (.str "odd") = some (.bool false) := (e_eqS (by decide +kernel) (by decide +kernel)).trans (congrArg (fun b => some (PyData.bool b)) (by decide +kernel))
@[simp] theorem wj90 : inM (.str "or") c_JOINING_WORDS = some (.bool true) := in_join.trans (congrArg (fun b => some (PyData.bool b)) (by decide +kernel))
@[simp] theorem wi90 : isTy "str" (.str "or") = true := rfl
@[simp] theorem ws90 : eqM (.str "odd") (.str "say") = some (.bool false) := (e_eqS (by decide +kernel) (by decide +kernel)).trans (congrArg (fun b => some (PyData.bool b)) (by decide +kernel))
@[simp] theorem ws91 : eqM (.str "odd") (.str "is") = some (.bool false) := (e_eqS (by decide +kernel) (by decide +kernel)).trans (congrArg (fun b => some (PyData.bool b)) (by decide +kernel))
@[simp] theorem ws92 : eqM (.str "odd") (.str "tree") = some (.bool false) := (e_eqS (by decide +kernel) (by decide +kernel)).trans (congrArg (fun b => some (PyData.bool b)) (by decide +kernel))
@[simp] theorem ws93 : eqM (.str "odd") (.str "rules") = some (.bool false) := (e_eqS (by decide +kernel) (by decide +kernel)).trans (congrArg (fun b => some (PyData.bool b)) (by decide +kernel))
@[simp] theorem ws94 : eqM (.str "odd") (.str "card") = some (.bool false) := (e_eqS (by decide +kernel) (by decide +kernel)).trans (congrArg (fun b => some (PyData.bool b)) (by decide +kernel))
@[simp] theorem ws95 : eqM (.str "odd") (.str "table") = some (.bool false) := (e_eqS (by decide +kernel) (by decide +kernel)).trans (congrArg (fun b => some (PyData.bool b)) (by decide +kernel))
@[simp] theorem ws96 : eqM (.str "odd") (.str "not") = some (.bool false) := (e_eqS (by decide +kernel) (by decide +kernel)).trans (congrArg (fun b => some (PyData.bool b)) (by decide +kernel))
@[simp] theorem ws97 : eqM (.str "odd") (.str "and") = some (.bool false) := (e_eqS (by decide +kernel) (by decide +kernel)).trans (congrArg (fun b => some (PyData.bool b)) (by decide +kernel))
@[simp] theorem ws98 : eqM (.str "odd") (.str "or") = some (.bool false) := (e_eqS (by decide +kernel) (by decide +kernel)).trans (congrArg (fun b => some (PyData.bool b)) (by decide +kernel))
@[simp] theorem ws99 : eqM (.str "odd") (.str "odd") = some (.bool true) := (e_eqS (by decide +kernel) (by decide +kernel)).trans (congrArg (fun b => some (PyData.bool b)) (by decide +kernel))
@[simp] theorem wj100 : inM (.str "odd") c_JOINING_WORDS = some (.bool true) := in_join.trans (congrArg (fun b => some (PyData.bool b)) (by decide +kernel))
@[simp] theorem wi100 : isTy "str" (.str "odd") = true := rfl
inductive Jw where
  | and | or | odd
def Jw.str : Jw → Str
  | .and => "and"
  | .or => "or"
  | .odd => "odd"
def Jw.ev : Jw → List Bool → Bool
  | .and, bs => bs.all id
  | .or, bs => bs.any id
  | .odd, bs => bs.countP id % 2 == 1
abbrev Cond := Nat × List Nat
abbrev Rule := List Cond × Bool
inductive Frm where
  | say (b : Bool)
  | test (f : Nat) (vs : List Nat)
  | tree (f : Nat) (bs : List Frm)
  | rules (rs : List Rule) (l : Bool)
  | card (ws : List (List Int)) (t : Int)
  | table (rs : List Bool)
  | neg (x : Frm)
  | join (w : Jw) (xs : List Frm)
def condD (c : Cond) : PyData := .tuple [nD c.1, .tuple (c.2.map nD)]
abbrev condsD (cs : List Cond) : PyData := .tuple (cs.map condD)
def ruleD (r : Rule) : PyData := .tuple [condsD r.1, .bool r.2]
def rowD (w : List Int) : PyData := .tuple (w.map .int)
mutual
def Frm.D : Frm → PyData
  | .say b => .tuple [.str "say", .bool b]
  | .test f vs => .tuple [.str "is", nD f, .tuple (vs.map nD)]
  | .tree f bs => .tuple [.str "tree", nD f, .tuple (Frm.Ds bs)]
  | .rules rs l => .tuple [.str "rules", .tuple (rs.map ruleD), .bool l]
  | .card ws t => .tuple [.str "card", .tuple (ws.map rowD), .int t]
  | .table rs => .tuple [.str "table", .tuple (rs.map .bool)]
  | .neg x => .tuple [.str "not", x.D]
  | .join w xs => .tuple [.str w.str, .tuple (Frm.Ds xs)]
def Frm.Ds : List Frm → List PyData
  | [] => []
  | x :: xs => x.D :: Frm.Ds xs
end
theorem Frm.Ds_eq : ∀ xs : List Frm, Frm.Ds xs = xs.map Frm.D
  | [] => by rw [Frm.Ds]; rfl
  | x :: xs => by rw [Frm.Ds, Frm.Ds_eq xs]; rfl
def fitsB (cs : List Nat) (r : List Cond) : Bool := r.all fun c => c.2.contains (cs.getD c.1 0)
def plc : Nat → List Nat → List Nat → Nat
  | a, n :: ns, c :: cs => plc (a * n + c) ns cs
  | a, _, _ => a
def wsum : List (List Int) → List Nat → Int
  | w :: ws, c :: cs => w.getD c 0 + wsum ws cs
  | _, _ => 0
mutual
def Frm.ev (ns cs : List Nat) : Frm → Bool
  | .say b => b
  | .test f vs => vs.contains (cs.getD f 0)
  | .tree f bs => (Frm.evs ns cs bs).getD (cs.getD f 0) false
  | .rules rs l => match rs.find? fun r => fitsB cs r.1 with
    | some r => r.2
    | none => l
  | .card ws t => decide (t ≤ wsum ws cs)
  | .table rs => rs.getD (plc 0 ns cs) false
  | .neg x => !x.ev ns cs
  | .join w xs => w.ev (Frm.evs ns cs xs)
def Frm.evs (ns cs : List Nat) : List Frm → List Bool
  | [] => []
  | x :: xs => x.ev ns cs :: Frm.evs ns cs xs
end
def TestOk (ns : List Nat) (c : Cond) : Prop := ∃ n, ns[c.1]? = some n ∧ AscFrom 0 n c.2
def CondsOk (ns : List Nat) (cs : List Cond) : Prop := AscFrom 0 ns.length (cs.map Prod.fst) ∧ ∀ c ∈ cs, TestOk ns c
mutual
def Frm.Ok (ns : List Nat) : Frm → Prop
  | .say _ => True
  | .test f vs => TestOk ns (f, vs)
  | .tree f bs => ns[f]? = some bs.length ∧ Frm.Oks ns bs
  | .rules rs _ => rs.length ≤ 1000 ∧ ∀ r ∈ rs, CondsOk ns r.1
  | .card ws _ => ws.length = ns.length ∧ ∀ (i n : Nat) (w : List Int), ns[i]? = some n → ws[i]? = some w → w.length = n
  | .table rs => prod ns ≤ 1024 ∧ rs.length = prod ns
  | .neg x => x.Ok ns
  | .join _ xs => xs.length ≤ 1000 ∧ Frm.Oks ns xs
def Frm.Oks (ns : List Nat) : List Frm → Prop
  | [] => True
  | x :: xs => x.Ok ns ∧ Frm.Oks ns xs
end
theorem Frm.Oks_iff {ns : List Nat} : ∀ {xs : List Frm}, Frm.Oks ns xs ↔ ∀ x ∈ xs, x.Ok ns
  | [] => by rw [Frm.Oks]; simp
  | x :: xs => by rw [Frm.Oks, Frm.Oks_iff (xs := xs)]; simp
mutual
def Frm.dp : Frm → Nat
  | .tree _ bs => 1 + Frm.dps bs
  | .neg x => 1 + x.dp
  | .join _ xs => 1 + Frm.dps xs
  | _ => 0
def Frm.dps : List Frm → Nat
  | [] => 0
  | x :: xs => max x.dp (Frm.dps xs)
end
theorem Frm.dps_le : ∀ {xs : List Frm} {x : Frm}, x ∈ xs → x.dp ≤ Frm.dps xs
  | y :: ys, x, h => by
    rw [Frm.dps]
    rcases List.mem_cons.mp h with rfl | h
    · omega
    · have := Frm.dps_le h
      omega
theorem Frm.dps_of {n : Nat} : ∀ {xs : List Frm}, (∀ x ∈ xs, x.dp ≤ n) → Frm.dps xs ≤ n
  | [], _ => by rw [Frm.dps]; omega
  | y :: ys, h => by
    rw [Frm.dps]
    have h1 := h y (List.mem_cons_self ..)
    have h2 := Frm.dps_of (xs := ys) fun x hx => h x (List.mem_cons_of_mem _ hx)
    omega
mutual
def Frm.sz : Frm → Nat
  | .tree _ bs => 1 + Frm.szs bs
  | .neg x => 1 + x.sz
  | .join _ xs => 1 + Frm.szs xs
  | _ => 1
def Frm.szs : List Frm → Nat
  | [] => 0
  | x :: xs => x.sz + Frm.szs xs
end
section
variable {α : Type} {vs : List Nat} {mi : M (List PyData)} {g : PyData → En → Option En} {mt : M Bool} {me : M PyData} {r : En}
theorem lcy (f : α → PyData) (F : α → PyData) (e : α → En) {xs : List α} (hi : mi r = some (.ok (xs.map f) r)) (hf : freeAt r vs = true) (hl : xs.length ≤ 1000000)
    (hg : ∀ x ∈ xs, g (f x) (wipeE r vs) = some (e x)) (hw : ∀ x ∈ xs, wipeE (e x) vs = wipeE r vs) (he : ∀ x ∈ xs, me (e x) = some (.ok (F x) (e x))) :
    mLc vs mi g mYes me r = some (.ok (xs.map F) r) := lc_y f F e hi hf hl hg hw he
theorem lcm (f : α → PyData) (p : α → Bool) (F : α → PyData) (e : α → En) {xs : List α} (hi : mi r = some (.ok (xs.map f) r)) (hf : freeAt r vs = true) (hl : xs.length ≤ 1000000)
    (hg : ∀ x ∈ xs, g (f x) (wipeE r vs) = some (e x)) (hw : ∀ x ∈ xs, wipeE (e x) vs = wipeE r vs) (ht : ∀ x ∈ xs, mt (e x) = some (.ok (p x) (e x))) (he : ∀ x ∈ xs, p x = true → me (e x) = some (.ok (F x) (e x))) :
    mLc vs mi g mt me r = some (.ok ((xs.filter p).map F) r) := lc_m f p F e hi hf hl hg hw ht he
end
end DL
namespace DL
open PySem PySem.Spec PyProof.Rows L2 Lk
theorem canLay_map {α : Type} {f : α → PyData} : ∀ {xs : List α}, (∀ x ∈ xs, (f x).canLay0 = true) → PyData.canLayAll0 (xs.map f) = true
  | [], _ => rfl
  | x :: xs, h => by
    rw [List.map_cons, PyData.canLayAll0, h x (List.mem_cons_self ..), canLay_map fun y hy => h y (List.mem_cons_of_mem _ hy)]
    rfl
theorem depth_map {α : Type} {f : α → PyData} {n : Nat} : ∀ {xs : List α}, (∀ x ∈ xs, (f x).depth ≤ n) → PyData.depthAll (xs.map f) ≤ n
  | [], _ => by rw [List.map_nil, PyData.depthAll]; omega
  | x :: xs, h => by
    have h1 := h x (List.mem_cons_self ..)
    have h2 := depth_map (xs := xs) fun y hy => h y (List.mem_cons_of_mem _ hy)
    rw [List.map_cons, PyData.depthAll]
    omega
/-- plain data: may be compared, n levels deep at most -/
def Sh (n : Nat) (d : PyData) : Prop := d.canLay0 = true ∧ d.depth ≤ n
theorem Sh.int {i : Int} : Sh 0 (.int i) := ⟨by rw [PyData.canLay0], by rw [PyData.depth]; omega⟩
theorem Sh.n {i : Nat} : Sh 0 (nD i) := Sh.int
theorem Sh.bool {b : Bool} : Sh 0 (.bool b) := ⟨by rw [PyData.canLay0], by rw [PyData.depth]; omega⟩
theorem Sh.none : Sh 0 .none := ⟨by rw [PyData.canLay0], by rw [PyData.depth]; omega⟩
theorem Sh.o {o : Option Nat} : Sh 0 (oD o) := by cases o; exact Sh.none; exact Sh.n
theorem Sh.list {α : Type} {f : α → PyData} {xs : List α} {n : Nat} (h : ∀ x ∈ xs, Sh n (f x)) : Sh (n + 1) (.list (xs.map f)) :=
  ⟨by rw [PyData.canLay0]; exact canLay_map fun x hx => (h x hx).1, by rw [PyData.depth]; have := depth_map fun x hx => (h x hx).2; omega⟩
theorem Sh.tup {α : Type} {f : α → PyData} {xs : List α} {n : Nat} (h : ∀ x ∈ xs, Sh n (f x)) : Sh (n + 1) (.tuple (xs.map f)) :=
  ⟨by rw [PyData.canLay0]; exact canLay_map fun x hx => (h x hx).1, by rw [PyData.depth]; have := depth_map fun x hx => (h x hx).2; omega⟩
theorem Sh.sh {n : Nat} {d : PyData} (h : Sh n d) (hn : n ≤ 64 := by decide) : SeqAt.shaped d = true := shaped_of h.1 (Nat.le_trans h.2 hn)
theorem eqv_n {a b : Nat} : PyData.eqv (nD a) (nD b) = (a == b) := by
  unfold nD
  rw [PyData.eqv, Bool.eq_iff_iff, beq_iff_eq, beq_iff_eq]
  omega
theorem memD_map {α : Type} {f : α → PyData} {xs : List α} {v : PyData} {p : α → Bool} (h : ∀ x ∈ xs, PyData.eqv (f x) v = p x) : memD v (xs.map f) = xs.any p := by
  unfold memD
  rw [List.any_map]
  induction xs with
  | nil => rfl
  | cons x xs ih =>
    rw [List.any_cons, List.any_cons, ih fun y hy => h y (List.mem_cons_of_mem _ hy)]
    congr 1
    exact h x (List.mem_cons_self ..)
theorem any_eq {xs : List Nat} {v : Nat} : (xs.any fun x => x == v) = xs.contains v := by
  induction xs with
  | nil => rfl
  | cons x xs ih =>
    rw [List.any_cons, ih, List.contains_cons, Bool.beq_comm]
theorem flat_n {xs : List Nat} : (xs.map nD).all flatD = true := by rw [List.all_map]; exact List.all_eq_true.mpr fun _ _ => rfl
@[simp] theorem e_in_tn {v : Nat} {xs : List Nat} : inM (nD v) (.tuple (xs.map nD)) = some (.bool (xs.contains v)) := by
  show (if flatD (nD v) && (xs.map nD).all flatD then _ else _) = _
  rw [flat_n]
  show some (PyData.bool (memD _ _)) = _
  rw [memD_map (p := fun x => x == v) fun x _ => eqv_n, any_eq]
theorem sh_bools {bs : List Bool} : SeqAt.shaped (.list (bs.map PyData.bool)) = true := (Sh.list fun _ _ => Sh.bool).sh
theorem mem_bools {b : Bool} {bs : List Bool} : memD (.bool b) (bs.map PyData.bool) = bs.contains b := by
  rw [memD_map (p := fun x => x == b) fun x _ => by rw [PyData.eqv]]
  induction bs with
  | nil => rfl
  | cons x xs ih => rw [List.any_cons, ih, List.contains_cons, Bool.beq_comm]
@[simp] theorem e_in_b {b : Bool} {bs : List Bool} : inM (.bool b) (.list (bs.map PyData.bool)) = some (.bool (bs.contains b)) := by
  show (if SeqAt.shaped (.bool b) && SeqAt.shaped (.list (bs.map PyData.bool)) then _ else _) = _
  rw [sh_bools, (Sh.bool).sh, mem_bools]
  rfl
@[simp] theorem e_notIn_b {b : Bool} {bs : List Bool} : notInM (.bool b) (.list (bs.map PyData.bool)) = some (.bool (!bs.contains b)) := by
  show (if SeqAt.shaped (.bool b) && SeqAt.shaped (.list (bs.map PyData.bool)) then _ else _) = _
  rw [sh_bools, (Sh.bool).sh, mem_bools]
  rfl
theorem e_sumF {α : Type} {xs : List α} {f : α → Int} : sumM [.list (xs.map fun x => PyData.int (f x))] = some (.int (xs.map f).sum) := by
  have := e_asum (ns := xs.map f)
  rw [List.map_map] at this
  exact this
@[simp] theorem e_eq_l {a n : Nat} : eqM (nD a) (.int (no_index (@OfNat.ofNat Int n instOfNat))) = some (.bool (a == n)) := e_eq_n
@[simp] theorem e_ne_l {a n : Nat} : neM (nD a) (.int (no_index (@OfNat.ofNat Int n instOfNat))) = some (.bool (!(a == n))) := e_ne_n
@[simp] theorem e_lt_l {a n : Nat} : ltM (nD a) (.int (no_index (@OfNat.ofNat Int n instOfNat))) = some (.bool (decide (a < n))) := e_lt_n
theorem e_mod_n {a b : Nat} (h : 0 < b) : modM (nD a) (nD b) = some (nD (a % b)) := by
  have := e_modI (a := (a : Int)) (b := b) (by omega)
  show modM (.int a) (.int b) = _
  rw [this]
  rfl
@[simp] theorem e_mod_2 {a : Nat} : modM (nD a) (.int 2) = some (nD (a % 2)) := e_mod_n (b := 2) (by decide)
theorem Case.at {ns cs : List Nat} (h : Case ns cs) {i n : Nat} (e : ns[i]? = some n) : ∃ c, cs[i]? = some c ∧ c < n := by
  have li : i < ns.length := (List.getElem?_eq_some_iff.mp e).1
  have lc : i < cs.length := by rw [h.1]; exact li
  exact ⟨cs[i], List.getElem?_eq_getElem lc, h.2 i n _ e (List.getElem?_eq_getElem lc)⟩
theorem Case.nil : Case [] [] := ⟨rfl, fun _ _ _ h => by simp at h⟩
theorem Case.cons {n c : Nat} {ns cs : List Nat} : Case (n :: ns) (c :: cs) ↔ c < n ∧ Case ns cs := by
  constructor
  · intro h
    exact ⟨h.2 0 n c rfl rfl, by simpa using h.1, fun i m d e e' => h.2 (i + 1) m d (by simpa using e) (by simpa using e')⟩
  · rintro ⟨h1, h2, h3⟩
    refine ⟨by simpa using h2, fun i m d e e' => ?_⟩
    cases i with
    | zero => cases e; cases e'; exact h1
    | succ i => exact h3 i m d (by simpa using e) (by simpa using e')
theorem e_add_n {a b : Nat} : addM (nD a) (nD b) = some (nD (a + b)) := by
  show some (PyData.int ((a : Int) + b)) = _
  rw [← Int.natCast_add]
  rfl
theorem Sz.tail {n : Nat} {ns : List Nat} (h : Sz (n :: ns)) : Sz ns := ⟨by have := h.1; simp at this; omega, fun m hm => h.2 m (List.mem_cons_of_mem _ hm)⟩
theorem asc_len : ∀ {vs : List Nat} {lo n : Nat}, AscFrom lo n vs → lo + vs.length ≤ max lo n
  | [], _, _, _ => by simp; omega
  | v :: vs, lo, n, ⟨h1, h2, h3⟩ => by
    have := asc_len h3
    simp only [List.length_cons]
    omega
theorem conds_len {ns : List Nat} {cs : List Cond} (h : CondsOk ns cs) : cs.length ≤ ns.length := by
  have := asc_len h.1
  simp at this
  omega
theorem ix_map {α : Type} {f : α → PyData} {xs : List α} {i : Nat} {v : α} (h : xs[i]? = some v) : ixM (.tuple (xs.map f)) (nD i) = some (f v) := by rw [e_ix_t, h]; rfl
@[simp] theorem e_add_nn {a b : Nat} : addM (nD a) (nD b) = some (nD (a + b)) := e_add_n
@[simp] theorem e_add_l {a n : Nat} : addM (nD a) (.int (no_index (@OfNat.ofNat Int n instOfNat))) = some (nD (a + n)) := e_add_n
@[simp] theorem e_add_r {a n : Nat} : addM (.int (no_index (@OfNat.ofNat Int n instOfNat))) (nD a) = some (nD (n + a)) := e_add_n
end DL
namespace DL
open PySem PySem.Spec PyProof.Rows L2 Lk
theorem g_tuple_of_ok {ds : List PyData} {n : Nat} : g_p_is_tuple_of [.tuple ds, nD n] = some (.bool (ds.length == n)) := by
  rw [r_p_is_tuple_of]
  have : PyData.int (ds.length : Int) = nD ds.length := rfl
  simp [v_p_is_tuple_of, this]
theorem g_test_ok {ns : List Nat} {f : Nat} {vs : List Nat} (h : TestOk ns (f, vs)) : g_p_is_test [nsD ns, nD f, .tuple (vs.map nD)] = some (.bool true) := by
  obtain ⟨n, e, h2⟩ := h
  rw [r_p_is_test]
  have lf : f < ns.length := (List.getElem?_eq_some_iff.mp e).1
  have e1 : PyData.int (ns.length : Int) = nD ns.length := rfl
  simp only at e h2
  have en : ns[f] = n := (List.getElem?_eq_some_iff.mp e).2
  simp [v_p_is_test, e1, g_below_n, lf, en, g_asc (d := .tuple (vs.map nD)) rfl h2]
theorem g_condition_ok {ns : List Nat} {c : Cond} (h : TestOk ns c) : g_p_is_condition [nsD ns, condD c] = some (.bool true) := by
  rw [r_p_is_condition]
  have := g_tuple_of_ok (ds := [nD c.1, .tuple (c.2.map nD)]) (n := 2)
  have e2 : PyData.int 2 = nD 2 := rfl
  simp [v_p_is_condition, condD, e2, this, g_test_ok h]
theorem all_true {α : Type} {xs : List α} : allM [.list (xs.map fun _ => PyData.bool true)] = some (.bool true) := by
  rw [e_allT]
  simp
theorem g_conditions_ok {ns : List Nat} {cs : List Cond} (hn : Sz ns) (h : CondsOk ns cs) : g_is_conditions [nsD ns, condsD cs] = some (.bool true) := by
  rw [r_is_conditions]
  have l24 := hn.1
  have lr := conds_len h
  have e1 : PyData.int (ns.length : Int) = nD ns.length := rfl
  have a := g_asc (d := .list ((cs.map Prod.fst).map nD)) rfl h.1
  rw [List.map_map] at a
  simp [v_is_conditions]
  rw [lcy condD (fun c => .bool true) (fun c => [.pl (nsD ns), .pl (condsD cs), .pl (condD c)]) (xs := cs) (by simp) (by simp [freeAt]) (by omega) (by simp) (by simp) (by intro c hc; simp [g_condition_ok (h.2 c hc)])]
  simp [all_true]
  rw [lcy condD (fun c => nD c.1) (fun c => [.pl (nsD ns), .pl (condsD cs), .pl (condD c)]) (xs := cs) (by simp) (by simp [freeAt]) (by omega) (by simp) (by simp) (by intro c hc; simp [condD])]
  rw [show (cs.map fun c => nD c.1) = cs.map (nD ∘ Prod.fst) from rfl]
  rw [← e1] at a
  simp [a]
theorem g_rule_ok {ns : List Nat} {r : Rule} (hn : Sz ns) (h : CondsOk ns r.1) : g_p_is_rule [nsD ns, ruleD r] = some (.bool true) := by
  rw [r_p_is_rule]
  have := g_tuple_of_ok (ds := [condsD r.1, .bool r.2]) (n := 2)
  have e2 : PyData.int 2 = nD 2 := rfl
  simp [v_p_is_rule, ruleD, e2, this, g_conditions_ok hn h]
theorem g_rules_ok {ns : List Nat} {rs : List Rule} (hn : Sz ns) (hl : rs.length ≤ 1000) (h : ∀ r ∈ rs, CondsOk ns r.1) : g_p_is_rules [nsD ns, .tuple (rs.map ruleD)] = some (.bool true) := by
  rw [r_p_is_rules]
  simp [v_p_is_rules]
  rw [lcy ruleD (fun c => .bool true) (fun c => [.pl (nsD ns), .pl (.tuple (rs.map ruleD)), .pl (ruleD c)]) (xs := rs) (by simp) (by simp [freeAt]) (by omega) (by simp) (by simp) (by intro c hc; simp [g_rule_ok hn (h c hc)])]
  simp [all_true]
theorem g_integers_ok {w : List Int} (hl : w.length ≤ 1000) : g_p_are_integers [rowD w] = some (.bool true) := by
  rw [r_p_are_integers]
  simp [v_p_are_integers]
  rw [lcy PyData.int (fun c => .bool true) (fun c => [.pl (rowD w), .pl (.int c)]) (xs := w) (by simp [rowD]) (by simp [freeAt]) (by omega) (by simp) (by simp) (by intro c hc; simp [g_is_integer_int])]
  simp [all_true]
theorem g_weights_ok {ns : List Nat} {ws : List (List Int)} (hn : Sz ns) (h1 : ws.length = ns.length) (h2 : ∀ (i n : Nat) (w : List Int), ns[i]? = some n → ws[i]? = some w → w.length = n) : g_p_is_weights [nsD ns, .tuple (ws.map rowD)] = some (.bool true) := by
  rw [r_p_is_weights]
  have l24 := hn.1
  have e1 : PyData.int (ns.length : Int) = nD ns.length := rfl
  have t := g_tuple_of_ok (ds := ws.map rowD) (n := ns.length)
  simp [v_p_is_weights, e1, t, h1]
  rw [lcy nD (fun i => .bool true) (fun i => [.pl (nsD ns), .pl (.tuple (ws.map rowD)), .pl (nD i)]) (xs := List.range ns.length) (by simp [e_rng_n ns.length (by omega), e1]) (by simp [freeAt]) (by simp; omega) (by simp) (by simp) (by
    intro i hi
    have li := List.mem_range.mp hi
    have a1 := List.getElem?_eq_getElem li
    have lw : i < ws.length := by omega
    have a2 := List.getElem?_eq_getElem lw
    have hw := h2 i _ _ a1 a2
    have b6 := (hn.2 _ (List.getElem_mem li)).2
    have t := g_tuple_of_ok (ds := ws[i].map PyData.int) (n := ns[i])
    have gi := g_integers_ok (w := ws[i]) (by omega)
    rw [rowD] at gi
    simp [a1, ix_map a2, rowD, t, hw, gi])]
  simp [all_true]
theorem g_results_ok {ns : List Nat} {rs : List Bool} (hn : Sz ns) (h1 : prod ns ≤ 1024) (h2 : rs.length = prod ns) : g_p_is_results [nsD ns, .tuple (rs.map PyData.bool)] = some (.bool true) := by
  rw [r_p_is_results]
  have t := g_tuple_of_ok (ds := rs.map PyData.bool) (n := prod ns)
  simp [v_p_is_results, g_is_small_ok hn, h1, g_number_ok hn, t, h2]
  rw [lcy PyData.bool (fun c => .bool true) (fun c => [.pl (nsD ns), .pl (.tuple (rs.map PyData.bool)), .pl (.bool c)]) (xs := rs) (by simp) (by simp [freeAt]) (by omega) (by simp) (by simp) (by intro c hc; simp)]
  simp [all_true]
def Frm.kids : Frm → List Frm
  | .tree _ bs => bs
  | .neg x => [x]
  | .join _ xs => xs
  | _ => []
theorem g_outside_ok {ns : List Nat} {x : Frm} (hn : Sz ns) (h : x.Ok ns) : g_p_is_form_outside [nsD ns, x.D] = some (.bool true) := by
  rw [r_p_is_form_outside]
  cases x with
  | say b => simp [v_p_is_form_outside, Frm.D, r_p_is_short_form_outside, v_p_is_short_form_outside]
  | test f vs =>
    rw [Frm.Ok] at h
    simp [v_p_is_form_outside, Frm.D, r_p_is_long_form_outside, v_p_is_long_form_outside, g_test_ok h]
  | rules rs l =>
    rw [Frm.Ok] at h
    simp [v_p_is_form_outside, Frm.D, r_p_is_long_form_outside, v_p_is_long_form_outside, g_rules_ok hn h.1 h.2]
  | card ws t =>
    rw [Frm.Ok] at h
    simp [v_p_is_form_outside, Frm.D, r_p_is_long_form_outside, v_p_is_long_form_outside, g_weights_ok hn h.1 h.2, g_is_integer_int]
  | table rs =>
    rw [Frm.Ok] at h
    simp [v_p_is_form_outside, Frm.D, r_p_is_short_form_outside, v_p_is_short_form_outside, g_results_ok hn h.1 h.2]
  | tree f bs =>
    rw [Frm.Ok] at h
    have e1 : PyData.int (ns.length : Int) = nD ns.length := rfl
    have lf : f < ns.length := (List.getElem?_eq_some_iff.mp h.1).1
    have t := g_tuple_of_ok (ds := bs.map Frm.D) (n := bs.length)
    have en : ns[f] = bs.length := (List.getElem?_eq_some_iff.mp h.1).2
    simp [v_p_is_form_outside, Frm.D, Frm.Ds_eq, r_p_is_long_form_outside, v_p_is_long_form_outside, e1, g_below_n, lf, en, t]
  | neg x => simp [v_p_is_form_outside, Frm.D, r_p_is_short_form_outside, v_p_is_short_form_outside]
  | join w xs => cases w <;> simp [v_p_is_form_outside, Frm.D, Frm.Ds_eq, Jw.str, r_p_is_short_form_outside, v_p_is_short_form_outside]
theorem g_inner_ok (x : Frm) : g_inner_forms [x.D] = some (.tuple (x.kids.map Frm.D)) := by
  rw [r_inner_forms]
  cases x with
  | join w xs => cases w <;> simp [v_inner_forms, Frm.D, Frm.Ds_eq, Frm.kids, Jw.str]
  | _ => simp [v_inner_forms, Frm.D, Frm.Ds_eq, Frm.kids]
theorem Frm.kids_ok {ns : List Nat} {x : Frm} (h : x.Ok ns) : ∀ y ∈ x.kids, y.Ok ns := by
  cases x with
  | tree f bs => rw [Frm.Ok] at h; exact Frm.Oks_iff.mp h.2
  | neg x => rw [Frm.Ok] at h; intro y hy; rw [List.mem_singleton.mp hy]; exact h
  | join w xs => rw [Frm.Ok] at h; exact Frm.Oks_iff.mp h.2
  | _ => intro y hy; cases hy
theorem Frm.sz_kids (x : Frm) : x.sz = 1 + Frm.szs x.kids := by
  cases x with
  | neg x => rw [Frm.sz, Frm.kids, Frm.szs, Frm.szs]; omega
  | _ => rw [Frm.sz, Frm.kids] <;> simp [Frm.szs]
theorem Frm.szs_append : ∀ {xs ys : List Frm}, Frm.szs (xs ++ ys) = Frm.szs xs + Frm.szs ys
  | [], ys => by rw [List.nil_append, Frm.szs]; omega
  | x :: xs, ys => by rw [List.cons_append, Frm.szs, Frm.szs, Frm.szs_append]; omega
theorem Frm.len_szs : ∀ {xs : List Frm}, xs.length ≤ Frm.szs xs
  | [] => Nat.zero_le _
  | x :: xs => by
    have := Frm.len_szs (xs := xs)
    have h2 := Frm.sz_kids x
    rw [Frm.szs, List.length_cons]
    omega
theorem g_shape_ok {ns : List Nat} {x : Frm} (hn : Sz ns) (h : x.Ok ns) (hs : x.sz ≤ 900000) : g_has_form_shape [nsD ns, x.D] = some (.bool true) := by
  rw [r_has_form_shape]
  have W : ∀ (n : Nat) (l : List Frm) (c : Cel), c.own = false → (∀ y ∈ l, y.Ok ns) → Frm.szs l < n → Frm.szs l ≤ 900000 → ∃ c', whGo (mTruO 2) (sSeq (sSet 3 (mPop 2))
      (sSeq (sIf (mNotT (mTru (mCall g_p_is_form_outside (mCons (mV 0) (mCons (mV 3) mNil))))) (sRet (M.ret (.bool false))) sNil)
      (sExt 2 (mCall g_inner_forms (mCons (mV 3) mNil))))) n [.pl (nsD ns), .pl x.D, .ow (l.map Frm.D), c] = some (.nx [.pl (nsD ns), .pl x.D, .ow [], c']) := fun n => by
    induction n with
    | zero => intro l c _ _ hl; omega
    | succ n ih =>
      intro l c hc hl hn1 hn2
      rcases List.eq_nil_or_concat l with rfl | ⟨l', y, rfl⟩
      · exact ⟨c, by rw [whGo_step (k := false) (r1 := [.pl (nsD ns), .pl x.D, .ow [], c]) (by simp)]; rfl⟩
      · have oy : y.Ok ns := hl y (by simp)
        have sy := Frm.sz_kids y
        rw [List.concat_eq_append, Frm.szs_append, Frm.szs, Frm.szs] at hn1 hn2
        have l1 := Frm.len_szs (xs := l')
        have l2 := Frm.len_szs (xs := y.kids)
        obtain ⟨c', e⟩ := ih (l' ++ y.kids) (.pl y.D) rfl (by
          intro z hz
          rcases List.mem_append.mp hz with hz | hz
          · exact hl z (by simp [hz])
          · exact Frm.kids_ok oy z hz) (by rw [Frm.szs_append]; omega) (by rw [Frm.szs_append]; omega)
        refine ⟨c', ?_⟩
        have lk : l'.length + y.kids.length ≤ 1000000 := by omega
        rw [List.map_append] at e
        rw [whGo_step (k := true) (r1 := [.pl (nsD ns), .pl x.D, .ow ((l'.concat y).map Frm.D), c]) (by simp), if_pos rfl]
        cases c with
        | un => simp [g_outside_ok hn oy, g_inner_ok, lk, e]
        | pl d => simp [g_outside_ok hn oy, g_inner_ok, lk, e]
        | ow d => cases hc
        | io d => cases hc
        | dk d => cases hc
  obtain ⟨c', e⟩ := W WH [x] .un rfl (by simpa using h) (by rw [Frm.szs, Frm.szs]; show _ < 1000000; omega) (by rw [Frm.szs, Frm.szs]; omega)
  simp only [List.map_cons, List.map_nil] at e
  simp [v_has_form_shape]
  rw [e]
  simp
theorem g_check_form_ok {ns : List Nat} {x : Frm} (hn : Sz ns) (h : x.Ok ns) (hs : x.sz ≤ 900000) : g_check_form [nsD ns, x.D] = some .none := by
  rw [r_check_form]
  simp [v_check_form, g_shape_ok hn h hs]
end DL
namespace DL
open PySem PySem.Spec PyProof.Rows L2 Lk
theorem Half.cons {n : Nat} {ns : List Nat} {h : Option Nat} {hs : List (Option Nat)} (H : Half (n :: ns) (h :: hs)) : (∀ v, h = some v → v < n) ∧ Half ns hs :=
  ⟨fun v e => H.2 0 n v rfl (by rw [e]; rfl), by simpa using H.1, fun i m v e e' => H.2 (i + 1) m v (by simpa using e) (by simpa using e')⟩
structure Ask (ns : List Nat) (x : Frm) : Prop where
  sz : Sz ns
  sm : prod ns ≤ 1024
  ok : x.Ok ns
  dp : x.dp < 60
  s : x.sz ≤ 900000
variable {ns : List Nat} {x : Frm} {hs : List (Option Nat)}
end DL
namespace DL
open PySem PySem.Spec PyProof.Rows L2 Lk
section
variable {α : Type} {vs : List Nat} {mi : M (List PyData)} {g : PyData → En → Option En} {mt : M Bool} {me : M PyData} {r0 r : En}
theorem lcGo_st (f : α → PyData) (P : α → PyData → Prop) (I : List α → En → Prop) : ∀ {xs : List α} {r : En}, I xs r → (∀ x xs r, I (x :: xs) r → ∃ r1 d r2, g (f x) (wipeE r vs) = some r1 ∧ mt r1 = some (.ok true r1) ∧ me r1 = some (.ok d r2) ∧ P x d ∧ I xs r2) →
    ∃ (ds : List PyData) (r' : En), lcGo vs g mt me (xs.map f) r = some (ds, wipeE r' vs) ∧ ds.length = xs.length ∧ (∀ (i : Nat) (x : α) (d : PyData), xs[i]? = some x → ds[i]? = some d → P x d) ∧ I [] r'
  | [], r, h0, _ => ⟨[], r, rfl, rfl, fun i x d e => by simp at e, h0⟩
  | x :: xs, r, h0, h => by
    obtain ⟨r1, d, r2, h1, h2, h3, h4, h5⟩ := h x xs r h0
    obtain ⟨ds, r', e, hl, hp, hi⟩ := lcGo_st f P I (xs := xs) h5 h
    refine ⟨d :: ds, r', ?_, by simp [hl], fun i y z e1 e2 => ?_, hi⟩
    · rw [List.map_cons, lcGo, h1]
      dsimp only [Option.bind]
      rw [h2]
      dsimp only
      rw [h3]
      dsimp only
      rw [e]
      rfl
    · cases i with
      | zero => cases e1; cases e2; exact h4
      | succ i => exact hp i y z (by simpa using e1) (by simpa using e2)
theorem lc_st (f : α → PyData) (P : α → PyData → Prop) (I : List α → En → Prop) {xs : List α} (hi : mi r0 = some (.ok (xs.map f) r)) (hf : freeAt r vs = true) (hl : xs.length ≤ 1000000) (h0 : I xs r)
    (h : ∀ x xs r, I (x :: xs) r → ∃ r1 d r2, g (f x) (wipeE r vs) = some r1 ∧ mt r1 = some (.ok true r1) ∧ me r1 = some (.ok d r2) ∧ P x d ∧ I xs r2) :
    ∃ (ds : List PyData) (r' : En), mLc vs mi g mt me r0 = some (.ok ds (restE r (wipeE r' vs) vs)) ∧ ds.length = xs.length ∧ (∀ (i : Nat) (x : α) (d : PyData), xs[i]? = some x → ds[i]? = some d → P x d) ∧ I [] r' := by
  obtain ⟨ds, r', e, e2⟩ := lcGo_st (vs := vs) (g := g) (mt := mt) (me := me) f P I h0 h
  refine ⟨ds, r', ?_, e2⟩
  unfold mLc M.bind
  rw [hi]
  dsimp only
  rw [hf, decide_eq_true (by rw [List.length_map]; exact hl), e]
  rfl
end
end DL
namespace DL
open PySem PySem.Spec PyProof.Rows L2 Lk
end DL
namespace DL
open PySem PySem.Spec PyProof.Rows L2 Lk
def Bits (c : Int) : Prop := Builtin.Int.intBits c ≤ 1048576
theorem na {a : Int} {n : Nat} (h1 : 0 ≤ a) (h2 : a ≤ n) (hn : n < 2 ^ 1000 := by decide) : a.natAbs < 2 ^ 1000 := by omega
end DL
namespace DL
open PySem PySem.Spec PyProof.Rows L2 Lk
variable {ns : List Nat} {c : Int}
end DL
namespace DL
open PySem PySem.Spec PyProof.Rows L2 Lk
variable {ns : List Nat} {c : Int}
end DL
namespace DL
open PySem PySem.Spec PyProof.Rows L2 Lk
variable {ns : List Nat} {c : Int}
theorem eqv_nil : PyData.eqv (nsD ns) (.list []) = ns.isEmpty := by
  cases ns with
  | nil => simp [PyData.eqv, PyData.eqvAll]
  | cons a l => simp [PyData.eqv, PyData.eqvAll]
theorem sh_ns : SeqAt.shaped (nsD ns) = true := (Sh.list fun _ _ => Sh.n).sh
theorem sh_nil : SeqAt.shaped (.list []) = true := shaped_of rfl (by simp [PyData.depth, PyData.depthAll])
theorem e_eq_nil : eqM (nsD ns) (.list []) = some (.bool ns.isEmpty) := by rw [e_eqD sh_ns sh_nil, eqv_nil]
theorem e_ne_nil : neM (nsD ns) (.list []) = some (.bool (!ns.isEmpty)) := by rw [e_neD sh_ns sh_nil, eqv_nil]
@[simp] theorem e_gt_l {a n : Nat} : gtM (nD a) (.int (no_index (@OfNat.ofNat Int n instOfNat))) = some (.bool (decide (n < a))) := by
  show some (PyData.bool (decide (((n : Nat) : Int) < a))) = _
  simp
theorem Bits.zero : Bits 0 := by unfold Bits Builtin.Int.intBits; decide
def hd (cells : List Int) : Int := (cells ++ [0]).headD 0
end DL
namespace DL
open PySem PySem.Spec PyProof.Rows L2 Lk
@[simp] theorem e_callM2 {i j : Nat} {m1 m2 m4 : M PyData} {g : G2} {r : En} : mCallM2 i j m1 m2 m4 g r = if (ownOf r[i]?).isSome ∧ (ownOf r[j]?).isSome then (m1.bind fun d1 => m2.bind fun d2 => m4.bind fun d4 => fun r => match ownOf r[i]?, ownOf r[j]? with
  | some bs, some ls => (g bs ls [d1, d2, d4]).map fun z => .ok z.1 (upO j z.2.2 (upO i z.2.1 r))
  | _, _ => none) r else none := rfl
@[simp] theorem e_callM2L {i : Nat} {m1 m2 m4 : M PyData} {ml : M (List PyData)} {g : G2} {r : En} : mCallM2L i m1 m2 ml m4 g r = if (ownOf r[i]?).isSome then (m1.bind fun d1 => m2.bind fun d2 => ml.bind fun ls => m4.bind fun d4 => fun r => match ownOf r[i]? with
  | some bs => (g bs ls [d1, d2, d4]).map fun z => .ok z.1 (upO i z.2.1 r)
  | none => none) r else none := rfl
structure Bag.TOk (B : Bag) : Prop where
  a0 : 0 ≤ B.a
  b0 : 0 ≤ B.b
  b1 : B.b < 1000000000000000003
  n1 : B.n ≤ 1000001
theorem g_tbag_ok {c : Int} (hc : BitsI c) : ∃ B : Bag, g_q_law_bag_0df30 [.int c] = some (.inr B.D) ∧ B.TOk ∧ B.n = 0 := by
  rw [r_q_law_bag_0df30]
  have o1 : modM (.int c) (.int 1000000000000000003) = some (.int (c % 1000000000000000003)) := e_modI (by decide)
  have b1 := Int.emod_nonneg c (show (1000000000000000003 : Int) ≠ 0 by decide)
  have b2 := Int.emod_lt_of_pos c (show (0 : Int) < 1000000000000000003 by decide)
  by_cases h : 1000000000000000000 ≤ c
  · refine ⟨⟨c - 1000000000000000000, c % 1000000000000000003, 0⟩, ?_, ⟨by show (0 : Int) ≤ c - _; omega, b1, b2, by show 0 ≤ _; omega⟩, rfl⟩
    simp [v_q_law_bag_0df30, e_pow1018, h, o1, Bag.D]
    rfl
  · refine ⟨⟨0, c % 1000000000000000003, 0⟩, ?_, ⟨Int.le_refl _, b1, b2, by show 0 ≤ _; omega⟩, rfl⟩
    simp [v_q_law_bag_0df30, e_pow1018, h, o1, Bag.D]
    rfl
theorem e_mulN {a b : Int} {k l : Nat} (ha : 0 ≤ a) (ha' : a < 2 ^ k) (hb : 0 ≤ b) (hb' : b < 2 ^ l) (hk : 0 < k := by decide) (hl : 0 < l := by decide) (h : k + l < 100000000 := by decide) : mulM (.int a) (.int b) = some (.int (a * b)) := e_mulK ha ha' hb hb' hk hl h
theorem mul_lt2 {a b : Int} {k l : Nat} (ha : 0 ≤ a) (ha' : a < 2 ^ k) (hb : 0 ≤ b) (hb' : b < 2 ^ l) : 0 ≤ a * b ∧ a * b < 2 ^ (k + l) := by
  refine ⟨Int.mul_nonneg ha hb, ?_⟩
  rw [Int.pow_add]
  have p : (0 : Int) < 2 ^ l := Int.pow_pos (by decide)
  have h1 : a * b ≤ a * 2 ^ l := Int.mul_le_mul_of_nonneg_left (Int.le_of_lt hb') ha
  have h2 : a * 2 ^ l < 2 ^ k * 2 ^ l := Int.mul_lt_mul_of_pos_right ha' p
  omega
theorem g_tdraw_ok {B : Bag} {m : Nat} (h : B.TOk) (hn : B.n ≤ 1000000) (hm : 1 ≤ m) (hm2 : m ≤ 1000000) : ∃ (v : Nat) (B' : Bag), g_law_draw_80bbd B.D [nD m] = some (nD v, B'.D) ∧ v < m ∧ B'.TOk ∧ B'.n ≤ B.n + 1 := by
  rw [r_law_draw_80bbd]
  have mb : (m : Int) < 2 ^ 62 := Int.lt_of_le_of_lt (show (m : Int) ≤ 1000000 by omega) (by decide)
  have hb : Builtin.Int.intBits (m : Int) ≤ 1000 := bits_le (Nat.lt_of_le_of_lt hm2 (by decide))
  by_cases ha : 0 < B.a
  · have o1 : modM (.int B.a) (nD m) = some (nD (B.a % m).toNat) := by
      have := e_modI (a := B.a) (b := m) (by omega)
      show modM (.int B.a) (.int m) = _
      rw [this]
      unfold nD
      rw [Int.toNat_of_nonneg (Int.emod_nonneg _ (by omega))]
    have d1 : divM (.int B.a) (nD m) = some (.int (B.a / m)) := e_divI (by omega) (by simpa using Nat.lt_of_le_of_lt hm2 (by decide))
    have lt := Int.emod_lt_of_pos B.a (show (0 : Int) < m by omega)
    have ge := Int.emod_nonneg B.a (show (m : Int) ≠ 0 by omega)
    refine ⟨(B.a % m).toNat, ⟨B.a / m, B.b, B.n⟩, ?_, by omega, ⟨Int.ediv_nonneg h.a0 (by omega), h.b0, h.b1, h.n1⟩, Nat.le_succ _⟩
    simp [v_law_draw_80bbd, e_atB0, ixB0, set0, ha, o1, d1]
  · have ad : addM (nD B.n) (.int 1) = some (nD (B.n + 1)) := rfl
    obtain ⟨t, ht⟩ : ∃ t : Int, t = ((B.n + 1 : Nat) : Int) := ⟨_, rfl⟩
    have t0 : 0 ≤ t := by omega
    have t1 : t < 2 ^ 20 := by
      have e : (2 : Int) ^ 20 = 1048576 := by decide
      omega
    have tD : nD (B.n + 1) = .int t := by rw [ht]; rfl
    have b0 := h.b0
    have b1 := h.b1
    have e65 : (2 : Int) ^ 65 = 36893488147419103232 := by decide
    have e70 : (2 : Int) ^ 70 = 1180591620717411303424 := by decide
    have e45 : (2 : Int) ^ 45 = 35184372088832 := by decide
    have e20 : (2 : Int) ^ 20 = 1048576 := by decide
    have m1 : mulM (.int 31) (.int t) = some (.int (31 * t)) := e_mulN (k := 5) (l := 20) (by decide) (by decide) t0 t1
    have m2 : mulM (.int (31 * t)) (.int t) = some (.int (31 * t * t)) := e_mulN (k := 25) (l := 20) (by omega) (by
      have e : (2 : Int) ^ 25 = 33554432 := by decide
      omega) t0 t1
    have m3 : mulM (.int 104729) (.int t) = some (.int (104729 * t)) := e_mulN (k := 17) (l := 20) (by decide) (by decide) t0 t1
    have m4 : mulM (.int 17) (.int t) = some (.int (17 * t)) := e_mulN (k := 5) (l := 20) (by decide) (by decide) t0 t1
    obtain ⟨q0, q1⟩ := mul_lt2 (a := 31 * t) (b := t) (k := 25) (l := 20) (by omega) (by
      have e : (2 : Int) ^ 25 = 33554432 := by decide
      omega) t0 t1
    have q1 : 31 * t * t < 35184372088832 := by rw [← e45]; exact q1
    generalize 31 * t * t = y1 at m2 q0 q1
    have u0 : 0 ≤ y1 + 104729 * t + 13 := by omega
    have u1 : y1 + 104729 * t + 13 < 2 ^ 50 := by
      have e : (2 : Int) ^ 50 = 1125899906842624 := by decide
      omega
    have m5 : mulM (.int (B.b + 7)) (.int (y1 + 104729 * t + 13)) = some (.int ((B.b + 7) * (y1 + 104729 * t + 13))) := e_mulN (k := 65) (l := 50) (by omega) (by omega) u0 u1
    obtain ⟨w0, w1⟩ := mul_lt2 (a := B.b + 7) (b := y1 + 104729 * t + 13) (k := 65) (l := 50) (by omega) (by omega) u0 u1
    have w1 : (B.b + 7) * (y1 + 104729 * t + 13) < 41538374868278621028243970633760768 := by
      have e : (2 : Int) ^ (65 + 50) = 41538374868278621028243970633760768 := by decide
      rw [← e]
      exact w1
    generalize (B.b + 7) * (y1 + 104729 * t + 13) = y2 at m5 w0 w1
    have z0 : 0 ≤ y2 + 17 * t := by omega
    have z1 : y2 + 17 * t < 2 ^ 120 := by
      have e : (2 : Int) ^ 120 = 1329227995784915872903807060280344576 := by decide
      omega
    generalize hy3 : y2 + 17 * t = y3 at z0 z1
    have m6 : mulM (.int y3) (.int y3) = some (.int (y3 * y3)) := e_mulN (k := 120) (l := 120) z0 z1 z0 z1
    have m7 : mulM (.int 999983) (.int y3) = some (.int (999983 * y3)) := e_mulN (k := 20) (l := 120) (by decide) (by decide) z0 z1
    have o1 : modM (.int (y3 * y3 + 999983 * y3)) (.int 1000000000000000009) = some (.int ((y3 * y3 + 999983 * y3) % 1000000000000000009)) := e_modI (by decide)
    have d1 : divM (.int ((y3 * y3 + 999983 * y3) % 1000000000000000009)) (.int 1009) = some (.int ((y3 * y3 + 999983 * y3) % 1000000000000000009 / 1009)) := e_divI (by decide) (by decide)
    have x0 := Int.emod_nonneg (y3 * y3 + 999983 * y3) (show (1000000000000000009 : Int) ≠ 0 by decide)
    have x1 := Int.emod_lt_of_pos (y3 * y3 + 999983 * y3) (show (0 : Int) < 1000000000000000009 by decide)
    have s0 : 0 ≤ (y3 * y3 + 999983 * y3) % 1000000000000000009 / 1009 := Int.ediv_nonneg x0 (by decide)
    have s1 : (y3 * y3 + 999983 * y3) % 1000000000000000009 / 1009 < 2 ^ 65 := by omega
    generalize (y3 * y3 + 999983 * y3) % 1000000000000000009 / 1009 = y4 at d1 s0 s1
    have m8 : mulM (.int y4) (.int y4) = some (.int (y4 * y4)) := e_mulN (k := 65) (l := 65) s0 s1 s0 s1
    have m9 : mulM (.int 65537) (.int y4) = some (.int (65537 * y4)) := e_mulN (k := 17) (l := 65) (by decide) (by decide) s0 s1
    have o2 : modM (.int (y4 * y4 + 65537 * y4 + t)) (.int 2147483629) = some (.int ((y4 * y4 + 65537 * y4 + t) % 2147483629)) := e_modI (by decide)
    have d2 : divM (.int ((y4 * y4 + 65537 * y4 + t) % 2147483629)) (.int 16) = some (.int ((y4 * y4 + 65537 * y4 + t) % 2147483629 / 16)) := e_divI (by decide) (by decide)
    generalize (y4 * y4 + 65537 * y4 + t) % 2147483629 / 16 = y5 at d2
    have o9 : modM (.int y5) (nD m) = some (nD (y5 % m).toNat) := by
      have := e_modI (a := y5) (b := m) (by omega)
      show modM (.int y5) (.int m) = _
      rw [this]
      unfold nD
      rw [Int.toNat_of_nonneg (Int.emod_nonneg _ (by omega))]
    have lt := Int.emod_lt_of_pos y5 (show (0 : Int) < m by omega)
    have ge := Int.emod_nonneg y5 (show (m : Int) ≠ 0 by omega)
    refine ⟨(y5 % m).toNat, ⟨B.a, B.b, B.n + 1⟩, ?_, by omega, ⟨h.a0, h.b0, h.b1, by show B.n + 1 ≤ _; omega⟩, Nat.le_refl _⟩
    obtain ⟨B1, hB1⟩ : ∃ B1 : Bag, B1 = ⟨B.a, B.b, B.n + 1⟩ := ⟨_, rfl⟩
    have at2 : atI B1.D 2 = some (.int t) := by rw [e_atB2, hB1]; exact congrArg some tD
    have at1 : atI B1.D 1 = some (.int B.b) := by rw [e_atB1, hB1]
    simp [v_law_draw_80bbd, e_atB0, e_atB2, ad, ixB2, set2, ← hB1, at1, at2, ha, m1, m2, m3, m4, m5, hy3, m6, m7, o1, d1, m8, m9, o2, d2, o9]
theorem nums_of {p : Nat → Prop} : ∀ {ds : List PyData}, (∀ d ∈ ds, ∃ c, p c ∧ d = nD c) → ∃ ns : List Nat, ds = ns.map nD ∧ ∀ c ∈ ns, p c
  | [], _ => ⟨[], rfl, by simp⟩
  | d :: ds, h => by
    obtain ⟨ns, e, hp⟩ := nums_of (ds := ds) fun x hx => h x (List.mem_cons_of_mem _ hx)
    obtain ⟨c, hc, rfl⟩ := h d List.mem_cons_self
    refine ⟨c :: ns, by rw [e]; rfl, fun x hx => ?_⟩
    rcases List.mem_cons.mp hx with rfl | hx
    · exact hc
    · exact hp x hx
theorem nums_ix {p : Nat → Prop} {α : Type} {xs : List α} {ds : List PyData} (hl : ds.length = xs.length) (h : ∀ (i : Nat) (x : α) (d : PyData), xs[i]? = some x → ds[i]? = some d → ∃ c, p c ∧ d = nD c) : ∃ ns : List Nat, ds = ns.map nD ∧ ns.length = xs.length ∧ ∀ c ∈ ns, p c := by
  obtain ⟨ns, e, hp⟩ := nums_of (p := p) (ds := ds) fun d hd => by
    obtain ⟨i, hi⟩ := List.getElem?_of_mem hd
    have li := (List.getElem?_eq_some_iff.mp hi).1
    exact h i _ d (List.getElem?_eq_getElem (by omega)) hi
  refine ⟨ns, e, ?_, hp⟩
  rw [← hl, e, List.length_map]
theorem g_tsheet_ok {B : Bag} (h : B.TOk) (hn : B.n ≤ 900000) : ∃ (ns : List Nat) (B' : Bag), g_law_sheet_490db B.D [] = some (nsD ns, B'.D) ∧ Sz ns ∧ B'.TOk ∧ B'.n ≤ B.n + 26 := by
  rw [r_law_sheet_490db]
  obtain ⟨s, B1, e1, hs, ok1, n1⟩ := g_tdraw_ok h (by omega) (m := 6) (by decide) (by decide)
  have e1 : g_law_draw_80bbd B.D [.int 6] = some (nD s, B1.D) := e1
  obtain ⟨m, B2, hm, e2, ok2, n2⟩ : ∃ (m : Nat) (B2 : Bag), m ≤ 24 ∧ (sIf (mOpT eqM (mV 1) (M.ret (.int 0)))
    (sSet 2 (mCallM 0 (mCons (M.ret (.int 3)) mNil) g_law_draw_80bbd))
    (sIf (mOpT gtM (mV 1) (M.ret (.int 1)))
    (sSet 2 (mCallM 0 (mCons (M.ret (.int 25)) mNil) g_law_draw_80bbd))
    sNil)) [.io B1.D, .pl (nD s), .pl (.int 24), .un] = some (.nx [.io B2.D, .pl (nD s), .pl (nD m), .un]) ∧ B2.TOk ∧ B2.n ≤ B1.n + 1 := by
    by_cases c0 : s = 0
    · subst c0
      obtain ⟨v, B2, e, hv, ok, nn⟩ := g_tdraw_ok ok1 (by omega) (m := 3) (by decide) (by decide)
      have e : g_law_draw_80bbd B1.D [.int 3] = some (nD v, B2.D) := e
      have q : eqM (nD 0) (.int 0) = some (.bool true) := rfl
      exact ⟨v, B2, by omega, by simp [e, q], ok, nn⟩
    · have q : eqM (nD s) (.int 0) = some (.bool false) := by
        have := e_eq_n (a := s) (b := 0)
        have e : eqM (nD s) (.int 0) = some (.bool (s == 0)) := this
        rw [e]
        simp [c0]
      by_cases c1 : 1 < s
      · obtain ⟨v, B2, e, hv, ok, nn⟩ := g_tdraw_ok ok1 (by omega) (m := 25) (by decide) (by decide)
        have e : g_law_draw_80bbd B1.D [.int 25] = some (nD v, B2.D) := e
        have q2 : gtM (nD s) (.int 1) = some (.bool true) := by
          show some (PyData.bool (decide ((1 : Int) < (s : Int)))) = _
          rw [decide_eq_true (by omega)]
        exact ⟨v, B2, by omega, by simp [e, q, q2], ok, nn⟩
      · have q2 : gtM (nD s) (.int 1) = some (.bool false) := by
          show some (PyData.bool (decide ((1 : Int) < (s : Int)))) = _
          rw [decide_eq_false (by omega)]
        exact ⟨24, B1, by omega, by simp [q, q2]; rfl, ok1, by omega⟩
  obtain ⟨ds, r', e3, hl, hp, B3, c3, rfl, _, ok3, n3⟩ := lc_st (vs := [3]) (mi := mRng1 (mCons (mV 2) mNil)) (g := gN 3) (mt := mYes) (me := mOp2 addM (M.ret (.int 2)) (mCallM 0 (mCons (M.ret (.int 5)) mNil) g_law_draw_80bbd)) (r0 := [.io B2.D, .pl (nD s), .pl (nD m), .un]) (r := [.io B2.D, .pl (nD s), .pl (nD m), .un]) nD (fun (x : Nat) d => ∃ c, (2 ≤ c ∧ c ≤ 6) ∧ d = nD c)
    (fun xs r => ∃ B' c3, r = [.io B'.D, .pl (nD s), .pl (nD m), c3] ∧ c3.own = false ∧ B'.TOk ∧ B'.n + xs.length ≤ B2.n + m) (xs := List.range m) (by simp [e_rng_n m (by omega)]) (by simp [freeAt]) (by simp; omega) ⟨B2, .un, rfl, rfl, ok2, by simp⟩ (by
      rintro x xs r ⟨B', c3, rfl, h3, ok, nn⟩
      rw [List.length_cons] at nn
      obtain ⟨v, B4, e, hv, ok4, n4⟩ := g_tdraw_ok ok (by omega) (m := 5) (by decide) (by decide)
      have e : g_law_draw_80bbd B'.D [.int 5] = some (nD v, B4.D) := e
      have a2 : addM (.int 2) (nD v) = some (nD (2 + v)) := e_add_n (a := 2) (b := v)
      exact ⟨[.io B'.D, .pl (nD s), .pl (nD m), .pl (nD x)], nD (2 + v), [.io B4.D, .pl (nD s), .pl (nD m), .pl (nD x)], by simp, rfl, by simp [e, a2], ⟨2 + v, ⟨by omega, by omega⟩, rfl⟩, B4, .pl (nD x), rfl, rfl, ok4, by omega⟩)
  obtain ⟨ns, rfl, ln, hns⟩ := nums_ix hl hp
  rw [List.length_range] at ln
  refine ⟨ns, B3, ?_, ⟨by omega, hns⟩, ok3, by simp at n3; omega⟩
  have er : restE [.io B2.D, .pl (nD s), .pl (nD m), .un] (wipeE [.io B3.D, .pl (nD s), .pl (nD m), c3] [3]) [3] = [.io B3.D, .pl (nD s), .pl (nD m), .un] := rfl
  rw [er] at e3
  rw [v_law_sheet_490db, s_seq, show sSet 1 (mCallM 0 (mCons (M.ret (.int 6)) mNil) g_law_draw_80bbd) [.io B.D, .un, .un, .un] = some (.nx [.io B1.D, .pl (nD s), .un, .un]) by simp [e1]]
  dsimp only
  rw [s_seq, show sSet 2 (M.ret (.int 24)) [.io B1.D, .pl (nD s), .un, .un] = some (.nx [.io B1.D, .pl (nD s), .pl (.int 24), .un]) by simp]
  dsimp only
  rw [s_seq, e2]
  dsimp only
  simp [e3]
def inP (m : Nat) (P : List Nat) : Prop := P.length ≤ 24 ∧ ∀ f ∈ P, f < m
theorem g_tpool_ok {B : Bag} {ns : List Nat} (h : B.TOk) (hn : B.n ≤ 900000) (hs : Sz ns) : ∃ (P : List Nat) (B' : Bag), g_law_pool_d95fb B.D [nsD ns] = some (nsD P, B'.D) ∧ inP ns.length P ∧ B'.TOk ∧ B'.n ≤ B.n + 8 := by
  rw [r_law_pool_d95fb]
  have l24 := hs.1
  have ln : lenM [nsD ns] = some (nD ns.length) := by
    show some (PyData.int (ns.map nD).length) = _
    rw [List.length_map]
    rfl
  by_cases c0 : ns = []
  · subst c0
    have q : eqM (nsD []) (.list []) = some (.bool true) := by rw [e_eq_nil]; rfl
    have er := e_rng_n 0 (by omega)
    have rr : rngM [nD ([] : List Nat).length] = some [] := rfl
    refine ⟨[], B, ?_, ⟨by simp, by simp⟩, h, by omega⟩
    have lr : mLRng1 (mCall lenM (mCons (mV 1) mNil)) [.io B.D, .pl (nsD []), .un, .un] = some (.ok [] [.io B.D, .pl (nsD []), .un, .un]) := by
      simp [ln]
      rfl
    simp [v_law_pool_d95fb, q, lr]
    rfl
  · have q : eqM (nsD ns) (.list []) = some (.bool false) := by
      rw [e_eq_nil]
      cases ns with
      | nil => exact absurd rfl c0
      | cons a l => rfl
    have l1 : 1 ≤ ns.length := List.length_pos_iff.mpr c0
    obtain ⟨s, B1, e1, hs1, ok1, n1⟩ := g_tdraw_ok h (by omega) (m := 3) (by decide) (by decide)
    have e1 : g_law_draw_80bbd B.D [.int 3] = some (nD s, B1.D) := e1
    by_cases c1 : s = 0
    · subst c1
      have q0 : eqM (nD 0) (.int 0) = some (.bool true) := rfl
      refine ⟨List.range ns.length, B1, ?_, ⟨by simp; omega, fun f hf => List.mem_range.mp hf⟩, ok1, by omega⟩
      have er := e_rng_n ns.length (by omega)
      have rl : rngL 0 ns.length = (List.range ns.length).map nD := by
        unfold rngL
        refine List.map_congr_left fun i _ => ?_
        rw [Int.zero_add]
        rfl
      have le : ns.length ≤ 1000000 := by omega
      simp [v_law_pool_d95fb, q, e1, q0, ln, rl, le]
    · have q0 : eqM (nD s) (.int 0) = some (.bool false) := by
        have e : eqM (nD s) (.int 0) = some (.bool (s == 0)) := e_eq_n (a := s) (b := 0)
        rw [e]
        simp [c1]
      obtain ⟨v, B2, e2, hv, ok2, n2⟩ := g_tdraw_ok ok1 (by omega) (m := 6) (by decide) (by decide)
      have e2 : g_law_draw_80bbd B1.D [.int 6] = some (nD v, B2.D) := e2
      have a1 : addM (.int 1) (nD v) = some (nD (1 + v)) := e_add_n (a := 1) (b := v)
      obtain ⟨ds, r', e3, hl, hp, B3, c3, rfl, _, ok3, n3⟩ := lc_st (vs := [3]) (mi := mRng1 (mCons (mV 2) mNil)) (g := gN 3) (mt := mYes) (me := mCallM 0 (mCons (mCall lenM (mCons (mV 1) mNil)) mNil) g_law_draw_80bbd) (r0 := [.io B2.D, .pl (nsD ns), .pl (nD (1 + v)), .un]) (r := [.io B2.D, .pl (nsD ns), .pl (nD (1 + v)), .un]) nD (fun (x : Nat) d => ∃ c, c < ns.length ∧ d = nD c)
        (fun xs r => ∃ B' c3, r = [.io B'.D, .pl (nsD ns), .pl (nD (1 + v)), c3] ∧ c3.own = false ∧ B'.TOk ∧ B'.n + xs.length ≤ B2.n + (1 + v)) (xs := List.range (1 + v)) (by simp [e_rng_n (1 + v) (by omega)]) (by simp [freeAt]) (by simp; omega) ⟨B2, .un, rfl, rfl, ok2, by simp⟩ (by
          rintro x xs r ⟨B', c3, rfl, h3, ok, nn⟩
          rw [List.length_cons] at nn
          obtain ⟨w, B4, e, hw, ok4, n4⟩ := g_tdraw_ok ok (by omega) (m := ns.length) l1 (by omega)
          exact ⟨[.io B'.D, .pl (nsD ns), .pl (nD (1 + v)), .pl (nD x)], nD w, [.io B4.D, .pl (nsD ns), .pl (nD (1 + v)), .pl (nD x)], by simp, rfl, by simp [e, ln], ⟨w, hw, rfl⟩, B4, .pl (nD x), rfl, rfl, ok4, by omega⟩)
      obtain ⟨P, rfl, lP, hP⟩ := nums_ix hl hp
      rw [List.length_range] at lP
      refine ⟨P, B3, ?_, ⟨by omega, hP⟩, ok3, by simp at n3; omega⟩
      have er : restE [.io B2.D, .pl (nsD ns), .pl (nD (1 + v)), .un] (wipeE [.io B3.D, .pl (nsD ns), .pl (nD (1 + v)), c3] [3]) [3] = [.io B3.D, .pl (nsD ns), .pl (nD (1 + v)), .un] := rfl
      rw [er] at e3
      simp [v_law_pool_d95fb, q, e1, q0, e2, a1, e3]
end DL
namespace DL
open PySem PySem.Spec PyProof.Rows L2 Lk
variable {ns cs : List Nat} {c : Int}
end DL
namespace DL
open PySem PySem.Spec PyProof.Rows L2 Lk
variable {ns cs : List Nat} {c : Int} {hs : List (Option Nat)}
end DL
namespace DL
open PySem PySem.Spec PyProof.Rows L2 Lk
variable {ns cs : List Nat} {c : Int} {hs : List (Option Nat)} {x : Frm}
theorem Half.set {f n p : Nat} (h : Half ns hs) (e : ns[f]? = some n) (hp : p < n) : Half ns (hs.set f (some p)) := by
  refine ⟨by rw [List.length_set]; exact h.1, fun i m v e1 e2 => ?_⟩
  by_cases q : f = i
  · subst q
    rw [e] at e1
    cases e1
    have lf : f < hs.length := by rw [h.1]; exact (List.getElem?_eq_some_iff.mp e).1
    rw [List.getElem?_set_self lf] at e2
    cases e2
    exact hp
  · rw [List.getElem?_set_ne q] at e2
    exact h.2 i m v e1 e2
def Cel.isIo : Cel → Bool
  | .io _ => true
  | _ => false
@[simp] theorem io_pl {d : PyData} : (Cel.pl d).isIo = false := rfl
@[simp] theorem io_un : Cel.un.isIo = false := rfl
end DL
namespace DL
open PySem PySem.Spec PyProof.Rows L2 Lk
variable {ns cs : List Nat} {c : Int} {hs : List (Option Nat)} {x y : Frm}
theorem e_rep_none (n : Nat) (h : n ≤ 1000000) : repM [.none] (nD n) = some ((List.replicate n none).map oD) := by
  show (if _ then _ else _) = _
  have e : (n : Int).natAbs = n := by omega
  have e2 : (n : Int).toNat = n := by omega
  rw [if_pos (by rw [e, e2]; exact ⟨h, by simpa using h⟩)]
  rw [e2, List.map_replicate]
  congr 1
  induction n with
  | zero => rfl
  | succ n ih => rw [List.replicate_succ, List.flatten_cons, ih (by omega) (by omega) (by omega), List.replicate_succ]; rfl
end DL
namespace DL
open PySem PySem.Spec PyProof.Rows L2 Lk
variable {ns cs : List Nat} {c : Int} {hs : List (Option Nat)} {x y : Frm}
end DL
namespace DL
open PySem PySem.Spec PyProof.Rows L2 Lk
end DL
namespace DL
open PySem PySem.Spec PyProof.Rows L2 Lk
variable {ns cs : List Nat} {c : Int} {x : Frm}
inductive TreeF : Frm → Prop
  | say (b : Bool) : TreeF (.say b)
  | tree (f : Nat) (bs : List Frm) : (∀ b ∈ bs, TreeF b) → TreeF (.tree f bs)
theorem eqv_list {p : Frm → Prop} : ∀ {bs cs : List Frm}, (∀ b ∈ bs, ∀ u, p u → PyData.eqv b.D u.D = true → b = u) → (∀ c ∈ cs, p c) → PyData.eqvAll (bs.map Frm.D) (cs.map Frm.D) = true → bs = cs
  | [], [], _, _, _ => rfl
  | [], _ :: _, _, _, h => by simp [PyData.eqvAll] at h
  | _ :: _, [], _, _, h => by simp [PyData.eqvAll] at h
  | b :: bs, c :: cs, hb, hc, h => by
    rw [List.map_cons, List.map_cons, PyData.eqvAll, Bool.and_eq_true] at h
    rw [hb b (List.mem_cons_self ..) c (hc c (List.mem_cons_self ..)) h.1, eqv_list (fun b' h' => hb b' (List.mem_cons_of_mem _ h')) (fun c' h' => hc c' (List.mem_cons_of_mem _ h')) h.2]
theorem TreeF.eqv {t : Frm} (h : TreeF t) : ∀ u, TreeF u → PyData.eqv t.D u.D = true → t = u := by
  induction h with
  | say b =>
    intro u hu e
    cases hu with
    | say c =>
      rw [Frm.D, Frm.D, PyData.eqv, PyData.eqvAll, PyData.eqvAll, PyData.eqvAll, PyData.eqv, PyData.eqv] at e
      simp at e
      rw [e]
    | tree g cs hc =>
      rw [Frm.D, Frm.D, PyData.eqv, PyData.eqvAll, PyData.eqvAll, PyData.eqvAll] at e
      simp at e
  | tree f bs hb ih =>
    intro u hu e
    cases hu with
    | say c =>
      rw [Frm.D, Frm.D, PyData.eqv, PyData.eqvAll, PyData.eqvAll, PyData.eqvAll] at e
      simp at e
    | tree g cs hc =>
      rw [Frm.D, Frm.D, PyData.eqv, PyData.eqvAll, PyData.eqvAll, PyData.eqvAll, PyData.eqvAll, Frm.Ds_eq, Frm.Ds_eq, eqv_n, PyData.eqv, PyData.eqv] at e
      simp only [Bool.and_eq_true, beq_iff_eq] at e
      rw [e.2.1, eqv_list (p := TreeF) ih hc e.2.2.1]
theorem Sh.mono {n m : Nat} {d : PyData} (h : Sh n d) (hn : n ≤ m) : Sh m d := ⟨h.1, Nat.le_trans h.2 hn⟩
theorem Sh.strS {a : Str} (h : PyData.strOk a = true) : Sh 0 (.str a) := ⟨by rw [PyData.canLay0]; exact h, by rw [PyData.depth]; omega⟩
theorem Sh.tup' {ds : List PyData} {n : Nat} (h : ∀ d ∈ ds, Sh n d) : Sh (n + 1) (.tuple ds) := by
  have := Sh.tup (f := id) (xs := ds) (n := n) h
  rwa [List.map_id] at this
theorem TreeF.sh {t : Frm} (h : TreeF t) : Sh (2 * t.dp + 1) t.D := by
  induction h with
  | say b =>
    rw [Frm.D, Frm.dp] <;> try simp
    refine Sh.tup' (n := 0) fun d hd => ?_
    simp only [List.mem_cons, List.not_mem_nil, or_false] at hd
    rcases hd with rfl | rfl
    · exact Sh.strS (by decide +kernel)
    · exact Sh.bool
  | tree f bs hb ih =>
    rw [Frm.D, Frm.dp, Frm.Ds_eq]
    have : 2 * (1 + Frm.dps bs) + 1 = (2 * Frm.dps bs + 1 + 1) + 1 := by omega
    rw [this]
    refine Sh.tup' fun d hd => ?_
    simp only [List.mem_cons, List.not_mem_nil, or_false] at hd
    rcases hd with rfl | rfl | rfl
    · exact (Sh.strS (by decide +kernel)).mono (by omega)
    · exact Sh.n.mono (by omega)
    · refine Sh.tup fun b hb' => (ih b hb').mono ?_
      have := Frm.dps_le hb'
      omega
@[simp] theorem e_cntT {i : Nat} {m : M (List PyData)} {r : En} : mCntT i m r = M.bind (mV i) (fun d => m.bind fun ds => M.lift (countT d ds)) r := rfl
@[simp] theorem e_tested {g : List PyData → Option PyData} {ma mb : M PyData} {r : En} : mTested g ma mb r = M.bind ma (fun d => mb.bind fun l => M.lift ((tupL l).bind fun t => g [d, t])) r := rfl
@[simp] theorem e_tupL {ds : List PyData} : tupL (.list ds) = some (.tuple ds) := rfl
theorem g_tested_ok {f : Nat} {b0 : Frm} {bs : List Frm} {d : Nat} (hb : ∀ b ∈ b0 :: bs, TreeF b ∧ b.dp ≤ d) (hd : d ≤ 30) : ∃ z : Frm, g_tested [nD f, .tuple ((b0 :: bs).map Frm.D)] = some z.D ∧ (z = b0 ∧ (∀ b ∈ b0 :: bs, b = b0) ∨ z = .tree f (b0 :: bs)) := by
  rw [r_tested]
  have sh1 : SeqAt.shaped (.tuple ((b0 :: bs).map Frm.D)) = true := (Sh.tup (n := 2 * d + 1) fun b h => ((hb b h).1.sh).mono (by have := (hb b h).2; omega)).sh (by omega)
  have sh2 : SeqAt.shaped b0.D = true := (((hb b0 (List.mem_cons_self ..)).1.sh).mono (m := 2 * d + 1) (by have := (hb b0 (List.mem_cons_self ..)).2; omega)).sh (by omega)
  have ct : countT (.tuple ((b0 :: bs).map Frm.D)) [b0.D] = some (.int ((((b0 :: bs).map Frm.D).countP fun z => PyData.eqv z b0.D : Nat) : Int)) := by
    show (if (SeqAt.shaped (.tuple ((b0 :: bs).map Frm.D)) && SeqAt.shaped b0.D) = true then _ else _) = _
    rw [sh1, sh2]
    rfl
  have i0 : ixM (.tuple ((b0 :: bs).map Frm.D)) (.int 0) = some b0.D := e_at0
  have ll : lenM [.tuple ((b0 :: bs).map Frm.D)] = some (.int (((b0 :: bs).length : Nat) : Int)) := by rw [e_lenT, List.length_map]
  generalize hq : (((b0 :: bs).map Frm.D).countP fun z => PyData.eqv z b0.D) = q at ct
  have ee : eqM (.int (q : Int)) (.int (((b0 :: bs).length : Nat) : Int)) = some (.bool (decide (q = (b0 :: bs).length))) := by
    rw [e_eqD (Sh.int).sh (Sh.int).sh, PyData.eqv]
    congr 2
    rw [Bool.eq_iff_iff, beq_iff_eq, decide_eq_true_iff]
    omega
  by_cases e : q = (b0 :: bs).length
  · refine ⟨b0, ?_, .inl ⟨rfl, fun b h => ?_⟩⟩
    · rw [decide_eq_true e] at ee
      simp only [v_tested, s_seq, s_if, s_bind, e_opT, e_bind, e_cntT, e_V, List.getElem?_cons_zero, List.getElem?_cons_succ, e_cons, e_op2, e_ret, e_lift_some, i0, e_nil, ct, e_call, ll, ee, Option.bind_some, e_asBool, if_true, s_ret, o_rt]
    · rw [← hq, List.countP_map] at e
      have := (List.countP_eq_length.mp e) b h
      exact (hb b h).1.eqv _ (hb b0 (List.mem_cons_self ..)).1 this
  · refine ⟨.tree f (b0 :: bs), ?_, .inr rfl⟩
    rw [decide_eq_false e] at ee
    have t3 : tupM [.str "tree", nD f, .tuple ((b0 :: bs).map Frm.D)] = some (.tuple [.str "tree", nD f, .tuple ((b0 :: bs).map Frm.D)]) := rfl
    simp only [v_tested, s_seq, s_if, s_bind, e_opT, e_bind, e_cntT, e_V, List.getElem?_cons_zero, List.getElem?_cons_succ, e_cons, e_op2, e_ret, e_lift_some, i0, e_nil, ct, e_call, ll, ee, Option.bind_some, e_asBool, Bool.false_eq_true, if_false, s_nil, s_ret, o_rt, e_tup, t3]
    rw [Frm.D, Frm.Ds_eq]
structure Lev (ns : List Nat) (x : Frm) (j : Nat) (T : List Frm) : Prop where
  len : T.length = prod (ns.take j)
  ok : ∀ t ∈ T, TreeF t ∧ t.Ok ns ∧ t.dp ≤ ns.length - j ∧ t.sz + 1 ≤ 2 * prod (ns.drop j)
  ev : ∀ a t, Case ns a → T[plc 0 (ns.take j) (a.take j)]? = some t → t.ev ns a = x.ev ns a
end DL
namespace DL
open PySem PySem.Spec PyProof.Rows L2 Lk
section
variable {α : Type} {vs : List Nat} {mi : M (List PyData)} {g : PyData → En → Option En} {mt : M Bool} {me : M PyData} {r0 r : En}
theorem lcGo_ac (f : α → PyData) (I : List α → List PyData → En → Prop) : ∀ {xs : List α} {acc : List PyData} {r : En}, I xs acc r → (∀ x xs acc r, I (x :: xs) acc r → ∃ r1 d r2, g (f x) (wipeE r vs) = some r1 ∧ mt r1 = some (.ok true r1) ∧ me r1 = some (.ok d r2) ∧ I xs (acc ++ [d]) r2) →
    ∃ (ds : List PyData) (r' : En), lcGo vs g mt me (xs.map f) r = some (ds, wipeE r' vs) ∧ I [] (acc ++ ds) r'
  | [], acc, r, h0, _ => ⟨[], r, rfl, by rw [List.append_nil]; exact h0⟩
  | x :: xs, acc, r, h0, h => by
    obtain ⟨r1, d, r2, h1, h2, h3, h5⟩ := h x xs acc r h0
    obtain ⟨ds, r', e, hi⟩ := lcGo_ac f I (xs := xs) h5 h
    refine ⟨d :: ds, r', ?_, by rw [List.append_assoc] at hi; exact hi⟩
    rw [List.map_cons, lcGo, h1]
    dsimp only [Option.bind]
    rw [h2]
    dsimp only
    rw [h3]
    dsimp only
    rw [e]
    rfl
theorem lc_ac (f : α → PyData) (I : List α → List PyData → En → Prop) {xs : List α} (hi : mi r0 = some (.ok (xs.map f) r)) (hf : freeAt r vs = true) (hl : xs.length ≤ 1000000) (h0 : I xs [] r)
    (h : ∀ x xs acc r, I (x :: xs) acc r → ∃ r1 d r2, g (f x) (wipeE r vs) = some r1 ∧ mt r1 = some (.ok true r1) ∧ me r1 = some (.ok d r2) ∧ I xs (acc ++ [d]) r2) :
    ∃ (ds : List PyData) (r' : En), mLc vs mi g mt me r0 = some (.ok ds (restE r (wipeE r' vs) vs)) ∧ I [] ds r' := by
  obtain ⟨ds, r', e, e2⟩ := lcGo_ac (vs := vs) (g := g) (mt := mt) (me := me) f I h0 h
  refine ⟨ds, r', ?_, e2⟩
  unfold mLc M.bind
  rw [hi]
  dsimp only
  rw [hf, decide_eq_true (by rw [List.length_map]; exact hl), e]
  rfl
end
theorem szs_app : ∀ {xs ys : List Frm}, Frm.szs (xs ++ ys) = Frm.szs xs + Frm.szs ys
  | [], ys => by rw [List.nil_append, Frm.szs]; omega
  | x :: xs, ys => by rw [List.cons_append, Frm.szs, Frm.szs, szs_app (xs := xs)]; omega
theorem szs_rep {x : Frm} : ∀ {n : Nat}, Frm.szs (List.replicate n x) = n * x.sz
  | 0 => by rw [List.replicate_zero, Frm.szs]; omega
  | n + 1 => by rw [List.replicate_succ, Frm.szs, szs_rep (n := n), Nat.succ_mul]; omega
theorem sz_pos {x : Frm} : 1 ≤ x.sz := by cases x <;> simp [Frm.sz] <;> omega
/-- the forms of a plain tree, counted -/
theorem g_tforms_ok {ns : List Nat} (hs : Sz ns) : ∀ {x : Frm}, TreeF x → x.Ok ns → ∀ {k : Nat}, x.dp < k → g_law_forms_3b09a k [x.D] = some (nD x.sz) := by
  intro x h
  induction h with
  | say b =>
    intro _ k hk
    cases k with
    | zero => omega
    | succ k =>
      rw [r_law_forms_3b09a]
      have n1 : PyData.int 1 = nD 1 := rfl
      simp [v_law_forms_3b09a, Frm.D, Frm.sz]
      exact n1
  | tree f bs hb ih =>
    intro ok k hk
    rw [Frm.Ok] at ok
    have b6 := hs.2 _ (List.mem_of_getElem? ok.1)
    cases k with
    | zero => omega
    | succ k =>
      rw [Frm.dp] at hk
      rw [r_law_forms_3b09a]
      simp [v_law_forms_3b09a, Frm.D, Frm.Ds_eq]
      rw [lcy Frm.D (fun y => nD y.sz) (fun y => [.pl (.tuple [.str "tree", nD f, .tuple (bs.map Frm.D)]), .pl y.D]) (xs := bs) (by simp) (by simp [freeAt]) (by omega) (by simp) (by simp) (by
        intro y hy
        have := ih y hy (Frm.Oks_iff.mp ok.2 _ hy) (k := k) (by have := Frm.dps_le hy; omega)
        simp [this])]
      have su : ∀ {ys : List Frm}, (ys.map Frm.sz).sum = Frm.szs ys := fun {ys} => by
        induction ys with
        | nil => rw [Frm.szs]; rfl
        | cons a l ih => rw [List.map_cons, List.sum_cons, Frm.szs, ih]
      have e := e_sumF (xs := bs) (f := fun y => (y.sz : Int))
      have e2 : (bs.map fun y => ((y.sz : Nat) : Int)).sum = ((Frm.szs bs : Nat) : Int) := by
        rw [← su]
        clear e
        generalize bs = l
        induction l with
        | nil => rfl
        | cons a l ih => simp only [List.map_cons, List.sum_cons, ih]; omega
      rw [e2] at e
      have e : sumM [.list (bs.map fun y => nD y.sz)] = some (nD (Frm.szs bs)) := e
      have a1 : addM (.int 1) (nD (Frm.szs bs)) = some (nD (1 + Frm.szs bs)) := e_add_n (a := 1)
      simp [e, a1, Frm.sz]
structure TreeK (ns : List Nat) (d : Nat) (x : Frm) : Prop where
  t : TreeF x
  ok : x.Ok ns
  dp : x.dp ≤ d
abbrev envT (B : Bag) (ns P : List Nat) (L lv : Nat) (c5 c6 c7 c8 c9 c10 c11 : Cel) : En := [.io B.D, .pl (nsD ns), .pl (nsD P), .io [nD L], .pl (nD lv), c5, c6, c7, c8, c9, c10, c11]
def tailT : SM := (sRet (mTup (mCons (M.ret (.str "say")) (mCons (mOp2 eqM (mCallM 0 (mCons (M.ret (.int 2)) mNil) g_law_draw_80bbd) (M.ret (.int 1))) mNil))))
theorem tailT_ok {B : Bag} {ns P : List Nat} {L lv : Nat} {c5 c6 c7 c8 c9 c10 c11 : Cel} (h : B.TOk) (hn : B.n ≤ 900000) :
    ∃ (b : Bool) (B' : Bag), outM2 (tailT (envT B ns P L lv c5 c6 c7 c8 c9 c10 c11)) = some ((Frm.say b).D, B'.D, [nD L]) ∧ B'.TOk ∧ B'.n ≤ B.n + 1 := by
  obtain ⟨s, B1, e1, hs, ok1, n1⟩ := g_tdraw_ok h (by omega) (m := 2) (by decide) (by decide)
  have e1 : g_law_draw_80bbd B.D [.int 2] = some (nD s, B1.D) := e1
  have q : eqM (nD s) (.int 1) = some (.bool (s == 1)) := e_eq_n (a := s) (b := 1)
  refine ⟨s == 1, B1, ?_, ok1, n1⟩
  simp [tailT, envT, e1, q, Frm.D]
  rfl
theorem ln_ns {P : List Nat} : lenM [nsD P] = some (nD P.length) := by
  show some (PyData.int (P.map nD).length) = _
  rw [List.length_map]
  rfl
theorem ix_ns {P : List Nat} {i v : Nat} (h : P[i]? = some v) : ixM (nsD P) (nD i) = some (nD v) := by
  show atI (P.map nD) (i : Int) = _
  exact e_at (by rw [List.getElem?_map, h]; rfl)
theorem e_repT {d : PyData} (n : Nat) (h : n ≤ 1000000) : repM [d] (nD n) = some (List.replicate n d) := by
  show (if _ then _ else _) = _
  have e : (n : Int).natAbs = n := by omega
  have e2 : (n : Int).toNat = n := by omega
  rw [if_pos (by rw [e, e2]; exact ⟨h, by simpa using h⟩)]
  rw [e2]
  congr 1
  clear h e e2
  induction n with
  | zero => rfl
  | succ n ih => rw [List.replicate_succ, List.flatten_cons, ih, List.replicate_succ]; rfl
def grownT (self : G2) : M (List PyData) := mLc [11] (mRng1 (mCons (mV 6) mNil)) (gN 11) mYes (mCallM2 0 3 (mV 1) (mV 2) (mOp2 addM (mV 4) (M.ret (.int 1))) self)
theorem g_ttree_ok {ns P : List Nat} (hs : Sz ns) (hP : inP ns.length P) : ∀ {k lv : Nat} {B : Bag} {L : Nat}, lv ≤ 8 → 8 - lv < k → B.TOk → B.n + 4 * (L + 1) ≤ 900000 →
    ∃ (x : Frm) (B' : Bag) (L' : Nat), g_law_tree_95268 k B.D [nD L] [nsD ns, nsD P, nD lv] = some (x.D, B'.D, [nD L']) ∧ TreeK ns (8 - lv) x ∧ x.sz + L' ≤ L + 1 ∧ B'.TOk ∧ B'.n ≤ B.n + 4 * x.sz
  | 0, lv, B, L, _, hk, _, _ => by omega
  | k + 1, lv, B, L, hlv, hk, h, hn => by
    rw [r_law_tree_95268]
    generalize hself : g_law_tree_95268 k = self
    have v0 : v_law_tree_95268 self = sSeq (sIf (mAnd (mOpT ltM (mV 4) (M.ret (.int 8))) (mAnd (mOpT neM (mV 2) (mNew (mLst mNil))) (mOpT gtM (mCallM 0 (mCons (M.ret (.int 5)) mNil) g_law_draw_80bbd) (M.ret (.int 0)))))
    (sSeq (sSet 5 (mOp2 ixM (mV 2) (mCallM 0 (mCons (mCall lenM (mCons (mV 2) mNil)) mNil) g_law_draw_80bbd)))
  (sSeq (sSet 6 (mOp2 ixM (mV 1) (mV 5)))
  (sSeq (sSet 7 (mOp2 eqM (mCallM 0 (mCons (M.ret (.int 6)) mNil) g_law_draw_80bbd) (M.ret (.int 0))))
  (sIf (mOpT leM (mV 6) (mIxO 3 (M.ret (.int 0))))
    (sSeq (sPutIx 3 (M.ret (.int 0)) (mOp2 subM (mIxO 3 (M.ret (.int 0))) (mV 6)))
  (sSeq (sIf (mNotT (mTru (mV 7)))
    (sSeq (sSet 8 (mNew (grownT self)))
  (sRet (mTup (mCons (M.ret (.str "tree")) (mCons (mV 5) (mCons (mCall tupleM (mCons (mV 8) mNil)) mNil))))))
    sNil)
  (sSeq (sSet 9 (mCallM2 0 3 (mV 1) (mV 2) (mOp2 addM (mV 4) (M.ret (.int 1))) self))
  (sSeq (sSet 10 (mOp2 mulM (mOp2 subM (mCall (g_law_forms_3b09a FU) (mCons (mV 9) mNil)) (M.ret (.int 1))) (mOp2 subM (mV 6) (M.ret (.int 1)))))
  (sSeq (sIf (mOpT leM (mV 10) (mIxO 3 (M.ret (.int 0))))
    (sSeq (sPutIx 3 (M.ret (.int 0)) (mOp2 subM (mIxO 3 (M.ret (.int 0))) (mV 10)))
  (sRet (mTup (mCons (M.ret (.str "tree")) (mCons (mV 5) (mCons (mCall tupleM (mCons (mNew (mRep (mLst (mCons (mV 9) mNil)) (mV 6))) mNil)) mNil))))))
    sNil)
  (sRet (mTup (mCons (M.ret (.str "tree")) (mCons (mV 5) (mCons (mCall tupleM (mCons (mOp2 addM (mNew (mLst (mCons (mV 9) mNil))) (mNew (mRep (mLst (mCons (mTup (mCons (M.ret (.str "say")) (mCons (M.ret (.bool false)) mNil))) mNil)) (mOp2 subM (mV 6) (M.ret (.int 1)))))) mNil)) mNil))))))))))
    sNil))))
    sNil) tailT := rfl
    rw [v0]
    have tailD : ∀ {B1 : Bag} {c5 c6 c7 : Cel}, B1.TOk → B1.n ≤ B.n + 3 → ∃ (x : Frm) (B' : Bag) (L' : Nat), outM2 (tailT (envT B1 ns P L lv c5 c6 c7 .un .un .un .un)) = some (x.D, B'.D, [nD L']) ∧ TreeK ns (8 - lv) x ∧ x.sz + L' ≤ L + 1 ∧ B'.TOk ∧ B'.n ≤ B.n + 4 * x.sz := fun {B1 c5 c6 c7} o n => by
      obtain ⟨b, B', e, ok, nn⟩ := tailT_ok (B := B1) (ns := ns) (P := P) (L := L) (lv := lv) (c5 := c5) (c6 := c6) (c7 := c7) (c8 := .un) (c9 := .un) (c10 := .un) (c11 := .un) o (by omega)
      exact ⟨.say b, B', L, e, ⟨.say b, by rw [Frm.Ok]; trivial, by simp [Frm.dp]⟩, by simp [Frm.sz]; omega, ok, by simp [Frm.sz]; omega⟩
    show ∃ (x : Frm) (B' : Bag) (L' : Nat), outM2 (sSeq _ tailT (envT B ns P L lv .un .un .un .un .un .un .un)) = some (x.D, B'.D, [nD L']) ∧ _
    have i3 : atI [nD L] 0 = some (nD L) := rfl
    have lt8 : ltM (nD lv) (.int 8) = some (.bool (decide (lv < 8))) := e_lt_n (a := lv) (b := 8)
    have ne0 : neM (nsD P) (.list []) = some (.bool (!P.isEmpty)) := e_ne_nil
    by_cases c1 : lv < 8
    case neg =>
      rw [s_seq, s_if, s_bind]
      have : ∀ {m : M Bool}, mAnd (mOpT ltM (mV 4) (M.ret (.int 8))) m (envT B ns P L lv .un .un .un .un .un .un .un) = some (.ok false (envT B ns P L lv .un .un .un .un .un .un .un)) := fun {m} => by
        simp [envT, lt8, c1]
      rw [this]
      dsimp only
      rw [if_neg (by decide), s_nil]
      exact tailD h (by omega)
    by_cases c2 : P = []
    case pos =>
      rw [s_seq, s_if, s_bind]
      have : ∀ {m : M Bool}, mAnd (mOpT ltM (mV 4) (M.ret (.int 8))) (mAnd (mOpT neM (mV 2) (mNew (mLst mNil))) m) (envT B ns P L lv .un .un .un .un .un .un .un) = some (.ok false (envT B ns P L lv .un .un .un .un .un .un .un)) := fun {m} => by
        rw [c2] at ne0
        simp [envT, lt8, c1, ne0, c2]
      rw [this]
      dsimp only
      rw [if_neg (by decide), s_nil]
      exact tailD h (by omega)
    have lP : 1 ≤ P.length := List.length_pos_iff.mpr c2
    have eP : P.isEmpty = false := by cases P with | nil => exact absurd rfl c2 | cons _ _ => rfl
    obtain ⟨s, B1, e1, hs1, ok1, n1⟩ := g_tdraw_ok h (by omega) (m := 5) (by decide) (by decide)
    have e1 : g_law_draw_80bbd B.D [.int 5] = some (nD s, B1.D) := e1
    have gt0 : gtM (nD s) (.int 0) = some (.bool (decide (0 < s))) := by
      show some (PyData.bool (decide ((0 : Int) < (s : Int)))) = _
      congr 2
      simp
    have cd : mAnd (mOpT ltM (mV 4) (M.ret (.int 8))) (mAnd (mOpT neM (mV 2) (mNew (mLst mNil))) (mOpT gtM (mCallM 0 (mCons (M.ret (.int 5)) mNil) g_law_draw_80bbd) (M.ret (.int 0)))) (envT B ns P L lv .un .un .un .un .un .un .un) = some (.ok (decide (0 < s)) (envT B1 ns P L lv .un .un .un .un .un .un .un)) := by
      simp [envT, lt8, c1, ne0, eP, e1, gt0]
    rw [s_seq, s_if, s_bind, cd]
    dsimp only
    by_cases c3 : 0 < s
    case neg =>
      rw [decide_eq_false c3, if_neg (by decide), s_nil]
      exact tailD ok1 (by omega)
    rw [decide_eq_true c3, if_pos rfl]
    obtain ⟨i, B2, e2, hi, ok2, n2⟩ := g_tdraw_ok ok1 (by omega) (m := P.length) lP (by have := hP.1; omega)
    obtain ⟨f, hf⟩ : ∃ f, P[i]? = some f := ⟨_, List.getElem?_eq_getElem hi⟩
    have fl := hP.2 f (List.mem_of_getElem? hf)
    obtain ⟨n, hnf⟩ : ∃ n, ns[f]? = some n := ⟨_, List.getElem?_eq_getElem fl⟩
    have n6 := hs.2 n (List.mem_of_getElem? hnf)
    have x1 := ix_ns hf
    have x2 := ix_ns hnf
    have lnP := ln_ns (P := P)
    obtain ⟨u, B3, e3, hu, ok3, n3⟩ := g_tdraw_ok ok2 (by omega) (m := 6) (by decide) (by decide)
    have e3 : g_law_draw_80bbd B2.D [.int 6] = some (nD u, B3.D) := e3
    have qu : eqM (nD u) (.int 0) = some (.bool (u == 0)) := e_eq_n (a := u) (b := 0)
    have st5 : sSet 5 (mOp2 ixM (mV 2) (mCallM 0 (mCons (mCall lenM (mCons (mV 2) mNil)) mNil) g_law_draw_80bbd)) (envT B1 ns P L lv .un .un .un .un .un .un .un) = some (.nx (envT B2 ns P L lv (.pl (nD f)) .un .un .un .un .un .un)) := by
      simp [envT, lnP, e2, x1]
    have st6 : sSet 6 (mOp2 ixM (mV 1) (mV 5)) (envT B2 ns P L lv (.pl (nD f)) .un .un .un .un .un .un) = some (.nx (envT B2 ns P L lv (.pl (nD f)) (.pl (nD n)) .un .un .un .un .un)) := by
      simp [envT, x2]
    have st7 : sSet 7 (mOp2 eqM (mCallM 0 (mCons (M.ret (.int 6)) mNil) g_law_draw_80bbd) (M.ret (.int 0))) (envT B2 ns P L lv (.pl (nD f)) (.pl (nD n)) .un .un .un .un .un) = some (.nx (envT B3 ns P L lv (.pl (nD f)) (.pl (nD n)) (.pl (.bool (u == 0))) .un .un .un .un)) := by
      simp [envT, e3, qu]
    rw [s_seq, st5]
    dsimp only
    rw [s_seq, st6]
    dsimp only
    rw [s_seq, st7]
    dsimp only
    have le3 : leM (nD n) (nD L) = some (.bool (decide (n ≤ L))) := by
      show some (PyData.bool (decide ((n : Int) ≤ (L : Int)))) = _
      congr 2
      simp
    have cdL : mOpT leM (mV 6) (mIxO 3 (M.ret (.int 0))) (envT B3 ns P L lv (.pl (nD f)) (.pl (nD n)) (.pl (.bool (u == 0))) .un .un .un .un) = some (.ok (decide (n ≤ L)) (envT B3 ns P L lv (.pl (nD f)) (.pl (nD n)) (.pl (.bool (u == 0))) .un .un .un .un)) := by
      simp [envT, i3, le3]
    rw [s_if, s_bind, cdL]
    dsimp only
    by_cases c4 : n ≤ L
    case neg =>
      rw [decide_eq_false c4, if_neg (by decide), s_nil]
      exact tailD ok3 (by omega)
    rw [decide_eq_true c4, if_pos rfl]
    have sb : subM (nD L) (nD n) = some (nD (L - n)) := by
      show some (PyData.int ((L : Int) - (n : Int))) = _
      unfold nD
      congr 2
      omega
    have ixo : ixN 1 0 = some 0 := rfl
    have stp : sPutIx 3 (M.ret (.int 0)) (mOp2 subM (mIxO 3 (M.ret (.int 0))) (mV 6)) (envT B3 ns P L lv (.pl (nD f)) (.pl (nD n)) (.pl (.bool (u == 0))) .un .un .un .un) = some (.nx (envT B3 ns P (L - n) lv (.pl (nD f)) (.pl (nD n)) (.pl (.bool (u == 0))) .un .un .un .un)) := by
      simp [envT, i3, sb, ixo]
    rw [s_seq, stp]
    dsimp only
    have a1 : addM (nD lv) (.int 1) = some (nD (lv + 1)) := rfl
    rw [s_seq]
    by_cases c5 : u = 0
    case neg =>
      have ub : (u == 0) = false := by simp [c5]
      have cdu : mNotT (mTru (mV 7)) (envT B3 ns P (L - n) lv (.pl (nD f)) (.pl (nD n)) (.pl (.bool (u == 0))) .un .un .un .un) = some (.ok true (envT B3 ns P (L - n) lv (.pl (nD f)) (.pl (nD n)) (.pl (.bool (u == 0))) .un .un .un .un)) := by
        simp [envT, ub]
      rw [s_if, s_bind, cdu]
      dsimp only
      rw [if_pos rfl]
      obtain ⟨ds, r', eg, B4, L4, c11, ys, rfl, _, hds, hys, hsz, ok4, n4, hlen⟩ := lc_ac (vs := [11]) (mi := mRng1 (mCons (mV 6) mNil)) (g := gN 11) (mt := mYes) (me := mCallM2 0 3 (mV 1) (mV 2) (mOp2 addM (mV 4) (M.ret (.int 1))) self) (r0 := envT B3 ns P (L - n) lv (.pl (nD f)) (.pl (nD n)) (.pl (.bool (u == 0))) .un .un .un .un) (r := envT B3 ns P (L - n) lv (.pl (nD f)) (.pl (nD n)) (.pl (.bool (u == 0))) .un .un .un .un) nD
        (fun (xs : List Nat) acc r => ∃ (B' : Bag) (L' : Nat) (c11 : Cel) (ys : List Frm), r = envT B' ns P L' lv (.pl (nD f)) (.pl (nD n)) (.pl (.bool (u == 0))) .un .un .un c11 ∧ c11.own = false ∧ acc = ys.map Frm.D ∧ (∀ y ∈ ys, TreeK ns (8 - (lv + 1)) y) ∧ Frm.szs ys + L' ≤ L - n + ys.length ∧ B'.TOk ∧ B'.n ≤ B.n + 3 + 4 * Frm.szs ys ∧ ys.length + xs.length = n)
        (xs := List.range n) (by simp [envT, e_rng_n n (by omega)]) (by simp [envT, freeAt]) (by simp; omega) ⟨B3, L - n, .un, [], rfl, rfl, rfl, by simp, by rw [Frm.szs]; simp, ok3, by rw [Frm.szs]; omega, by simp⟩ (by
          rintro x xs acc r ⟨B', L', c11, ys, rfl, h11, rfl, hys, hsz, ok', n', hlen⟩
          rw [List.length_cons] at hlen
          obtain ⟨y, B5, L5, e5, K5, s5, ok5, n5⟩ := g_ttree_ok hs hP (k := k) (lv := lv + 1) (B := B') (L := L') (by omega) (by omega) ok' (by omega)
          rw [hself] at e5
          refine ⟨envT B' ns P L' lv (.pl (nD f)) (.pl (nD n)) (.pl (.bool (u == 0))) .un .un .un (.pl (nD x)), y.D, envT B5 ns P L5 lv (.pl (nD f)) (.pl (nD n)) (.pl (.bool (u == 0))) .un .un .un (.pl (nD x)), by simp [envT], rfl, by simp [envT, a1, e5], B5, L5, .pl (nD x), ys ++ [y], rfl, rfl, by rw [List.map_append]; rfl, fun z hz => ?_, ?_, ok5, ?_, by simp; omega⟩
          · rcases List.mem_append.mp hz with hz | hz
            · exact hys z hz
            · rw [List.mem_singleton.mp hz]
              exact K5
          · have : Frm.szs [y] = y.sz := by rw [Frm.szs, Frm.szs]; omega
            rw [szs_app, this, List.length_append, List.length_singleton]
            omega
          · have : Frm.szs [y] = y.sz := by rw [Frm.szs, Frm.szs]; omega
            rw [szs_app, this]
            omega)
      subst hds
      rw [List.length_nil, Nat.add_zero] at hlen
      have er : restE (envT B3 ns P (L - n) lv (.pl (nD f)) (.pl (nD n)) (.pl (.bool (u == 0))) .un .un .un .un) (wipeE (envT B4 ns P L4 lv (.pl (nD f)) (.pl (nD n)) (.pl (.bool (u == 0))) .un .un .un c11) [11]) [11] = envT B4 ns P L4 lv (.pl (nD f)) (.pl (nD n)) (.pl (.bool (u == 0))) .un .un .un .un := rfl
      rw [er] at eg
      have eg : grownT self _ = _ := eg
      have sz0 : (Frm.tree f ys).sz = 1 + Frm.szs ys := by rw [Frm.sz]
      refine ⟨.tree f ys, B4, L4, ?_, ⟨.tree f ys fun y hy => (hys y hy).t, ?_, ?_⟩, by rw [sz0]; omega, ok4, by rw [sz0]; omega⟩
      · rw [s_seq, show sSet 8 (mNew (grownT self)) (envT B3 ns P (L - n) lv (.pl (nD f)) (.pl (nD n)) (.pl (.bool (u == 0))) .un .un .un .un) = some (.nx (envT B4 ns P L4 lv (.pl (nD f)) (.pl (nD n)) (.pl (.bool (u == 0))) (.pl (.list (ys.map Frm.D))) .un .un .un)) by simp only [s_set, s_bind, e_new, e_bind, eg, e_ret, s_put]; rfl]
        dsimp only
        simp [envT, Frm.D, Frm.Ds_eq]
        rfl
      · rw [Frm.Ok, Frm.Oks_iff]
        exact ⟨by rw [hlen]; exact hnf, fun y hy => (hys y hy).ok⟩
      · rw [Frm.dp]
        have := Frm.dps_of (n := 8 - (lv + 1)) fun y hy => (hys y hy).dp
        omega
    have ub : (u == 0) = true := by simp [c5]
    have cdu : mNotT (mTru (mV 7)) (envT B3 ns P (L - n) lv (.pl (nD f)) (.pl (nD n)) (.pl (.bool (u == 0))) .un .un .un .un) = some (.ok false (envT B3 ns P (L - n) lv (.pl (nD f)) (.pl (nD n)) (.pl (.bool (u == 0))) .un .un .un .un)) := by
      simp [envT, ub]
    rw [s_if, s_bind, cdu]
    dsimp only
    rw [if_neg (by decide), s_nil]
    dsimp only
    obtain ⟨y, B5, L5, e5, K5, s5, ok5, n5⟩ := g_ttree_ok hs hP (k := k) (lv := lv + 1) (B := B3) (L := L - n) (by omega) (by omega) ok3 (by omega)
    rw [hself] at e5
    have st9 : sSet 9 (mCallM2 0 3 (mV 1) (mV 2) (mOp2 addM (mV 4) (M.ret (.int 1))) self) (envT B3 ns P (L - n) lv (.pl (nD f)) (.pl (nD n)) (.pl (.bool (u == 0))) .un .un .un .un) = some (.nx (envT B5 ns P L5 lv (.pl (nD f)) (.pl (nD n)) (.pl (.bool (u == 0))) .un (.pl y.D) .un .un)) := by
      simp [envT, a1, e5]
    rw [s_seq, st9]
    dsimp only
    have yp := sz_pos (x := y)
    have fm := g_tforms_ok hs K5.t K5.ok (k := FU) (by have := K5.dp; show _ < 60; omega)
    have s1 : subM (nD y.sz) (.int 1) = some (nD (y.sz - 1)) := by
      show some (PyData.int ((y.sz : Int) - 1)) = _
      unfold nD
      congr 2
      omega
    have s2 : subM (nD n) (.int 1) = some (nD (n - 1)) := by
      show some (PyData.int ((n : Int) - 1)) = _
      unfold nD
      congr 2
      omega
    have ysz : y.sz ≤ 900000 := by omega
    have mm : mulM (nD (y.sz - 1)) (nD (n - 1)) = some (nD ((y.sz - 1) * (n - 1))) := by
      have := e_mulN (a := ((y.sz - 1 : Nat) : Int)) (b := ((n - 1 : Nat) : Int)) (k := 30) (l := 10) (by omega) (by
        have e : (2 : Int) ^ 30 = 1073741824 := by decide
        omega) (by omega) (by
        have e : (2 : Int) ^ 10 = 1024 := by decide
        omega)
      show mulM (.int ((y.sz - 1 : Nat) : Int)) (.int ((n - 1 : Nat) : Int)) = _
      rw [this]
      unfold nD
      rw [Int.natCast_mul]
    have st10 : sSet 10 (mOp2 mulM (mOp2 subM (mCall (g_law_forms_3b09a FU) (mCons (mV 9) mNil)) (M.ret (.int 1))) (mOp2 subM (mV 6) (M.ret (.int 1)))) (envT B5 ns P L5 lv (.pl (nD f)) (.pl (nD n)) (.pl (.bool (u == 0))) .un (.pl y.D) .un .un) = some (.nx (envT B5 ns P L5 lv (.pl (nD f)) (.pl (nD n)) (.pl (.bool (u == 0))) .un (.pl y.D) (.pl (nD ((y.sz - 1) * (n - 1)))) .un)) := by
      simp [envT, fm, s1, s2, mm]
    rw [s_seq, st10]
    dsimp only
    have i5 : atI [nD L5] 0 = some (nD L5) := rfl
    have le5 : leM (nD ((y.sz - 1) * (n - 1))) (nD L5) = some (.bool (decide ((y.sz - 1) * (n - 1) ≤ L5))) := by
      show some (PyData.bool (decide ((((y.sz - 1) * (n - 1) : Nat) : Int) ≤ (L5 : Int)))) = _
      congr 2
      rw [Bool.eq_iff_iff, decide_eq_true_eq, decide_eq_true_eq]
      omega
    have mulE : n * y.sz = (y.sz - 1) * (n - 1) + y.sz + n - 1 := by
      obtain ⟨a, ha⟩ : ∃ a, y.sz = a + 1 := ⟨y.sz - 1, by omega⟩
      obtain ⟨b, hb⟩ : ∃ b, n = b + 1 := ⟨n - 1, by omega⟩
      rw [ha, hb]
      simp only [Nat.add_sub_cancel]
      rw [Nat.add_mul, Nat.mul_add]
      have := Nat.mul_comm a b
      omega
    generalize hw : (y.sz - 1) * (n - 1) = w at le5 mulE
    have cd5 : mOpT leM (mV 10) (mIxO 3 (M.ret (.int 0))) (envT B5 ns P L5 lv (.pl (nD f)) (.pl (nD n)) (.pl (.bool (u == 0))) .un (.pl y.D) (.pl (nD w)) .un) = some (.ok (decide (w ≤ L5)) (envT B5 ns P L5 lv (.pl (nD f)) (.pl (nD n)) (.pl (.bool (u == 0))) .un (.pl y.D) (.pl (nD w)) .un)) := by
      simp [envT, i5, le5]
    rw [s_seq, s_if, s_bind, cd5]
    dsimp only
    have dps_rep : ∀ {xs : List Frm}, (∀ z ∈ xs, z = y ∨ z = .say false) → Frm.dps xs ≤ 8 - (lv + 1) := fun {xs} hx => Frm.dps_of fun z hz => by
      rcases hx z hz with rfl | rfl
      · exact K5.dp
      · simp [Frm.dp]
    have mk : ∀ {xs : List Frm}, xs.length = n → (∀ z ∈ xs, z = y ∨ z = .say false) → TreeK ns (8 - lv) (.tree f xs) := fun {xs} hl hx => by
      refine ⟨.tree f xs fun z hz => ?_, ?_, ?_⟩
      · rcases hx z hz with rfl | rfl
        · exact K5.t
        · exact .say false
      · rw [Frm.Ok, Frm.Oks_iff]
        refine ⟨by rw [hl]; exact hnf, fun z hz => ?_⟩
        rcases hx z hz with rfl | rfl
        · exact K5.ok
        · rw [Frm.Ok]; trivial
      · rw [Frm.dp]
        have := dps_rep hx
        omega
    by_cases c6 : w ≤ L5
    · rw [decide_eq_true c6, if_pos rfl]
      have sb5 : subM (nD L5) (nD w) = some (nD (L5 - w)) := by
        show some (PyData.int ((L5 : Int) - (w : Int))) = _
        unfold nD
        congr 2
        omega
      have stq : sPutIx 3 (M.ret (.int 0)) (mOp2 subM (mIxO 3 (M.ret (.int 0))) (mV 10)) (envT B5 ns P L5 lv (.pl (nD f)) (.pl (nD n)) (.pl (.bool (u == 0))) .un (.pl y.D) (.pl (nD w)) .un) = some (.nx (envT B5 ns P (L5 - w) lv (.pl (nD f)) (.pl (nD n)) (.pl (.bool (u == 0))) .un (.pl y.D) (.pl (nD w)) .un)) := by
        simp [envT, i5, sb5, ixo]
      have rpn := e_repT (d := y.D) n (by omega)
      have rp : mRep (mLst (mCons (mV 9) mNil)) (mV 6) (envT B5 ns P (L5 - w) lv (.pl (nD f)) (.pl (nD n)) (.pl (.bool (u == 0))) .un (.pl y.D) (.pl (nD w)) .un) = some (.ok ((List.replicate n y).map Frm.D) (envT B5 ns P (L5 - w) lv (.pl (nD f)) (.pl (nD n)) (.pl (.bool (u == 0))) .un (.pl y.D) (.pl (nD w)) .un)) := by
        simp [envT, rpn]
      have sz0 : (Frm.tree f (List.replicate n y)).sz = 1 + n * y.sz := by rw [Frm.sz, szs_rep]
      refine ⟨.tree f (List.replicate n y), B5, L5 - w, ?_, mk (by simp) fun z hz => .inl (List.eq_of_mem_replicate hz), by rw [sz0]; omega, ok5, ?_⟩
      · rw [s_seq, stq]
        dsimp only
        simp [envT, rpn, Frm.D, Frm.Ds_eq]
        rfl
      · rw [sz0]
        omega
    · rw [decide_eq_false c6, if_neg (by decide), s_nil]
      dsimp only
      have rpn := e_repT (d := PyData.tuple [.str "say", .bool false]) (n - 1) (by omega)
      have ad := e_addL (ds := [y.D]) (es := List.replicate (n - 1) (PyData.tuple [.str "say", .bool false])) (by simp; omega)
      have szn : (Frm.tree f (y :: List.replicate (n - 1) (.say false))).sz = 1 + y.sz + (n - 1) := by
        rw [Frm.sz, Frm.szs, szs_rep]
        simp [Frm.sz]
        omega
      refine ⟨.tree f (y :: List.replicate (n - 1) (.say false)), B5, L5, ?_, mk (by simp; omega) fun z hz => ?_, by rw [szn]; omega, ok5, by rw [szn]; omega⟩
      · have tp2 : tupM [.str "say", .bool false] = some (.tuple [.str "say", .bool false]) := rfl
        simp [envT, tp2, s2, rpn, ad, Frm.D, Frm.Ds_eq]
        rfl
      · rcases List.mem_cons.mp hz with rfl | hz
        · exact .inl rfl
        · exact .inr (List.eq_of_mem_replicate hz)
end DL
namespace DL
open PySem PySem.Spec PyProof.Rows L2 Lk
variable {ns cs : List Nat} {c : Int} {x : Frm}
def Frm.own (ns : List Nat) : Frm → List Nat
  | .test f _ => [f]
  | .tree f _ => [f]
  | .rules rs _ => rs.flatMap fun r => r.1.map Prod.fst
  | .card _ _ => List.range ns.length
  | .table _ => List.range ns.length
  | _ => []
inductive NmG (ns : List Nat) (f : Nat) : Frm → Prop
  | own {x : Frm} : f ∈ x.own ns → NmG ns f x
  | kid {x k : Frm} : k ∈ x.kids → NmG ns f k → NmG ns f x
theorem nm_iff {f : Nat} : NmG ns f x ↔ f ∈ x.own ns ∨ ∃ k ∈ x.kids, NmG ns f k := by
  constructor
  · intro h
    cases h with
    | own h => exact .inl h
    | kid h1 h2 => exact .inr ⟨_, h1, h2⟩
  · rintro (h | ⟨k, h1, h2⟩)
    · exact .own h
    · exact .kid h1 h2
theorem g_all_forms_ok (x : Frm) (hs : x.sz ≤ 900000) (P : Frm → Prop) (hx : P x) (hk : ∀ y, P y → ∀ k ∈ y.kids, P k) : ∃ L : List Frm, g_all_forms [x.D] = some (.list (L.map Frm.D)) ∧ L.length ≤ x.sz ∧ (∀ y ∈ L, P y) ∧ ∀ f, (∃ y ∈ L, f ∈ y.own ns) ↔ NmG ns f x := by
  rw [r_all_forms]
  have W : ∀ (n : Nat) (F l : List Frm) (c : Cel), c.own = false → (∀ y ∈ l, P y) → Frm.szs l < n → Frm.szs l + F.length ≤ 900000 → ∃ (L : List Frm) (c' : Cel), whGo (mTruO 2) (sSeq (sSet 3 (mPop 2)) (sSeq (sApp 1 (mV 3)) (sExt 2 (mCall g_inner_forms (mCons (mV 3) mNil))))) n [.pl x.D, .ow (F.map Frm.D), .ow (l.map Frm.D), c] = some (.nx [.pl x.D, .ow ((F ++ L).map Frm.D), .ow [], c']) ∧
      L.length ≤ Frm.szs l ∧ (∀ y ∈ L, P y) ∧ ∀ f, (∃ y ∈ L, f ∈ y.own ns) ↔ ∃ y ∈ l, NmG ns f y := fun n => by
    induction n with
    | zero => intro F l c _ _ hl; omega
    | succ n ih =>
      intro F l c hc hl hn1 hn2
      rcases List.eq_nil_or_concat l with rfl | ⟨l', y, rfl⟩
      · refine ⟨[], c, ?_, Nat.zero_le _, fun y hy => (by cases hy), fun f => (by simp)⟩
        rw [whGo_step (k := false) (r1 := [.pl x.D, .ow (F.map Frm.D), .ow [], c]) (by simp), List.append_nil]
        rfl
      · have oy : P y := hl y (by simp)
        have sy := Frm.sz_kids y
        rw [List.concat_eq_append, Frm.szs_append, Frm.szs, Frm.szs] at hn1 hn2
        have l1 := Frm.len_szs (xs := l')
        have l2 := Frm.len_szs (xs := y.kids)
        obtain ⟨L, c', e, lL, pL, hL⟩ := ih (F ++ [y]) (l' ++ y.kids) (.pl y.D) rfl (by
          intro z hz
          rcases List.mem_append.mp hz with hz | hz
          · exact hl z (by simp [hz])
          · exact hk y oy z hz) (by rw [Frm.szs_append]; omega) (by rw [Frm.szs_append, List.length_append]; simp; omega)
        rw [Frm.szs_append] at lL
        refine ⟨y :: L, c', ?_, ?_, ?_, fun f => ?_⟩
        · have lk : l'.length + y.kids.length ≤ 1000000 := by omega
          have lF : F.length ≤ 1000000 := by omega
          have ap : F ++ y :: L = (F ++ [y]) ++ L := by rw [List.append_assoc]; rfl
          rw [ap]
          rw [List.map_append (l₁ := l'), List.map_append (l₁ := F)] at e
          rw [whGo_step (k := true) (r1 := [.pl x.D, .ow (F.map Frm.D), .ow ((l'.concat y).map Frm.D), c]) (by simp), if_pos rfl]
          cases c with
          | un => simp [g_inner_ok, lk, lF] at e ⊢; exact e
          | pl d => simp [g_inner_ok, lk, lF] at e ⊢; exact e
          | ow d => cases hc
          | io d => cases hc
          | dk d => cases hc
        · rw [List.length_cons, List.concat_eq_append, Frm.szs_append, Frm.szs, Frm.szs]
          omega
        · intro z hz
          rcases List.mem_cons.mp hz with rfl | hz
          · exact oy
          · exact pL z hz
        · have hf := hL f
          constructor
          · rintro ⟨z, hz, hf'⟩
            rcases List.mem_cons.mp hz with rfl | hz
            · exact ⟨z, by simp, .own hf'⟩
            · obtain ⟨w, hw, nw⟩ := hf.mp ⟨z, hz, hf'⟩
              rcases List.mem_append.mp hw with hw | hw
              · exact ⟨w, by simp [hw], nw⟩
              · exact ⟨y, by simp, .kid hw nw⟩
          · rintro ⟨z, hz, nz⟩
            rw [List.concat_eq_append] at hz
            rcases List.mem_append.mp hz with hz | hz
            · obtain ⟨w, hw, ow⟩ := hf.mpr ⟨z, List.mem_append_left _ hz, nz⟩
              exact ⟨w, List.mem_cons_of_mem _ hw, ow⟩
            · rw [List.mem_singleton.mp hz] at nz
              rcases nm_iff.mp nz with h | ⟨k, h1, h2⟩
              · exact ⟨y, List.mem_cons_self .., h⟩
              · obtain ⟨w, hw, ow⟩ := hf.mpr ⟨k, List.mem_append_right _ h1, h2⟩
                exact ⟨w, List.mem_cons_of_mem _ hw, ow⟩
  obtain ⟨L, c', e, lL, pL, hL⟩ := W WH [] [x] .un rfl (by simpa using hx) (by rw [Frm.szs, Frm.szs]; show _ < 1000000; omega) (by rw [Frm.szs, Frm.szs]; simp; omega)
  rw [List.nil_append] at e
  refine ⟨L, ?_, by rw [Frm.szs, Frm.szs] at lL; omega, pL, fun f => by rw [hL]; simp⟩
  simp only [List.map_cons, List.map_nil] at e
  simp [v_all_forms]
  rw [e]
  simp
end DL
namespace DL
open PySem PySem.Spec PyProof.Rows L2 Lk
abbrev Hf := List (Option Nat)
def prD (p : Nat × Nat) : PyData := .tuple [nD p.1, nD p.2]
end DL
namespace DL
open PySem PySem.Spec PyProof.Rows L2 Lk
variable {ns : List Nat}
end DL
namespace DL
open PySem PySem.Spec PyProof.Rows L2 Lk
variable {ns : List Nat}
end DL
namespace DL
open PySem PySem.Spec PyProof.Rows L2 Lk
variable {ns S : List Nat} {W : List Nat → Bool} {h : Hf} {x : Frm}
theorem Half.nil : Half [] [] := ⟨rfl, fun i n v e _ => by simp at e⟩
end DL
namespace DL
open PySem PySem.Spec PyProof.Rows L2 Lk
variable {ns S : List Nat} {W : List Nat → Bool} {h : Hf} {x : Frm}
def kn (h : Hf) : Nat := (h.filter Option.isSome).length
end DL
namespace DL
open PySem PySem.Spec PyProof.Rows L2 Lk
end DL
namespace DL
open PySem PySem.Spec PyProof.Rows L2 Lk
variable {ns S : List Nat} {W : List Nat → Bool} {h : Hf} {x : Frm}
theorem prD0 {p : Nat × Nat} : ixM (prD p) (.int 0) = some (nD p.1) := e_at0
theorem prD1 {p : Nat × Nat} : ixM (prD p) (.int 1) = some (nD p.2) := e_at1
theorem cutTo96 {l : List PyData} {k : Nat} : cutD l none (some (k : Int)) = l.take k := by
  have e : HT.sIx l.length 0 none = 0 := rfl
  unfold cutD
  rw [e, HT.sIx_nat]
  by_cases h2 : k ≤ l.length
  · rw [Nat.min_eq_left h2]; simp
  · rw [Nat.min_eq_right (show l.length ≤ k by omega), List.take_of_length_le (by simp), List.take_of_length_le (by omega)]
    simp
theorem cutFrom96 {l : List PyData} {k : Nat} : cutD l (some (k : Int)) none = l.drop k := by
  have e : HT.sIx l.length l.length none = l.length := rfl
  unfold cutD
  rw [e, HT.sIx_nat]
  by_cases h2 : k ≤ l.length
  · rw [Nat.min_eq_left h2]
    rw [List.take_of_length_le (by simp)]
  · rw [Nat.min_eq_right (show l.length ≤ k by omega), List.drop_of_length_le (show l.length ≤ k by omega)]
    simp
end DL
namespace DL
open PySem PySem.Spec PyProof.Rows L2 Lk
variable {ns cs : List Nat} {x : Frm} {h : Hf}
theorem in_plain {w : Str} : inM (.str w) c_PLAIN_WORDS = some (.bool ((("say" : Str) == w) || (("tree" : Str) == w))) := by
  simp [inM, c_PLAIN_WORDS, flatD, memD, PyData.eqv]
theorem in_plain1 : inM (.str "say") c_PLAIN_WORDS = some (.bool true) := in_plain.trans (congrArg (fun b => some (PyData.bool b)) (by decide +kernel))
theorem in_plain2 : inM (.str "tree") c_PLAIN_WORDS = some (.bool true) := in_plain.trans (congrArg (fun b => some (PyData.bool b)) (by decide +kernel))
theorem g_check_tree_ok (hn : Sz ns) (t : TreeF x) (ok : x.Ok ns) (hs : x.sz ≤ 900000) : g_check_tree [nsD ns, x.D] = some .none := by
  have hp : g_has_plain_words [x.D] = some (.bool true) := by
    rw [r_has_plain_words]
    obtain ⟨L, e, lL, hL, _⟩ := g_all_forms_ok (ns := ns) x hs TreeF t (fun y hy k hk => by
      cases hy with
      | say b => simp [Frm.kids] at hk
      | tree f bs hb => exact hb k (by simpa [Frm.kids] using hk))
    have lc := lcy (vs := [1]) (mi := mSeq (mCall g_all_forms (mCons (mV 0) mNil))) (g := gN 1) (me := mOp2 inM (mOp2 ixM (mV 1) (M.ret (.int 0))) (M.ret c_PLAIN_WORDS)) (r := [.pl x.D, .un]) Frm.D (fun _ => .bool true) (fun y => [.pl x.D, .pl y.D]) (xs := L) (by simp [e]) (by simp [freeAt]) (by omega) (by simp) (by simp) (by
      intro y hy
      have T := hL y hy
      cases T with
      | say b =>
        have i0 : ixM (Frm.say b).D (.int 0) = some (.str "say") := by rw [Frm.D]; exact e_at0
        simp [i0, in_plain1]
      | tree f bs hb =>
        have i0 : ixM (Frm.tree f bs).D (.int 0) = some (.str "tree") := by rw [Frm.D]; exact e_at0
        simp [i0, in_plain2])
    have al := e_allT (xs := L) (f := fun _ => true)
    have al : allM [.list (L.map fun _ => PyData.bool true)] = some (.bool true) := by rw [al]; simp
    simp only [v_has_plain_words, s_ret, s_bind, e_call, e_bind, e_cons, e_new, lc, e_ret, e_nil, e_lift_some, al, o_rt]
  rw [r_check_tree]
  have cf := g_check_form_ok hn ok hs
  simp [v_check_tree, cf, hp]
theorem g_with_ok {f v : Nat} (hl : h.length ≤ 24) (hf : f < h.length) : g_p_with_value_33504 [halfD h, nD f, nD v] = some (halfD (h.set f (some v))) := by
  rw [r_p_with_value_33504]
  have c1 : cutD (h.map oD) none (some (f : Int)) = (h.map oD).take f := cutTo96
  have c2 : cutD (h.map oD) (some ((f + 1 : Nat) : Int)) none = (h.map oD).drop (f + 1) := cutFrom96
  have a1 : addM (nD f) (.int 1) = some (nD (f + 1)) := rfl
  have as2 : ∀ l : List PyData, asSeq (.list l) = some l := fun _ => rfl
  have aN : ∀ m, asInt (nD m) = some (m : Int) := fun _ => rfl
  have e : (h.map oD).take f ++ nD v :: (h.map oD).drop (f + 1) = (h.set f (some v)).map oD := by
    rw [List.map_set]
    show _ = (h.map oD).set f (nD v)
    rw [List.set_eq_take_append_cons_drop, if_pos (by rw [List.length_map]; exact hf)]
  have ll : lstM ((h.set f (some v)).map oD) = some ((h.set f (some v)).map oD) := by
    unfold lstM
    rw [if_pos (by simp; omega)]
  have lc : cutD (h.map oD) none (some (f : Int)) ++ nD v :: (cutD (h.map oD) (some ((f + 1 : Nat) : Int)) none ++ []) = (h.set f (some v)).map oD := by
    rw [c1, c2, List.append_nil, e]
  simp only [v_p_with_value_33504, s_ret, s_bind, e_new, e_lst, e_bind, e_star, e_slice, e_V, List.getElem?_cons_zero, List.getElem?_cons_succ, e_nopart, e_part, aN, Option.map_some, e_lift_some, e_asList, e_ret, as2, e_cons, e_op2, a1, e_nil]
  rw [lc, ll]
  rfl
mutual
def wys : Frm → Hf → List (Hf × Bool)
  | .say b, h => [(h, b)]
  | .tree f bs, h => match h[f]? with
    | some (some v) => wysAt bs v h
    | _ => wysAll f 0 bs h
  | _, _ => []
def wysAt : List Frm → Nat → Hf → List (Hf × Bool)
  | [], _, _ => []
  | x :: _, 0, h => wys x h
  | _ :: xs, n + 1, h => wysAt xs n h
def wysAll (f : Nat) : Nat → List Frm → Hf → List (Hf × Bool)
  | _, [], _ => []
  | v, x :: xs, h => wys x (h.set f (some v)) ++ wysAll f (v + 1) xs h
end
theorem szs_mem {y : Frm} : ∀ {xs : List Frm}, y ∈ xs → y.sz ≤ Frm.szs xs
  | x :: xs, m => by
    rw [Frm.szs]
    rcases List.mem_cons.mp m with rfl | m
    · omega
    · have := szs_mem m
      omega
theorem half_at (H : Half ns h) {f n : Nat} (hf : ns[f]? = some n) : ∃ o, h[f]? = some o ∧ ∀ v, o = some v → v < n := by
  have lf := (List.getElem?_eq_some_iff.mp hf).1
  have e := List.getElem?_eq_getElem (show f < h.length by rw [H.1]; exact lf)
  exact ⟨h[f]'(by rw [H.1]; exact lf), e, fun v ev => H.2 f n v hf (by rw [e, ev])⟩
theorem eq_say1 : eqM (.str "tree") (.str "say") = some (.bool false) := (e_eqS (by decide +kernel) (by decide +kernel)).trans (congrArg (fun b => some (PyData.bool b)) (by decide +kernel))
theorem eq_say0 : eqM (.str "say") (.str "say") = some (.bool true) := ws0
theorem half_noneT : Half ns (List.replicate ns.length none) := by
  refine ⟨by simp, fun i n v _ e => ?_⟩
  rw [List.getElem?_replicate] at e
  split at e <;> simp at e
end DL
namespace DL
open PySem PySem.Spec PyProof.Rows L2 Lk
variable {ns cs : List Nat} {x : Frm} {h : Hf}
def Knw (known : List (Nat × Nat)) (h : Hf) : Prop := ∀ f v, (f, v) ∈ known ↔ h[f]? = some (some v)
theorem knw_none : Knw [] (List.replicate ns.length none) := fun f v => by
  rw [List.getElem?_replicate]
  constructor
  · intro e; cases e
  · intro e; split at e <;> simp at e
theorem knw_set {known : List (Nat × Nat)} {f v : Nat} (K : Knw known h) (e : h[f]? = some none) : Knw (known ++ [(f, v)]) (h.set f (some v)) := fun i u => by
  have lf := (List.getElem?_eq_some_iff.mp e).1
  rw [List.mem_append, List.mem_singleton, List.getElem?_set]
  by_cases z : f = i
  · subst z
    rw [if_pos rfl, if_pos lf]
    constructor
    · rintro (a | a)
      · have := (K f u).mp a
        rw [e] at this
        cases this
      · cases a
        rfl
    · intro a
      cases a
      exact .inr rfl
  · rw [if_neg z, ← K i u]
    constructor
    · rintro (a | a)
      · exact a
      · cases a
        exact absurd rfl z
    · exact .inl
theorem ix_tr {bs : List Frm} {i : Nat} {y : Frm} (e : bs[i]? = some y) : ixM (.tuple (bs.map Frm.D)) (nD i) = some y.D := by
  show atI (bs.map Frm.D) (i : Int) = _
  exact e_at (by rw [List.getElem?_map, e]; rfl)
end DL
namespace DL
open PySem PySem.Spec PyProof.Rows L2 Lk
variable {ns cs : List Nat} {x : Frm} {h : Hf}
theorem TreeF.refl2 {t : Frm} (h : TreeF t) : PyData.eqv t.D t.D = true := by
  induction h with
  | say b =>
    rw [Frm.D, PyData.eqv, PyData.eqvAll, PyData.eqvAll, PyData.eqvAll, PyData.eqv, PyData.eqv]
    simp
  | tree f bs hb ih =>
    have al : ∀ (l : List Frm), (∀ b ∈ l, PyData.eqv b.D b.D = true) → PyData.eqvAll (l.map Frm.D) (l.map Frm.D) = true := fun l => by
      induction l with
      | nil => intro _; rw [List.map_nil, PyData.eqvAll]
      | cons b l ih2 => intro h; rw [List.map_cons, PyData.eqvAll, h b List.mem_cons_self, ih2 fun c hc => h c (List.mem_cons_of_mem _ hc)]; rfl
    rw [Frm.D, PyData.eqv, PyData.eqvAll, PyData.eqvAll, PyData.eqvAll, PyData.eqvAll, Frm.Ds_eq, eqv_n, PyData.eqv, PyData.eqv, al bs ih]
    simp
open Classical in
/-- the test of f, or its first branch if they are all alike -/
noncomputable def mkT (f : Nat) : List Frm → Frm
  | [] => .tree f []
  | b :: bs => if ∀ y ∈ b :: bs, y = b then b else .tree f (b :: bs)
open Classical in
theorem mkT_cons {f : Nat} {b : Frm} {bs : List Frm} : mkT f (b :: bs) = if ∀ y ∈ b :: bs, y = b then b else .tree f (b :: bs) := rfl
theorem mkT_yes {f : Nat} {b : Frm} {bs : List Frm} (h : ∀ y ∈ b :: bs, y = b) : mkT f (b :: bs) = b := by rw [mkT_cons, if_pos h]
theorem mkT_no {f : Nat} {b : Frm} {bs : List Frm} (h : ¬ ∀ y ∈ b :: bs, y = b) : mkT f (b :: bs) = .tree f (b :: bs) := by rw [mkT_cons, if_neg h]
mutual
noncomputable def trm : Frm → Hf → Frm
  | .say b, _ => .say b
  | .tree f bs, h => match h[f]? with
    | some (some v) => trmAt bs v h
    | _ => mkT f (trmAll f 0 bs h)
  | x, _ => x
noncomputable def trmAt : List Frm → Nat → Hf → Frm
  | [], _, _ => .say false
  | x :: _, 0, h => trm x h
  | _ :: xs, n + 1, h => trmAt xs n h
noncomputable def trmAll (f : Nat) : Nat → List Frm → Hf → List Frm
  | _, [], _ => []
  | v, x :: xs, h => trm x (h.set f (some v)) :: trmAll f (v + 1) xs h
end
mutual
def onc : Frm → Hf → Frm
  | .say b, _ => .say b
  | .tree f bs, h => match h[f]? with
    | some (some v) => oncAt bs v h
    | _ => .tree f (oncAll f 0 bs h)
  | x, _ => x
def oncAt : List Frm → Nat → Hf → Frm
  | [], _, _ => .say false
  | x :: _, 0, h => onc x h
  | _ :: xs, n + 1, h => oncAt xs n h
def oncAll (f : Nat) : Nat → List Frm → Hf → List Frm
  | _, [], _ => []
  | v, x :: xs, h => onc x (h.set f (some v)) :: oncAll f (v + 1) xs h
end
mutual
noncomputable def mrg : Frm → Frm
  | .tree f bs => mkT f (mrgs bs)
  | x => x
noncomputable def mrgs : List Frm → List Frm
  | [] => []
  | x :: xs => mrg x :: mrgs xs
end
theorem mrgs_eq : ∀ {bs : List Frm}, mrgs bs = bs.map mrg
  | [] => by rw [mrgs]; rfl
  | x :: xs => by rw [mrgs, mrgs_eq (bs := xs)]; rfl
mutual
def grf (up lo : Frm) : Frm → Frm
  | .say b => if b then up else lo
  | .tree f bs => .tree f (grfs up lo bs)
  | x => x
def grfs (up lo : Frm) : List Frm → List Frm
  | [] => []
  | x :: xs => grf up lo x :: grfs up lo xs
end
theorem grfs_eq {up lo : Frm} : ∀ {bs : List Frm}, grfs up lo bs = bs.map (grf up lo)
  | [] => by rw [grfs]; rfl
  | x :: xs => by rw [grfs, grfs_eq (bs := xs)]; rfl
theorem trmAt_eq : ∀ {bs : List Frm} {v : Nat} {y : Frm}, bs[v]? = some y → trmAt bs v h = trm y h
  | [], _, _, e => by simp at e
  | x :: xs, 0, y, e => by
    cases e
    rw [trmAt]
  | x :: xs, v + 1, y, e => by
    rw [trmAt]
    exact trmAt_eq (by simpa using e)
theorem oncAt_eq : ∀ {bs : List Frm} {v : Nat} {y : Frm}, bs[v]? = some y → oncAt bs v h = onc y h
  | [], _, _, e => by simp at e
  | x :: xs, 0, y, e => by
    cases e
    rw [oncAt]
  | x :: xs, v + 1, y, e => by
    rw [oncAt]
    exact oncAt_eq (by simpa using e)
theorem trmAll_len {f : Nat} : ∀ {bs : List Frm} {v : Nat}, (trmAll f v bs h).length = bs.length
  | [], _ => by rw [trmAll]
  | x :: xs, v => by rw [trmAll, List.length_cons, List.length_cons, trmAll_len]
theorem oncAll_len {f : Nat} : ∀ {bs : List Frm} {v : Nat}, (oncAll f v bs h).length = bs.length
  | [], _ => by rw [oncAll]
  | x :: xs, v => by rw [oncAll, List.length_cons, List.length_cons, oncAll_len]
theorem trmAll_at {f : Nat} : ∀ {bs : List Frm} {v i : Nat}, (trmAll f v bs h)[i]? = (bs[i]?).map fun y => trm y (h.set f (some (v + i)))
  | [], _, _ => by rw [trmAll]; rfl
  | x :: xs, v, 0 => by rw [trmAll]; rfl
  | x :: xs, v, i + 1 => by
    rw [trmAll, List.getElem?_cons_succ, List.getElem?_cons_succ, trmAll_at]
    congr 1
    funext y
    rw [Nat.add_assoc, Nat.add_comm 1 i]
theorem oncAll_at {f : Nat} : ∀ {bs : List Frm} {v i : Nat}, (oncAll f v bs h)[i]? = (bs[i]?).map fun y => onc y (h.set f (some (v + i)))
  | [], _, _ => by rw [oncAll]; rfl
  | x :: xs, v, 0 => by rw [oncAll]; rfl
  | x :: xs, v, i + 1 => by
    rw [oncAll, List.getElem?_cons_succ, List.getElem?_cons_succ, oncAll_at]
    congr 1
    funext y
    rw [Nat.add_assoc, Nat.add_comm 1 i]
/-- as a comprehension over the values -/
theorem trmAll_range {f : Nat} {bs : List Frm} : trmAll f 0 bs h = (List.range bs.length).map fun i => match bs[i]? with
    | some y => trm y (h.set f (some i))
    | none => .say false := by
  refine List.ext_getElem? fun i => ?_
  rw [trmAll_at, List.getElem?_map]
  by_cases l : i < bs.length
  · rw [List.getElem?_range l, List.getElem?_eq_getElem l]
    simp only [Option.map_some, Nat.zero_add, List.getElem?_eq_getElem l]
  · rw [List.getElem?_eq_none (by omega), List.getElem?_eq_none (by rw [List.length_range]; omega)]
    rfl
theorem oncAll_range {f : Nat} {bs : List Frm} : oncAll f 0 bs h = (List.range bs.length).map fun i => match bs[i]? with
    | some y => onc y (h.set f (some i))
    | none => .say false := by
  refine List.ext_getElem? fun i => ?_
  rw [oncAll_at, List.getElem?_map]
  by_cases l : i < bs.length
  · rw [List.getElem?_range l, List.getElem?_eq_getElem l]
    simp only [Option.map_some, Nat.zero_add, List.getElem?_eq_getElem l]
  · rw [List.getElem?_eq_none (by omega), List.getElem?_eq_none (by rw [List.length_range]; omega)]
    rfl
/-- trimmed = the tests of fields tested above left out, then the tests whose branches are alike -/
theorem trm_mrg {x : Frm} (t : TreeF x) : ∀ h : Hf, trm x h = mrg (onc x h) := by
  induction t with
  | say b => intro h; rw [trm, onc, mrg]; intro f bs e; cases e
  | tree f bs hb ih =>
    intro h
    rw [trm, onc]
    split
    · rename_i v _
      cases e : bs[v]? with
      | none =>
        have : ∀ {bs : List Frm} {v : Nat}, bs[v]? = none → trmAt bs v h = .say false ∧ oncAt bs v h = .say false := fun {bs} => by
          induction bs with
          | nil => intro v _; exact ⟨by rw [trmAt], by rw [oncAt]⟩
          | cons x xs ih =>
            intro v e
            cases v with
            | zero => simp at e
            | succ v =>
              rw [trmAt, oncAt]
              exact ih (by simpa using e)
        rw [(this e).1, (this e).2, mrg]
        intro f bs e
        cases e
      | some y =>
        rw [trmAt_eq e, oncAt_eq e]
        exact ih y (List.mem_of_getElem? e) h
    · rw [mrg, mrgs_eq]
      congr 1
      refine List.ext_getElem? fun i => ?_
      rw [trmAll_at, List.getElem?_map, oncAll_at]
      cases e : bs[i]? with
      | none => rfl
      | some y =>
        exact congrArg some (ih y (List.mem_of_getElem? e) _)
structure TOK (ns : List Nat) (d s : Nat) (x : Frm) : Prop where
  t : TreeF x
  ok : x.Ok ns
  dp : x.dp ≤ d
  sz : x.sz ≤ s
theorem dps_leT {d : Nat} : ∀ {bs : List Frm}, (∀ y ∈ bs, y.dp ≤ d) → Frm.dps bs ≤ d
  | [], _ => by rw [Frm.dps]; omega
  | x :: xs, H => by
    rw [Frm.dps]
    have := H x List.mem_cons_self
    have := dps_leT fun y hy => H y (List.mem_cons_of_mem _ hy)
    omega
theorem mkT_in {f : Nat} {bs : List Frm} : mkT f bs ∈ bs ∨ mkT f bs = .tree f bs := by
  cases bs with
  | nil => exact .inr rfl
  | cons b bs =>
    by_cases al : ∀ y ∈ b :: bs, y = b
    · rw [mkT_yes al]
      exact .inl List.mem_cons_self
    · exact .inr (mkT_no al)
theorem mkT_all {f : Nat} {P : Frm → Prop} {bs : List Frm} (h1 : ∀ y ∈ bs, P y) (h2 : P (.tree f bs)) : P (mkT f bs) := by
  rcases mkT_in (f := f) (bs := bs) with h | h
  · exact h1 _ h
  · rw [h]; exact h2
theorem TOK.tree {f d s : Nat} {bs : List Frm} (e : ns[f]? = some bs.length) (H : ∀ y ∈ bs, TOK ns d s y) (hs : 1 + Frm.szs bs ≤ s) : TOK ns (d + 1) s (.tree f bs) := by
  refine ⟨.tree f bs fun y hy => (H y hy).t, ?_, ?_, ?_⟩
  · rw [Frm.Ok]
    exact ⟨e, Frm.Oks_iff.mpr fun y hy => (H y hy).ok⟩
  · rw [Frm.dp]
    have := dps_leT fun y hy => (H y hy).dp
    omega
  · rw [Frm.sz]
    omega
theorem TOK.mono {d s d' s' : Nat} (h : TOK ns d s x) (hd : d ≤ d') (hs : s ≤ s') : TOK ns d' s' x := ⟨h.t, h.ok, Nat.le_trans h.dp hd, Nat.le_trans h.sz hs⟩
theorem szs_pw : ∀ {bs cs : List Frm}, bs.length = cs.length → (∀ (i : Nat) (y z : Frm), bs[i]? = some y → cs[i]? = some z → y.sz ≤ z.sz) → Frm.szs bs ≤ Frm.szs cs
  | [], [], _, _ => Nat.le_refl _
  | [], _ :: _, e, _ => by cases e
  | _ :: _, [], e, _ => by cases e
  | b :: bs, c :: cs, e, H => by
    rw [Frm.szs, Frm.szs]
    have h1 := H 0 b c rfl rfl
    have h2 := szs_pw (bs := bs) (cs := cs) (by simpa using e) fun i y z h1 h2 => H (i + 1) y z (by simpa using h1) (by simpa using h2)
    omega
theorem trmAll_mem {f : Nat} {bs : List Frm} {z : Frm} (hz : z ∈ trmAll f 0 bs h) : ∃ (i : Nat) (y : Frm), bs[i]? = some y ∧ z = trm y (h.set f (some i)) := by
  obtain ⟨i, hi⟩ := List.mem_iff_getElem?.mp hz
  rw [trmAll_at] at hi
  obtain ⟨y, h1, h2⟩ := Option.map_eq_some_iff.mp hi
  exact ⟨i, y, h1, by rw [← h2, Nat.zero_add]⟩
theorem oncAll_mem {f : Nat} {bs : List Frm} {z : Frm} (hz : z ∈ oncAll f 0 bs h) : ∃ (i : Nat) (y : Frm), bs[i]? = some y ∧ z = onc y (h.set f (some i)) := by
  obtain ⟨i, hi⟩ := List.mem_iff_getElem?.mp hz
  rw [oncAll_at] at hi
  obtain ⟨y, h1, h2⟩ := Option.map_eq_some_iff.mp hi
  exact ⟨i, y, h1, by rw [← h2, Nat.zero_add]⟩
theorem trm_ok {x : Frm} (t : TreeF x) : x.Ok ns → ∀ {h : Hf}, Half ns h → TOK ns x.dp x.sz (trm x h) := by
  induction t with
  | say b =>
    intro _ h _
    rw [trm]
    exact ⟨.say b, by rw [Frm.Ok]; trivial, Nat.le_refl _, Nat.le_refl _⟩
  | tree f bs hb ih =>
    intro ok h H
    rw [Frm.Ok] at ok
    have oks := Frm.Oks_iff.mp ok.2
    obtain ⟨o, ho, hv⟩ := half_at H ok.1
    rw [trm, ho]
    cases o with
    | some v =>
      have ev := List.getElem?_eq_getElem (hv v rfl)
      have m := List.getElem_mem (hv v rfl)
      show TOK ns _ _ (trmAt bs v h)
      rw [trmAt_eq ev]
      have := ih _ m (oks _ m) H
      refine this.mono ?_ ?_
      · rw [Frm.dp]; have := Frm.dps_le m; omega
      · rw [Frm.sz]; have := szs_mem m; omega
    | none =>
      show TOK ns _ _ (mkT f (trmAll f 0 bs h))
      have each : ∀ z ∈ trmAll f 0 bs h, TOK ns (Frm.dps bs) (1 + Frm.szs bs) z := fun z hz => by
        obtain ⟨i, y, e, rfl⟩ := trmAll_mem hz
        have m := List.mem_of_getElem? e
        refine (ih y m (oks y m) (H.set ok.1 (List.getElem?_eq_some_iff.mp e).1)).mono (Frm.dps_le m) ?_
        have := szs_mem m
        omega
      have e1 : (Frm.tree f bs).dp = Frm.dps bs + 1 := by rw [Frm.dp]; omega
      have e2 : (Frm.tree f bs).sz = 1 + Frm.szs bs := by rw [Frm.sz]
      rw [e1, e2]
      refine mkT_all (fun y hy => (each y hy).mono (by omega) (Nat.le_refl _)) (TOK.tree (by rw [trmAll_len]; exact ok.1) each ?_)
      have := szs_pw (bs := trmAll f 0 bs h) (cs := bs) trmAll_len fun i y z h1 h2 => by
        rw [trmAll_at, h2] at h1
        cases h1
        have m := List.mem_of_getElem? h2
        exact (ih z m (oks z m) (H.set ok.1 (by have := (List.getElem?_eq_some_iff.mp h2).1; omega))).sz
      omega
theorem onc_ok {x : Frm} (t : TreeF x) : x.Ok ns → ∀ {h : Hf}, Half ns h → TOK ns x.dp x.sz (onc x h) := by
  induction t with
  | say b =>
    intro _ h _
    rw [onc]
    exact ⟨.say b, by rw [Frm.Ok]; trivial, Nat.le_refl _, Nat.le_refl _⟩
  | tree f bs hb ih =>
    intro ok h H
    rw [Frm.Ok] at ok
    have oks := Frm.Oks_iff.mp ok.2
    obtain ⟨o, ho, hv⟩ := half_at H ok.1
    rw [onc, ho]
    cases o with
    | some v =>
      have ev := List.getElem?_eq_getElem (hv v rfl)
      have m := List.getElem_mem (hv v rfl)
      show TOK ns _ _ (oncAt bs v h)
      rw [oncAt_eq ev]
      have := ih _ m (oks _ m) H
      refine this.mono ?_ ?_
      · rw [Frm.dp]; have := Frm.dps_le m; omega
      · rw [Frm.sz]; have := szs_mem m; omega
    | none =>
      show TOK ns _ _ (.tree f (oncAll f 0 bs h))
      have each : ∀ z ∈ oncAll f 0 bs h, TOK ns (Frm.dps bs) (1 + Frm.szs bs) z := fun z hz => by
        obtain ⟨i, y, e, rfl⟩ := oncAll_mem hz
        have m := List.mem_of_getElem? e
        refine (ih y m (oks y m) (H.set ok.1 (List.getElem?_eq_some_iff.mp e).1)).mono (Frm.dps_le m) ?_
        have := szs_mem m
        omega
      have e1 : (Frm.tree f bs).dp = Frm.dps bs + 1 := by rw [Frm.dp]; omega
      have e2 : (Frm.tree f bs).sz = 1 + Frm.szs bs := by rw [Frm.sz]
      rw [e1, e2]
      refine TOK.tree (by rw [oncAll_len]; exact ok.1) each ?_
      have := szs_pw (bs := oncAll f 0 bs h) (cs := bs) oncAll_len fun i y z h1 h2 => by
        rw [oncAll_at, h2] at h1
        cases h1
        have m := List.mem_of_getElem? h2
        exact (ih z m (oks z m) (H.set ok.1 (by have := (List.getElem?_eq_some_iff.mp h2).1; omega))).sz
      omega
inductive Cl : Frm → Hf → Prop
  | say (b : Bool) (h : Hf) : Cl (.say b) h
  | tree {f : Nat} {b : Frm} {bs : List Frm} {h : Hf} : h[f]? = some none → (∀ (v : Nat) (y : Frm), (b :: bs)[v]? = some y → Cl y (h.set f (some v))) → ¬ (∀ y ∈ b :: bs, y = b) → Cl (.tree f (b :: bs)) h
theorem Cl.weak {h' : Hf} (c : Cl x h') : ∀ {h : Hf}, (∀ i : Nat, h'[i]? = some none → h[i]? = some none) → Cl x h := by
  induction c with
  | say b h' => intro h _; exact .say b h
  | tree e1 e2 e3 ih =>
    rename_i f b bs h'
    intro h H
    refine .tree (H _ e1) (fun v y e => ih v y e fun i hi => ?_) e3
    by_cases z : f = i
    · subst z
      have l := (List.getElem?_eq_some_iff.mp e1).1
      rw [List.getElem?_set_self l] at hi
      cases hi
    · rw [List.getElem?_set_ne z] at hi ⊢
      exact H i hi
theorem Cl.trm {x : Frm} {h : Hf} (c : Cl x h) : trm x h = x := by
  induction c with
  | say b h => rw [DL.trm]
  | tree e1 e2 e3 ih =>
    rename_i f b bs h
    have e : trmAll f 0 (b :: bs) h = b :: bs := by
      refine List.ext_getElem? fun i => ?_
      rw [trmAll_at]
      cases q : (b :: bs)[i]? with
      | none => rfl
      | some y =>
        refine congrArg some ?_
        rw [Nat.zero_add]
        exact ih i y q
    rw [DL.trm, e1]
    show mkT f (trmAll f 0 (b :: bs) h) = _
    rw [e]
    exact mkT_no e3
theorem trm_cl (hn : Sz ns) {x : Frm} (t : TreeF x) : x.Ok ns → ∀ {h : Hf}, Half ns h → Cl (trm x h) h := by
  induction t with
  | say b =>
    intro _ h _
    rw [trm]
    exact .say b h
  | tree f bs hb ih =>
    intro ok h H
    rw [Frm.Ok] at ok
    have oks := Frm.Oks_iff.mp ok.2
    have b2 := hn.2 _ (List.mem_of_getElem? ok.1)
    obtain ⟨o, ho, hv⟩ := half_at H ok.1
    rw [trm, ho]
    cases o with
    | some v =>
      have ev := List.getElem?_eq_getElem (hv v rfl)
      have m := List.getElem_mem (hv v rfl)
      show Cl (trmAt bs v h) h
      rw [trmAt_eq ev]
      exact ih _ m (oks _ m) H
    | none =>
      show Cl (mkT f (trmAll f 0 bs h)) h
      have each : ∀ (i : Nat) (z : Frm), (trmAll f 0 bs h)[i]? = some z → Cl z (h.set f (some i)) := fun i z hz => by
        rw [trmAll_at] at hz
        obtain ⟨y, e, rfl⟩ := Option.map_eq_some_iff.mp hz
        have m := List.mem_of_getElem? e
        rw [Nat.zero_add]
        exact ih y m (oks y m) (H.set ok.1 (List.getElem?_eq_some_iff.mp e).1)
      have ln : (trmAll f 0 bs h).length = bs.length := trmAll_len
      cases q : trmAll f 0 bs h with
      | nil =>
        rw [q, List.length_nil] at ln
        omega
      | cons c cs =>
        rw [q] at each
        by_cases ne : ∀ y ∈ c :: cs, y = c
        · rw [mkT_yes ne]
          refine (each 0 c rfl).weak fun i hi => ?_
          by_cases z : f = i
          · subst z
            exact ho
          · rw [List.getElem?_set_ne z] at hi
            exact hi
        · rw [mkT_no ne]
          exact .tree ho each ne
theorem grf_ok {up lo : Frm} {d s : Nat} (hu : TOK ns d s up) (hl : TOK ns d s lo) {x : Frm} (t : TreeF x) : x.Ok ns → TOK ns (x.dp + d) (x.sz * (s + 1)) (grf up lo x) := by
  induction t with
  | say b =>
    intro _
    have e : (Frm.say b).sz = 1 := by rw [Frm.sz]; all_goals simp
    rw [grf, e]
    cases b
    · exact hl.mono (by omega) (by omega)
    · exact hu.mono (by omega) (by omega)
  | tree f bs hb ih =>
    intro ok
    rw [Frm.Ok] at ok
    have oks := Frm.Oks_iff.mp ok.2
    rw [grf, grfs_eq, Frm.dp, Frm.sz]
    have e : 1 + Frm.dps bs + d = (Frm.dps bs + d) + 1 := by omega
    rw [e]
    have sum : Frm.szs (bs.map (grf up lo)) ≤ Frm.szs bs * (s + 1) := by
      have : ∀ l : List Frm, (∀ y ∈ l, (grf up lo y).sz ≤ y.sz * (s + 1)) → Frm.szs (l.map (grf up lo)) ≤ Frm.szs l * (s + 1) := fun l => by
        induction l with
        | nil => intro _; simp [Frm.szs]
        | cons y ys ih =>
          intro H
          have h1 := H y List.mem_cons_self
          have h2 := ih fun z hz => H z (List.mem_cons_of_mem _ hz)
          rw [List.map_cons, Frm.szs, Frm.szs, Nat.add_mul]
          omega
      exact this bs fun y hy => (ih y hy (oks y hy)).sz
    refine TOK.tree (by rw [List.length_map]; exact ok.1) (fun z hz => ?_) ?_
    · obtain ⟨y, hy, rfl⟩ := List.mem_map.mp hz
      refine (ih y hy (oks y hy)).mono (by have := Frm.dps_le hy; omega) ?_
      refine Nat.mul_le_mul_right _ ?_
      have := szs_mem hy
      omega
    · rw [Nat.add_mul]
      omega
end DL
namespace DL
open PySem PySem.Spec PyProof.Rows L2 Lk
variable {ns cs : List Nat} {x : Frm} {h : Hf}
theorem tested_mkT {f : Nat} {b0 : Frm} {bs : List Frm} {d : Nat} (hb : ∀ b ∈ b0 :: bs, TreeF b ∧ b.dp ≤ d) (hd : d ≤ 30) : g_tested [nD f, .tuple ((b0 :: bs).map Frm.D)] = some (mkT f (b0 :: bs)).D := by
  obtain ⟨z, e, hz⟩ := g_tested_ok (f := f) hb hd
  rw [e]
  rcases hz with ⟨rfl, ha⟩ | rfl
  · rw [mkT_yes ha]
  · by_cases ha : ∀ y ∈ b0 :: bs, y = b0
    · rw [mkT_yes ha]
      -- all alike: the program returns the first one
      exfalso
      have sh1 : SeqAt.shaped (.tuple ((b0 :: bs).map Frm.D)) = true := (Sh.tup (n := 2 * d + 1) fun b h => ((hb b h).1.sh).mono (by have := (hb b h).2; omega)).sh (by omega)
      have sh2 : SeqAt.shaped b0.D = true := (((hb b0 (List.mem_cons_self ..)).1.sh).mono (m := 2 * d + 1) (by have := (hb b0 (List.mem_cons_self ..)).2; omega)).sh (by omega)
      have ct : countT (.tuple ((b0 :: bs).map Frm.D)) [b0.D] = some (.int ((((b0 :: bs).map Frm.D).countP fun z => PyData.eqv z b0.D : Nat) : Int)) := by
        show (if (SeqAt.shaped (.tuple ((b0 :: bs).map Frm.D)) && SeqAt.shaped b0.D) = true then _ else _) = _
        rw [sh1, sh2]
        rfl
      have i0 : ixM (.tuple ((b0 :: bs).map Frm.D)) (.int 0) = some b0.D := e_at0
      have ll : lenM [.tuple ((b0 :: bs).map Frm.D)] = some (.int (((b0 :: bs).length : Nat) : Int)) := by rw [e_lenT, List.length_map]
      have cq : (((b0 :: bs).map Frm.D).countP fun z => PyData.eqv z b0.D) = (b0 :: bs).length := by
        rw [List.countP_map]
        refine List.countP_eq_length.mpr fun y hy => ?_
        rw [ha y hy]
        exact (hb b0 List.mem_cons_self).1.refl2
      rw [cq] at ct
      have ee : eqM (.int (((b0 :: bs).length : Nat) : Int)) (.int (((b0 :: bs).length : Nat) : Int)) = some (.bool true) := by
        rw [e_eqD (Sh.int).sh (Sh.int).sh, PyData.eqv]
        simp
      have g2 : g_tested [nD f, .tuple ((b0 :: bs).map Frm.D)] = some b0.D := by
        rw [r_tested]
        simp only [v_tested, s_seq, s_if, s_bind, e_opT, e_bind, e_cntT, e_V, List.getElem?_cons_zero, List.getElem?_cons_succ, e_cons, e_op2, e_ret, e_lift_some, i0, e_nil, ct, e_call, ll, ee, Option.bind_some, e_asBool, if_true, s_ret, o_rt]
      rw [e] at g2
      have g3 := Option.some.inj g2
      -- a tree is no branch of its own
      have q := congrArg sizeOf g3
      rw [Frm.D, Frm.Ds_eq] at q
      have m : sizeOf b0.D < sizeOf (PyData.tuple [.str "tree", nD f, .tuple ((b0 :: bs).map Frm.D)]) := by
        simp
        omega
      omega
    · rw [mkT_no ha]
theorem g_trim_ok (hn : Sz ns) {x : Frm} (t : TreeF x) : x.Ok ns → x.dp ≤ 30 → ∀ {k : Nat} {h : Hf}, x.dp < k → Half ns h → g_p_trim_below_8c2fe k [x.D, halfD h] = some (trm x h).D := by
  induction t with
  | say b =>
    intro _ _ k h hk H
    cases k with
    | zero => omega
    | succ k =>
      rw [r_p_trim_below_8c2fe]
      have i0 : ixM (Frm.say b).D (.int 0) = some (.str "say") := by rw [Frm.D]; exact e_at0
      rw [trm]
      simp [v_p_trim_below_8c2fe, i0, eq_say0]
  | tree f bs hb ih =>
    intro ok hd k h hk H
    have okT := ok
    rw [Frm.Ok] at ok
    rw [Frm.dp] at hk hd
    have b6 := hn.2 _ (List.mem_of_getElem? ok.1)
    have l24 := hn.1
    have lf := (List.getElem?_eq_some_iff.mp ok.1).1
    have oks := Frm.Oks_iff.mp ok.2
    cases k with
    | zero => omega
    | succ k =>
      rw [r_p_trim_below_8c2fe]
      have i0 : ixM (Frm.tree f bs).D (.int 0) = some (.str "tree") := by rw [Frm.D]; exact e_at0
      have i1 : ixM (Frm.tree f bs).D (.int 1) = some (nD f) := by rw [Frm.D]; exact e_at1
      have i2 : ixM (Frm.tree f bs).D (.int 2) = some (.tuple (bs.map Frm.D)) := by rw [Frm.D, Frm.Ds_eq]; exact e_at2
      obtain ⟨o, ho, hv⟩ := half_at H ok.1
      have ih0 : ixM (halfD h) (nD f) = some (oD o) := by rw [e_ix_l, ho]; rfl
      rw [trm, ho]
      cases o with
      | some v =>
        have lv := hv v rfl
        have ev := List.getElem?_eq_getElem lv
        have iv := ix_tr ev
        have m := List.getElem_mem lv
        have dm := Frm.dps_le m
        have rc := ih _ m (oks _ m) (by omega) (k := k) (h := h) (by omega) H
        have nn : isNotM (oD (some v)) .none = some (.bool true) := rfl
        have oe : oD (some v) = nD v := rfl
        show _ = some (trmAt bs v h).D
        rw [trmAt_eq ev]
        rw [oe] at ih0 nn
        generalize (Frm.tree f bs).D = TD at i0 i1 i2 ⊢
        generalize halfD h = HD at ih0 rc ⊢
        generalize (trm bs[v] h).D = ZD at rc ⊢
        simp [v_p_trim_below_8c2fe, i0, i1, i2, eq_say1, ih0, nn, iv, rc]
      | none =>
        have nn : isNotM (oD none) .none = some (.bool false) := rfl
        have oe : oD none = .none := rfl
        rw [oe] at ih0 nn
        have ln : lenM [.tuple (bs.map Frm.D)] = some (nD bs.length) := by
          show some (PyData.int ((bs.map Frm.D).length : Int)) = _
          rw [List.length_map]
          rfl
        show _ = some (mkT f (trmAll f 0 bs h)).D
        have each : ∀ z ∈ trmAll f 0 bs h, TreeF z ∧ z.dp ≤ 30 := fun z hz => by
          obtain ⟨i, y, e, rfl⟩ := trmAll_mem hz
          have m := List.mem_of_getElem? e
          have := trm_ok (hb y m) (oks y m) (H.set ok.1 (List.getElem?_eq_some_iff.mp e).1)
          exact ⟨this.t, by have := this.dp; have := Frm.dps_le m; omega⟩
        have lenT : (trmAll f 0 bs h).length = bs.length := trmAll_len
        have tst : g_tested [nD f, .tuple ((trmAll f 0 bs h).map Frm.D)] = some (mkT f (trmAll f 0 bs h)).D := by
          cases q : trmAll f 0 bs h with
          | nil => rw [q, List.length_nil] at lenT; omega
          | cons c cs =>
            rw [q] at each
            exact tested_mkT each (Nat.le_refl _)
        have fr : freeAt [.pl (Frm.tree f bs).D, .pl (halfD h), .pl (nD f), .pl (.tuple (bs.map Frm.D)), .dk (rgD bs.length), .un] [5] = true := by simp [freeAt]
        have lc := lcy (vs := [5]) (mi := mRgN 4) (g := gN 5) (me := mCall (g_p_trim_below_8c2fe k) (mCons (mOp2 ixM (mV 3) (mV 5)) (mCons (mCall g_p_with_value_33504 (mCons (mV 1) (mCons (mV 2) (mCons (mV 5) mNil)))) mNil))) (r := [.pl (Frm.tree f bs).D, .pl (halfD h), .pl (nD f), .pl (.tuple (bs.map Frm.D)), .dk (rgD bs.length), .un])
          nD (fun i => (match bs[i]? with
            | some y => trm y (h.set f (some i))
            | none => .say false).D) (fun i => [.pl (Frm.tree f bs).D, .pl (halfD h), .pl (nD f), .pl (.tuple (bs.map Frm.D)), .dk (rgD bs.length), .pl (nD i)]) (xs := List.range bs.length) (by
            simp only [e_rgN, List.getElem?_cons_zero, List.getElem?_cons_succ, rgOf_rgD, Option.map_some]
            simp only [rngL, Int.zero_add]
            rfl) fr (by rw [List.length_range]; omega) (by simp) (by simp) (by
            intro i hi
            rw [List.mem_range] at hi
            have ev := List.getElem?_eq_getElem hi
            have iv := ix_tr ev
            have m := List.getElem_mem hi
            have dm := Frm.dps_le m
            have rc := ih _ m (oks _ m) (by omega) (k := k) (h := h.set f (some i)) (by omega) (H.set ok.1 hi)
            have wv := g_with_ok (h := h) (f := f) (v := i) (by rw [H.1]; omega) (by rw [H.1]; exact lf)
            simp only [ev]
            generalize (Frm.tree f bs).D = TD
            generalize halfD h = HD at wv ⊢
            generalize halfD (h.set f (some i)) = HS at wv rc
            generalize (trm bs[i] (h.set f (some i))).D = ZD at rc ⊢
            simp [iv, wv, rc])
        have e2 : ((List.range bs.length).map fun i => (match bs[i]? with
            | some y => trm y (h.set f (some i))
            | none => Frm.say false).D) = (trmAll f 0 bs h).map Frm.D := by
          rw [trmAll_range, List.map_map]
          rfl
        rw [e2] at lc
        generalize (mkT f (trmAll f 0 bs h)).D = ZD at tst ⊢
        generalize (trmAll f 0 bs h).map Frm.D = WD at lc tst
        have bl : ((bs.length : Nat) : Int) ≤ 1000000 := by omega
        have bl0 : (0 : Int) ≤ ((bs.length : Nat) : Int) := by omega
        have bt : ((bs.length : Nat) : Int).toNat = bs.length := by omega
        generalize (Frm.tree f bs).D = TD at i0 i1 i2 lc ⊢
        generalize halfD h = HD at ih0 lc ⊢
        generalize bs.map Frm.D = BD at i2 ln lc
        have rg : sRg 4 (mCons (mCall lenM (mCons (mV 3) mNil)) mNil) [.pl TD, .pl HD, .pl (nD f), .pl (.tuple BD), .un, .un] = some (.nx [.pl TD, .pl HD, .pl (nD f), .pl (.tuple BD), .dk (rgD bs.length), .un]) := by
          simp [ln]
          show (if 0 ≤ ((bs.length : Nat) : Int) ∧ ((bs.length : Nat) : Int) ≤ 1000000 then _ else _) = _
          rw [if_pos ⟨bl0, bl⟩, bt]
        simp [v_p_trim_below_8c2fe, -s_rg, i0, i1, i2, eq_say1, ih0, nn, rg, lc, tst]
theorem g_trimmed_ok (hn : Sz ns) (t : TreeF x) (ok : x.Ok ns) (hs : x.sz ≤ 900000) (hd : x.dp ≤ 30) : g_trimmed [nsD ns, x.D] = some (trm x (List.replicate ns.length none)).D := by
  rw [r_trimmed]
  have l24 := hn.1
  have cs := g_check_sizes_ok hn
  have ct := g_check_tree_ok hn t ok hs
  have wb := g_trim_ok hn t ok hd (k := FU) (h := List.replicate ns.length none) (show x.dp < 60 by omega) half_noneT
  have ln := ln_ns (P := ns)
  have rp := e_rep_none ns.length (by omega)
  have wb : g_p_trim_below_8c2fe FU [x.D, .list ((List.replicate ns.length none).map oD)] = some (trm x (List.replicate ns.length none)).D := wb
  generalize (List.replicate ns.length none).map oD = Y at wb rp
  simp [v_trimmed, cs, ct, ln, rp, wb]
theorem g_graft_ok (hn : Sz ns) {up lo : Frm} {x : Frm} (t : TreeF x) : x.Ok ns → ∀ {k : Nat}, x.dp < k → g_p_graft_below k [x.D, up.D, lo.D] = some (grf up lo x).D := by
  induction t with
  | say b =>
    intro _ k hk
    cases k with
    | zero => omega
    | succ k =>
      rw [r_p_graft_below]
      have i0 : ixM (Frm.say b).D (.int 0) = some (.str "say") := by rw [Frm.D]; exact e_at0
      have i1 : ixM (Frm.say b).D (.int 1) = some (.bool b) := by rw [Frm.D]; exact e_at1
      rw [grf]
      generalize (Frm.say b).D = TD at i0 i1 ⊢
      cases b <;> simp [v_p_graft_below, i0, i1, eq_say0]
  | tree f bs hb ih =>
    intro ok k hk
    rw [Frm.Ok] at ok
    rw [Frm.dp] at hk
    have b6 := hn.2 _ (List.mem_of_getElem? ok.1)
    have oks := Frm.Oks_iff.mp ok.2
    cases k with
    | zero => omega
    | succ k =>
      rw [r_p_graft_below]
      have i0 : ixM (Frm.tree f bs).D (.int 0) = some (.str "tree") := by rw [Frm.D]; exact e_at0
      have i1 : ixM (Frm.tree f bs).D (.int 1) = some (nD f) := by rw [Frm.D]; exact e_at1
      have i2 : ixM (Frm.tree f bs).D (.int 2) = some (.tuple (bs.map Frm.D)) := by rw [Frm.D, Frm.Ds_eq]; exact e_at2
      have as2 : ∀ l : List PyData, asSeq (.tuple l) = some l := fun _ => rfl
      have lc := lcy (vs := [3]) (mi := mSeq (mOp2 ixM (mV 0) (M.ret (.int 2)))) (g := gN 3) (me := mCall (g_p_graft_below k) (mCons (mV 3) (mCons (mV 1) (mCons (mV 2) mNil)))) (r := [.pl (Frm.tree f bs).D, .pl up.D, .pl lo.D, .un])
        Frm.D (fun y => (grf up lo y).D) (fun y => [.pl (Frm.tree f bs).D, .pl up.D, .pl lo.D, .pl y.D]) (xs := bs) (by simp [i2, as2]) (by simp [freeAt]) (by omega) (by simp) (by simp) (by
          intro y hy
          have := Frm.dps_le hy
          have rc := ih y hy (oks y hy) (k := k) (by omega)
          generalize (Frm.tree f bs).D = TD
          simp [rc])
      have e2 : (bs.map fun y => (grf up lo y).D) = (grfs up lo bs).map Frm.D := by rw [grfs_eq, List.map_map]; rfl
      rw [e2] at lc
      have tl : tupleM [.list ((grfs up lo bs).map Frm.D)] = some (.tuple ((grfs up lo bs).map Frm.D)) := rfl
      have tp : tupM [.str "tree", nD f, .tuple ((grfs up lo bs).map Frm.D)] = some (Frm.tree f (grfs up lo bs)).D := by rw [Frm.D, Frm.Ds_eq]; rfl
      rw [grf]
      generalize (Frm.tree f (grfs up lo bs)).D = ZD at tp ⊢
      generalize (grfs up lo bs).map Frm.D = WD at lc tl tp
      generalize (Frm.tree f bs).D = TD at i0 i1 lc ⊢
      simp [v_p_graft_below, i0, i1, eq_say1, lc, tl, tp]
theorem g_grafted_ok (hn : Sz ns) {up lo : Frm} (t : TreeF x) (ok : x.Ok ns) (hs : x.sz ≤ 900000) (hd : x.dp ≤ 10) (tu : TreeF up) (ou : up.Ok ns) (su : up.sz ≤ 900000) (du : up.dp ≤ 10) (tl : TreeF lo) (ol : lo.Ok ns) (sl : lo.sz ≤ 900000) (dl : lo.dp ≤ 10) :
    g_grafted [nsD ns, x.D, up.D, lo.D] = some (trm (grf up lo x) (List.replicate ns.length none)).D := by
  rw [r_grafted]
  have l24 := hn.1
  have cs := g_check_sizes_ok hn
  have ct := g_check_tree_ok hn t ok hs
  have ct2 := g_check_tree_ok hn tu ou su
  have ct3 := g_check_tree_ok hn tl ol sl
  have G := grf_ok (⟨tu, ou, du, su⟩ : TOK ns 10 900000 up) ⟨tl, ol, dl, sl⟩ t ok
  have gd := G.dp
  have gb := g_graft_ok hn (up := up) (lo := lo) t ok (k := FU) (show x.dp < 60 by omega)
  have wb := g_trim_ok hn G.t G.ok (by omega) (k := FU) (h := List.replicate ns.length none) (show (grf up lo x).dp < 60 by omega) half_noneT
  have ln := ln_ns (P := ns)
  have rp := e_rep_none ns.length (by omega)
  have wb : g_p_trim_below_8c2fe FU [(grf up lo x).D, .list ((List.replicate ns.length none).map oD)] = some (trm (grf up lo x) (List.replicate ns.length none)).D := wb
  generalize (List.replicate ns.length none).map oD = Y at wb rp
  generalize (grf up lo x).D = GD at wb gb
  simp [v_grafted, cs, ct, ct2, ct3, ln, rp, gb, wb]
end DL
namespace DL
open PySem PySem.Spec PyProof.Rows L2 Lk
def v_law_right_kinds_caee9 : SM := (sSeq (sIf (mNotT (mTru (mIsi "list" (mV 0))))
    (sRet (M.ret (.bool false)))
    sNil)
  (sSeq (sFor (mSeq (mV 0)) (gN 1)
    (sSeq (sIf (mOr (mNotT (mTru (mIsi "tuple" (mV 1)))) (mOr (mOpT neM (mCall lenM (mCons (mV 1) mNil)) (M.ret (.int 2))) (mOr (mNotT (mTru (mIsi "tuple" (mOp2 ixM (mV 1) (M.ret (.int 0)))))) (mNotT (mTru (mIsi "bool" (mOp2 ixM (mV 1) (M.ret (.int 1)))))))))
    (sRet (M.ret (.bool false)))
    sNil)
  (sFor (mSeq (mOp2 ixM (mV 1) (M.ret (.int 0)))) (gN 2)
    (sIf (mOr (mNotT (mTru (mIsi "tuple" (mV 2)))) (mOr (mOpT neM (mCall lenM (mCons (mV 2) mNil)) (M.ret (.int 2))) (mOr (mNotT (mTru (mCall g_law_whole_61a6b (mCons (mOp2 ixM (mV 2) (M.ret (.int 0))) mNil)))) (mNotT (mTru (mCall g_law_whole_61a6b (mCons (mOp2 ixM (mV 2) (M.ret (.int 1))) mNil)))))))
    (sRet (M.ret (.bool false)))
    sNil))))
  (sRet (M.ret (.bool true)))))
def g_law_right_kinds_caee9 : List PyData → Option PyData := runD ["found", "way", "pair"] 1 v_law_right_kinds_caee9
def v_law_cases_89809 : SM := (sSeq (sSet 2 (mNew (mLc [5] (mSeq (mV 1)) (gN 5) mYes (mOp2 ixM (mV 5) (M.ret (.int 0))))))
  (sSeq (sSet 3 (M.ret (.int 1)))
  (sSeq (sFor (mRng1 (mCons (mCall lenM (mCons (mV 0) mNil)) mNil)) (gN 4)
    (sIf (mOpT notInM (mV 4) (mV 2))
    (sSet 3 (mOp2 mulM (mV 3) (mOp2 ixM (mV 0) (mV 4))))
    sNil))
  (sRet (mV 3)))))
def g_law_cases_89809 : List PyData → Option PyData := runD ["sheet", "conditions", "named", "many", "field", "pair"] 2 v_law_cases_89809
end DL
namespace DL
open PySem PySem.Spec PyProof.Rows L2 Lk
variable {ns cs : List Nat} {x : Frm} {h : Hf}
end DL
namespace DL
open PySem PySem.Spec PyProof.Rows L2 Lk
variable {ns cs : List Nat} {x : Frm} {h : Hf}
theorem g_wholeT (n : Nat) : g_law_whole_61a6b [nD n] = some (.bool true) := by
  have t1 : isTy "int" (nD n) = true := rfl
  have t2 : isTy "bool" (nD n) = false := rfl
  rw [r_law_whole_61a6b]
  simp [v_law_whole_61a6b, t1, t2]
theorem s_setT {i : Nat} {m : M PyData} {r r' : En} {d : PyData} {c : Cel} (h : m r = some (.ok d r')) (hc : r'[i]? = some c) (ho : c.own = false) : sSet i m r = some (.nx (r'.set i (.pl d))) := by
  rw [s_set, s_bind, h]
  dsimp only
  rw [s_put, hc]
  cases c with
  | un => rfl
  | pl _ => rfl
  | ow _ => cases ho
  | io _ => cases ho
  | dk _ => cases ho
def a31 : SM := (sSeq (sSetQ 2 (mCallQ g_q_law_bag_0df30 (mCons (mV 1) mNil)))
  (sSeq (sSet 3 (mCallM 2 mNil g_law_sheet_490db))
  (sSeq (sSet 4 (mCallM2L 2 (mV 3) (mCallM 2 (mCons (mV 3) mNil) g_law_pool_d95fb) (mLst (mCons (M.ret (.int 59)) mNil)) (M.ret (.int 1)) (g_law_tree_95268 FU)))
  (sSeq (sSet 5 (mCallM 2 (mCons (mV 3) mNil) g_law_row_81117))
  (sSeq (sSet 6 (mNew (mCallF listM (mCons (mV 3) mNil))))
  (sSeq (sSet 7 (mCall g_ways (mCons (mV 6) (mCons (mV 4) mNil))))
  (sSeq (sIf (mOr (mNotT (mTru (mCall g_law_right_kinds_caee9 (mCons (mV 7) mNil)))) (mOr (mOpT neM (mV 7) (mCall (g_law_ways_11a6f FU) (mCons (mV 4) (mCons (mNew (mLst mNil)) mNil)))) (mOpT neM (mV 6) (mV 3))))
    (sRet (M.ret (.bool false)))
    sNil)
  (sSeq (sSet 8 (mNew (mLc [9] (mSeq (mV 7)) (gN 9) (mOpT eqM (mNew (mLc [10] (mSeq (mOp2 ixM (mV 9) (M.ret (.int 0)))) (gN 10) (mOpT neM (mOp2 ixM (mV 5) (mOp2 ixM (mV 10) (M.ret (.int 0)))) (mOp2 ixM (mV 10) (M.ret (.int 1)))) (mV 10))) (mNew (mLst mNil))) (mV 9))))
  (sSeq (sIf (mOr (mOpT neM (mCall lenM (mCons (mV 8) mNil)) (M.ret (.int 1))) (mOpT neM (mOp2 ixM (mOp2 ixM (mV 8) (M.ret (.int 0))) (M.ret (.int 1))) (mCall g_law_said_c2468 (mCons (mV 4) (mCons (mV 5) mNil)))))
    (sRet (M.ret (.bool false)))
    sNil)
  (sIf (mOpT neM (mCall sumM (mCons (mNew (mLc [9] (mSeq (mV 7)) (gN 9) mYes (mCall g_law_cases_89809 (mCons (mV 3) (mCons (mOp2 ixM (mV 9) (M.ret (.int 0))) mNil))))) mNil)) (mCall g_law_cases_89809 (mCons (mV 3) (mCons (mNew (mLst mNil)) mNil))))
    (sRet (M.ret (.bool false)))
    sNil))))))))))
theorem put2T {r : En} {c : Cel} {ds : List PyData} {i : Nat} (hc : r[i]? = some c) (h : c.isIo = false) : sPutO i ds r = some (.nx (r.set i (.ow ds))) := by
  rw [s_putO, hc]
  cases c with
  | un => rfl
  | pl _ => rfl
  | ow _ => rfl
  | io _ => cases h
  | dk _ => rfl
end DL
namespace DL
open PySem PySem.Spec PyProof.Rows L2 Lk
variable {ns cs : List Nat} {x : Frm} {h : Hf}
theorem g_istree_ok (hn : Sz ns) {x : Frm} (t : TreeF x) : x.Ok ns → ∀ {k : Nat}, x.dp < k → g_law_is_tree_84b8a k [x.D] = some (.bool true) := by
  induction t with
  | say b =>
    intro _ k hk
    cases k with
    | zero => omega
    | succ k =>
      rw [r_law_is_tree_84b8a]
      have i0 : ixM (Frm.say b).D (.int 0) = some (.str "say") := by rw [Frm.D]; exact e_at0
      have i1 : ixM (Frm.say b).D (.int 1) = some (.bool b) := by rw [Frm.D]; exact e_at1
      have ti : isTy "tuple" (Frm.say b).D = true := by rw [Frm.D]; rfl
      have ln : lenM [(Frm.say b).D] = some (.int 2) := by rw [Frm.D]; rfl
      have ts : isTy "str" (.str "say") = true := rfl
      have tb : isTy "bool" (.bool b) = true := rfl
      have lt : ltM (.int 2) (.int 2) = some (.bool false) := rfl
      have e22 : eqM (.int 2) (.int 2) = some (.bool true) := rfl
      generalize (Frm.say b).D = TD at i0 i1 ti ln ⊢
      simp [v_law_is_tree_84b8a, i0, i1, ti, ln, ts, tb, lt, e22, eq_say0]
  | tree f bs hb ih =>
    intro ok k hk
    rw [Frm.Ok] at ok
    rw [Frm.dp] at hk
    have b6 := hn.2 _ (List.mem_of_getElem? ok.1)
    have oks := Frm.Oks_iff.mp ok.2
    cases k with
    | zero => omega
    | succ k =>
      rw [r_law_is_tree_84b8a]
      have i0 : ixM (Frm.tree f bs).D (.int 0) = some (.str "tree") := by rw [Frm.D]; exact e_at0
      have i1 : ixM (Frm.tree f bs).D (.int 1) = some (nD f) := by rw [Frm.D]; exact e_at1
      have i2 : ixM (Frm.tree f bs).D (.int 2) = some (.tuple (bs.map Frm.D)) := by rw [Frm.D, Frm.Ds_eq]; exact e_at2
      have ti : isTy "tuple" (Frm.tree f bs).D = true := by rw [Frm.D]; rfl
      have ti2 : isTy "tuple" (.tuple (bs.map Frm.D)) = true := rfl
      have ln : lenM [(Frm.tree f bs).D] = some (.int 3) := by rw [Frm.D]; rfl
      have ts : isTy "str" (.str "tree") = true := rfl
      have lt : ltM (.int 3) (.int 2) = some (.bool false) := rfl
      have n33 : neM (.int 3) (.int 3) = some (.bool false) := rfl
      have ntt : neM (.str "tree") (.str "tree") = some (.bool false) := (e_neD (Sh.strS (by decide +kernel)).sh (Sh.strS (by decide +kernel)).sh).trans (congrArg (fun b => some (PyData.bool b)) (by decide +kernel))
      have wh := g_wholeT f
      have as2 : ∀ l : List PyData, asSeq (.tuple l) = some l := fun _ => rfl
      have l0 : lstM [] = some [] := rfl
      have e00 : eqM (.list []) (.list []) = some (.bool true) := rfl
      have lc := lcm (vs := [1]) (mi := mSeq (mOp2 ixM (mV 0) (M.ret (.int 2)))) (g := gN 1) (mt := mNotT (mTru (mCall (g_law_is_tree_84b8a k) (mCons (mV 1) mNil)))) (me := mV 1) (r := [.pl (Frm.tree f bs).D, .un])
        Frm.D (fun _ => false) Frm.D (fun y => [.pl (Frm.tree f bs).D, .pl y.D]) (xs := bs) (by simp [i2, as2]) (by simp [freeAt]) (by omega) (by simp) (by simp) (by
          intro y hy
          have := Frm.dps_le hy
          have rc := ih y hy (oks y hy) (k := k) (by omega)
          generalize (Frm.tree f bs).D = TD
          simp [rc]) (by
          intro y hy z
          cases z)
      have e2 : (bs.filter fun _ => false).map Frm.D = [] := by simp
      rw [e2] at lc
      generalize (Frm.tree f bs).D = TD at i0 i1 i2 ti ln lc ⊢
      simp [v_law_is_tree_84b8a, i0, i1, i2, ti, ti2, ln, ts, lt, eq_say1, ntt, n33, wh, lc, l0, e00]
theorem g_merged_ok (hn : Sz ns) {x : Frm} (t : TreeF x) : x.Ok ns → x.dp ≤ 30 → ∀ {k : Nat}, x.dp < k → g_law_merged_1016b k [x.D] = some (mrg x).D ∧ TreeF (mrg x) ∧ (mrg x).dp ≤ x.dp := by
  induction t with
  | say b =>
    intro _ _ k hk
    have e : mrg (.say b) = .say b := by rw [mrg]; intro f bs e; cases e
    rw [e]
    refine ⟨?_, .say b, Nat.le_refl _⟩
    cases k with
    | zero => omega
    | succ k =>
      rw [r_law_merged_1016b]
      have i0 : ixM (Frm.say b).D (.int 0) = some (.str "say") := by rw [Frm.D]; exact e_at0
      generalize (Frm.say b).D = TD at i0 ⊢
      simp [v_law_merged_1016b, i0, eq_say0]
  | tree f bs hb ih =>
    intro ok hd k hk
    rw [Frm.Ok] at ok
    rw [Frm.dp] at hk hd
    have b6 := hn.2 _ (List.mem_of_getElem? ok.1)
    have oks := Frm.Oks_iff.mp ok.2
    cases k with
    | zero => omega
    | succ k =>
      rw [r_law_merged_1016b]
      have i0 : ixM (Frm.tree f bs).D (.int 0) = some (.str "tree") := by rw [Frm.D]; exact e_at0
      have i1 : ixM (Frm.tree f bs).D (.int 1) = some (nD f) := by rw [Frm.D]; exact e_at1
      have i2 : ixM (Frm.tree f bs).D (.int 2) = some (.tuple (bs.map Frm.D)) := by rw [Frm.D, Frm.Ds_eq]; exact e_at2
      have as2 : ∀ l : List PyData, asSeq (.tuple l) = some l := fun _ => rfl
      have asL : ∀ l : List PyData, asSeq (.list l) = some l := fun _ => rfl
      have each : ∀ y ∈ bs, g_law_merged_1016b k [y.D] = some (mrg y).D ∧ TreeF (mrg y) ∧ (mrg y).dp ≤ Frm.dps bs := fun y hy => by
        have := Frm.dps_le hy
        obtain ⟨h1, h2, h3⟩ := ih y hy (oks y hy) (by omega) (k := k) (by omega)
        exact ⟨h1, h2, by omega⟩
      have lc := lcy (vs := [2]) (mi := mSeq (mOp2 ixM (mV 0) (M.ret (.int 2)))) (g := gN 2) (me := mCall (g_law_merged_1016b k) (mCons (mV 2) mNil)) (r := [.pl (Frm.tree f bs).D, .un, .un])
        Frm.D (fun y => (mrg y).D) (fun y => [.pl (Frm.tree f bs).D, .un, .pl y.D]) (xs := bs) (by simp [i2, as2]) (by simp [freeAt]) (by omega) (by simp) (by simp) (by
          intro y hy
          have rc := (each y hy).1
          generalize (Frm.tree f bs).D = TD
          simp [rc])
      have e2 : (bs.map fun y => (mrg y).D) = (bs.map mrg).map Frm.D := by rw [List.map_map]; rfl
      rw [e2] at lc
      rw [mrg, mrgs_eq, Frm.dp]
      cases bs with
      | nil => simp at b6
      | cons b bs =>
      have eachM : ∀ z ∈ (b :: bs).map mrg, TreeF z ∧ z.dp ≤ Frm.dps (b :: bs) := fun z hz => by
        obtain ⟨y, hy, rfl⟩ := List.mem_map.mp hz
        exact (each y hy).2
      refine ⟨?_, ?_, ?_⟩
      rotate_left
      · exact mkT_all (fun y hy => (eachM y hy).1) (.tree _ _ fun y hy => (eachM y hy).1)
      · refine mkT_all (P := fun z => z.dp ≤ 1 + Frm.dps (b :: bs)) (fun y hy => by have := (eachM y hy).2; omega) ?_
        rw [Frm.dp]
        have := dps_leT fun y hy => (eachM y hy).2
        omega
      have cl : ((b :: bs).map mrg).length ≤ 6 := by rw [List.length_map]; exact b6.2
      rw [List.map_cons] at lc eachM cl ⊢
      generalize bs.map mrg = cs at lc eachM cl ⊢
      generalize mrg b = c at lc eachM cl ⊢
      -- the branches that are unlike the first one
      have ix0 : ixM (.list ((c :: cs).map Frm.D)) (.int 0) = some c.D := e_at0
      have shc : SeqAt.shaped c.D = true := ((eachM c List.mem_cons_self).1.sh.mono (m := 61) (by have := (eachM c List.mem_cons_self).2; omega)).sh (by omega)
      have lc2 := lcm (vs := [2]) (mi := mSeq (mV 1)) (g := gN 2) (mt := mOpT neM (mV 2) (mOp2 ixM (mV 1) (M.ret (.int 0)))) (me := mV 2) (r := [.pl (Frm.tree f (b :: bs)).D, .pl (.list ((c :: cs).map Frm.D)), .un])
        Frm.D (fun y => !PyData.eqv y.D c.D) Frm.D (fun y => [.pl (Frm.tree f (b :: bs)).D, .pl (.list ((c :: cs).map Frm.D)), .pl y.D]) (xs := c :: cs) (by simp [asL]) (by simp [freeAt]) (by omega) (by simp) (by simp) (by
          intro y hy
          have shy : SeqAt.shaped y.D = true := ((eachM y hy).1.sh.mono (m := 61) (by have := (eachM y hy).2; omega)).sh (by omega)
          have ne := e_neD shy shc
          generalize (Frm.tree f (b :: bs)).D = TD
          generalize (c :: cs).map Frm.D = WD at ix0 ⊢
          simp [ix0, ne]) (by
          intro y hy _
          generalize (Frm.tree f (b :: bs)).D = TD
          generalize (c :: cs).map Frm.D = WD at ix0 ⊢
          simp)
      have l0 : lstM [] = some [] := rfl
      have tl : tupleM [.list ((c :: cs).map Frm.D)] = some (.tuple ((c :: cs).map Frm.D)) := rfl
      have tp : tupM [.str "tree", nD f, .tuple ((c :: cs).map Frm.D)] = some (Frm.tree f (c :: cs)).D := by rw [Frm.D, Frm.Ds_eq]; rfl
      have FE : ((c :: cs).filter fun y => !PyData.eqv y.D c.D) = [] ↔ ∀ y ∈ c :: cs, y = c := by
        rw [List.filter_eq_nil_iff]
        constructor
        · intro H y hy
          have := H y hy
          simp only [Bool.not_eq_true', Bool.not_eq_false] at this
          exact (eachM y hy).1.eqv _ (eachM c List.mem_cons_self).1 this
        · intro H y hy
          rw [H y hy, (eachM c List.mem_cons_self).1.refl2]
          simp
      generalize hF : ((c :: cs).filter fun y => !PyData.eqv y.D c.D) = FL at lc2 FE
      have FLm : ∀ y ∈ FL, TreeF y ∧ y.dp ≤ 30 := fun y hy => by
        rw [← hF] at hy
        have := eachM y (List.mem_filter.mp hy).1
        exact ⟨this.1, by omega⟩
      have shF : SeqAt.shaped (.list (FL.map Frm.D)) = true := (Sh.list (n := 61) fun y hy => (FLm y hy).1.sh.mono (by have := (FLm y hy).2; omega)).sh (by omega)
      have eqn : eqM (.list (FL.map Frm.D)) (.list []) = some (.bool FL.isEmpty) := by
        rw [e_eqD shF sh_nil, PyData.eqv]
        cases FL <;> simp [PyData.eqvAll]
      by_cases al : ∀ y ∈ c :: cs, y = c
      · rw [mkT_yes al]
        have : FL = [] := FE.mpr al
        rw [this] at eqn lc2
        simp only [List.map_nil, List.isEmpty_nil] at eqn lc2
        generalize (Frm.tree f (b :: bs)).D = TD at i0 i1 i2 lc lc2 ⊢
        generalize (c :: cs).map Frm.D = WD at lc lc2 ix0
        simp [v_law_merged_1016b, i0, i1, i2, eq_say1, lc, lc2, l0, eqn, ix0]
      · rw [mkT_no al]
        have ne : FL.isEmpty = false := by
          cases q : FL with
          | nil => exact absurd (FE.mp q) al
          | cons _ _ => rfl
        rw [ne] at eqn
        generalize (Frm.tree f (c :: cs)).D = ZD at tp ⊢
        generalize FL.map Frm.D = FD at eqn lc2
        generalize (Frm.tree f (b :: bs)).D = TD at i0 i1 i2 lc lc2 ⊢
        generalize (c :: cs).map Frm.D = WD at lc lc2 ix0 tl tp
        simp [v_law_merged_1016b, i0, i1, i2, eq_say1, lc, lc2, l0, eqn, tl, tp]
theorem g_lgraft_ok (hn : Sz ns) {up lo : Frm} {x : Frm} (t : TreeF x) : x.Ok ns → ∀ {k : Nat}, x.dp < k → g_law_graft_c3e04 k [x.D, up.D, lo.D] = some (grf up lo x).D := by
  induction t with
  | say b =>
    intro _ k hk
    cases k with
    | zero => omega
    | succ k =>
      rw [r_law_graft_c3e04]
      have i0 : ixM (Frm.say b).D (.int 0) = some (.str "say") := by rw [Frm.D]; exact e_at0
      have i1 : ixM (Frm.say b).D (.int 1) = some (.bool b) := by rw [Frm.D]; exact e_at1
      have l2 : ∀ p q : PyData, lstM [p, q] = some [p, q] := fun _ _ => rfl
      have x0 : ∀ p q : PyData, ixM (.list [p, q]) (.int 0) = some p := fun _ _ => e_at0
      have x1 : ∀ p q : PyData, ixM (.list [p, q]) (.int 1) = some q := fun _ _ => e_at1
      have in0 : intM [.bool false] = some (.int 0) := rfl
      have in1 : intM [.bool true] = some (.int 1) := rfl
      rw [grf]
      generalize (Frm.say b).D = TD at i0 i1 ⊢
      cases b <;> simp [v_law_graft_c3e04, i0, i1, eq_say0, l2, x0, x1, in0, in1]
  | tree f bs hb ih =>
    intro ok k hk
    rw [Frm.Ok] at ok
    rw [Frm.dp] at hk
    have b6 := hn.2 _ (List.mem_of_getElem? ok.1)
    have oks := Frm.Oks_iff.mp ok.2
    cases k with
    | zero => omega
    | succ k =>
      rw [r_law_graft_c3e04]
      have i0 : ixM (Frm.tree f bs).D (.int 0) = some (.str "tree") := by rw [Frm.D]; exact e_at0
      have i1 : ixM (Frm.tree f bs).D (.int 1) = some (nD f) := by rw [Frm.D]; exact e_at1
      have i2 : ixM (Frm.tree f bs).D (.int 2) = some (.tuple (bs.map Frm.D)) := by rw [Frm.D, Frm.Ds_eq]; exact e_at2
      have as2 : ∀ l : List PyData, asSeq (.tuple l) = some l := fun _ => rfl
      have lc := lcy (vs := [3]) (mi := mSeq (mOp2 ixM (mV 0) (M.ret (.int 2)))) (g := gN 3) (me := mCall (g_law_graft_c3e04 k) (mCons (mV 3) (mCons (mV 1) (mCons (mV 2) mNil)))) (r := [.pl (Frm.tree f bs).D, .pl up.D, .pl lo.D, .un])
        Frm.D (fun y => (grf up lo y).D) (fun y => [.pl (Frm.tree f bs).D, .pl up.D, .pl lo.D, .pl y.D]) (xs := bs) (by simp [i2, as2]) (by simp [freeAt]) (by omega) (by simp) (by simp) (by
          intro y hy
          have := Frm.dps_le hy
          have rc := ih y hy (oks y hy) (k := k) (by omega)
          generalize (Frm.tree f bs).D = TD
          simp [rc])
      have e2 : (bs.map fun y => (grf up lo y).D) = (grfs up lo bs).map Frm.D := by rw [grfs_eq, List.map_map]; rfl
      rw [e2] at lc
      have tl : tupleM [.list ((grfs up lo bs).map Frm.D)] = some (.tuple ((grfs up lo bs).map Frm.D)) := rfl
      have tp : tupM [.str "tree", nD f, .tuple ((grfs up lo bs).map Frm.D)] = some (Frm.tree f (grfs up lo bs)).D := by rw [Frm.D, Frm.Ds_eq]; rfl
      rw [grf]
      generalize (Frm.tree f (grfs up lo bs)).D = ZD at tp ⊢
      generalize (grfs up lo bs).map Frm.D = WD at lc tl tp
      generalize (Frm.tree f bs).D = TD at i0 i1 lc ⊢
      simp [v_law_graft_c3e04, i0, i1, eq_say1, lc, tl, tp]
end DL
namespace DL
open PySem PySem.Spec PyProof.Rows L2 Lk
variable {ns cs : List Nat} {x : Frm} {h : Hf}
theorem g_once_ok (hn : Sz ns) {x : Frm} (t : TreeF x) : x.Ok ns → ∀ {k : Nat} {h : Hf} {known : List (Nat × Nat)}, x.dp < k → Half ns h → Knw known h → known.length + x.dp < 60 → g_law_once_a2454 k [x.D, .list (known.map prD)] = some (onc x h).D := by
  induction t with
  | say b =>
    intro _ k h known hk H K hl
    cases k with
    | zero => omega
    | succ k =>
      rw [r_law_once_a2454]
      have i0 : ixM (Frm.say b).D (.int 0) = some (.str "say") := by rw [Frm.D]; exact e_at0
      rw [onc]
      generalize (Frm.say b).D = TD at i0 ⊢
      generalize known.map prD = KD
      simp [v_law_once_a2454, i0, eq_say0]
  | tree f bs hb ih =>
    intro ok k h known hk H K hl
    rw [Frm.Ok] at ok
    rw [Frm.dp] at hk hl
    have b6 := hn.2 _ (List.mem_of_getElem? ok.1)
    have l24 := hn.1
    have lf := (List.getElem?_eq_some_iff.mp ok.1).1
    have oks := Frm.Oks_iff.mp ok.2
    cases k with
    | zero => omega
    | succ k =>
      rw [r_law_once_a2454]
      have i0 : ixM (Frm.tree f bs).D (.int 0) = some (.str "tree") := by rw [Frm.D]; exact e_at0
      have i1 : ixM (Frm.tree f bs).D (.int 1) = some (nD f) := by rw [Frm.D]; exact e_at1
      have i2 : ixM (Frm.tree f bs).D (.int 2) = some (.tuple (bs.map Frm.D)) := by rw [Frm.D, Frm.Ds_eq]; exact e_at2
      have rn := e_rng_n bs.length (by omega)
      have ln : lenM [.tuple (bs.map Frm.D)] = some (nD bs.length) := by
        show some (PyData.int ((bs.map Frm.D).length : Int)) = _
        rw [List.length_map]
        rfl
      obtain ⟨o, ho, hv⟩ := half_at H ok.1
      have as2 : ∀ l : List PyData, asSeq (.list l) = some l := fun _ => rfl
      have tp : ∀ v : Nat, tupM [nD f, nD v] = some (prD (f, v)) := fun _ => rfl
      have adk : ∀ v : Nat, addM (.list (known.map prD)) (.list [prD (f, v)]) = some (.list ((known ++ [(f, v)]).map prD)) := fun v => by
        rw [e_addL (by simp; omega), List.map_append]
        rfl
      have l0 : lstM [] = some [] := rfl
      -- the values that are known
      have th := lcm (vs := [4]) (mi := mSeq (mV 1)) (g := gN 4) (mt := mOpT eqM (mOp2 ixM (mV 4) (M.ret (.int 0))) (mOp2 ixM (mV 0) (M.ret (.int 1)))) (me := mOp2 ixM (mV 4) (M.ret (.int 1))) (r := [.pl (Frm.tree f bs).D, .pl (.list (known.map prD)), .un, .un, .un, .un])
        prD (fun p => p.1 == f) (fun p => nD p.2) (fun p => [.pl (Frm.tree f bs).D, .pl (.list (known.map prD)), .un, .un, .pl (prD p), .un]) (xs := known) (by simp [as2]) (by simp [freeAt]) (by omega) (by simp) (by simp) (by
          intro p _
          have j0 := prD0 (p := p)
          have eq : eqM (nD p.1) (nD f) = some (.bool (p.1 == f)) := e_eq_n
          generalize (Frm.tree f bs).D = TD at i1 ⊢
          generalize known.map prD = KD
          simp [j0, i1, eq]) (by
          intro p _ _
          have j1 := prD1 (p := p)
          generalize (Frm.tree f bs).D = TD at i1 ⊢
          generalize known.map prD = KD
          simp [j1])
      have e2 : (known.filter fun p => p.1 == f).map (fun p => nD p.2) = ((known.filter fun p => p.1 == f).map (·.2)).map nD := by rw [List.map_map]; rfl
      rw [e2] at th
      obtain ⟨TH, hTH⟩ : ∃ TH, TH = (known.filter fun p => p.1 == f).map (·.2) := ⟨_, rfl⟩
      rw [← hTH] at th
      rw [onc, ho]
      cases o with
      | some u =>
        have lu := hv u rfl
        have eu := List.getElem?_eq_getElem lu
        have mu := List.getElem_mem lu
        have du := Frm.dps_le mu
        have thu : ∃ tl, TH = u :: tl := by
          have all : ∀ v ∈ TH, v = u := fun v m => by
            rw [hTH] at m
            obtain ⟨p, hp, rfl⟩ := List.mem_map.mp m
            obtain ⟨h1, h2⟩ := List.mem_filter.mp hp
            have := (K p.1 p.2).mp h1
            rw [beq_iff_eq.mp h2, ho] at this
            cases this
            rfl
          have mem : u ∈ TH := by
            rw [hTH]
            exact List.mem_map.mpr ⟨(f, u), List.mem_filter.mpr ⟨(K f u).mpr ho, by simp⟩, rfl⟩
          cases TH with
          | nil => cases mem
          | cons a tl => exact ⟨tl, by rw [all a List.mem_cons_self]⟩
        obtain ⟨tl, htl⟩ := thu
        have en : neM (nsD TH) (.list []) = some (.bool true) := by rw [e_ne_nil, htl]; rfl
        have ix0 : ixM (nsD TH) (.int 0) = some (nD u) := by rw [htl]; exact e_at0
        have rc := ih _ mu (oks _ mu) (k := k) (h := h) (known := known) (by omega) H K (by omega)
        show _ = some (oncAt bs u h).D
        rw [oncAt_eq eu]
        have iu := ix_tr eu
        generalize (onc bs[u] h).D = ZD at rc ⊢
        generalize (Frm.tree f bs).D = TD at i0 i1 i2 th ⊢
        generalize known.map prD = KD at th rc ⊢
        unfold nsD at en ix0
        generalize TH.map nD = HD at th en ix0 ⊢
        simp [v_law_once_a2454, i0, i1, i2, eq_say1, th, l0, en, ix0, iu, rc]
      | none =>
        have thn : TH = [] := by
          rw [hTH, List.map_eq_nil_iff, List.filter_eq_nil_iff]
          intro p hp q
          have := (K p.1 p.2).mp hp
          rw [beq_iff_eq.mp q, ho] at this
          cases this
        have en : neM (nsD TH) (.list []) = some (.bool false) := by rw [e_ne_nil, thn]; rfl
        show _ = some (Frm.tree f (oncAll f 0 bs h)).D
        have lc := lcy (vs := [5]) (mi := mRng1 (mCons (mCall lenM (mCons (mOp2 ixM (mV 0) (M.ret (.int 2))) mNil)) mNil)) (g := gN 5) (me := mCall (g_law_once_a2454 k) (mCons (mOp2 ixM (mOp2 ixM (mV 0) (M.ret (.int 2))) (mV 5)) (mCons (mOp2 addM (mV 1) (mNew (mLst (mCons (mTup (mCons (mOp2 ixM (mV 0) (M.ret (.int 1))) (mCons (mV 5) mNil))) mNil)))) mNil))) (r := [.pl (Frm.tree f bs).D, .pl (.list (known.map prD)), .pl (nsD TH), .un, .un, .un])
          nD (fun i => (match bs[i]? with
            | some y => onc y (h.set f (some i))
            | none => .say false).D) (fun i => [.pl (Frm.tree f bs).D, .pl (.list (known.map prD)), .pl (nsD TH), .un, .un, .pl (nD i)]) (xs := List.range bs.length) (by simp [i2, ln, rn]) (by simp [freeAt]) (by rw [List.length_range]; omega) (by simp) (by simp) (by
            intro i hi
            rw [List.mem_range] at hi
            have ev := List.getElem?_eq_getElem hi
            have iv := ix_tr ev
            have m := List.getElem_mem hi
            have dm := Frm.dps_le m
            have rc := ih _ m (oks _ m) (k := k) (h := h.set f (some i)) (known := known ++ [(f, i)]) (by omega) (H.set ok.1 hi) (knw_set K ho) (by simp; omega)
            have tpi := tp i
            have aki := adk i
            have l1 : ∀ d : PyData, lstM [d] = some [d] := fun _ => rfl
            simp only [ev]
            generalize (onc bs[i] (h.set f (some i))).D = ZD at rc ⊢
            generalize (known ++ [(f, i)]).map prD = KD2 at aki rc
            generalize (Frm.tree f bs).D = TD at i1 i2 ⊢
            generalize known.map prD = KD at aki ⊢
            simp [i1, i2, iv, tpi, l1, aki, rc])
        have e3 : ((List.range bs.length).map fun i => (match bs[i]? with
            | some y => onc y (h.set f (some i))
            | none => Frm.say false).D) = (oncAll f 0 bs h).map Frm.D := by
          rw [oncAll_range, List.map_map]
          rfl
        rw [e3] at lc
        have tl : tupleM [.list ((oncAll f 0 bs h).map Frm.D)] = some (.tuple ((oncAll f 0 bs h).map Frm.D)) := rfl
        have tp3 : tupM [.str "tree", nD f, .tuple ((oncAll f 0 bs h).map Frm.D)] = some (Frm.tree f (oncAll f 0 bs h)).D := by rw [Frm.D, Frm.Ds_eq]; rfl
        generalize (Frm.tree f (oncAll f 0 bs h)).D = ZD at tp3 ⊢
        generalize (oncAll f 0 bs h).map Frm.D = WD at lc tl tp3
        generalize (Frm.tree f bs).D = TD at i0 i1 i2 th lc ⊢
        generalize known.map prD = KD at th lc ⊢
        unfold nsD at en lc
        generalize TH.map nD = HD at th en lc ⊢
        simp [v_law_once_a2454, i0, i1, i2, eq_say1, th, l0, en, lc, tl, tp3]
/-- what the law reckons is what the program returns -/
theorem law_once (hn : Sz ns) {x : Frm} (t : TreeF x) (ok : x.Ok ns) (hd : x.dp ≤ 30) : ∃ Y : PyData, g_law_once_a2454 FU [x.D, .list []] = some Y ∧ g_law_merged_1016b FU [Y] = some (trm x (List.replicate ns.length none)).D := by
  have e := g_once_ok hn t ok (k := FU) (h := List.replicate ns.length none) (known := []) (show x.dp < 60 by omega) half_noneT knw_none (by simp; omega)
  have T := onc_ok t ok (h := List.replicate ns.length none) half_noneT
  have td := T.dp
  have m := g_merged_ok hn T.t T.ok (by omega) (k := FU) (show _ < 60 by omega)
  refine ⟨_, e, ?_⟩
  rw [m.1, trm_mrg t]
end DL
namespace DL
open PySem PySem.Spec PyProof.Rows L2 Lk
variable {ns cs : List Nat} {x : Frm} {h : Hf}
theorem ne_self {z : Frm} (t : TreeF z) (hd : z.dp ≤ 30) : neM z.D z.D = some (.bool false) := by
  have sh : SeqAt.shaped z.D = true := (t.sh.mono (m := 61) (by omega)).sh (by omega)
  rw [e_neD sh sh, t.refl2]
  rfl
theorem eqv_ns32 : ∀ {as : List Nat}, PyData.eqvAll (as.map nD) (as.map nD) = true
  | [] => by simp [PyData.eqvAll]
  | a :: as => by
    rw [List.map_cons, PyData.eqvAll, eqv_ns32, eqv_n]
    simp
theorem ne_ns32 {as : List Nat} : neM (.list (as.map nD)) (nsD as) = some (.bool false) := by
  have : neM (nsD as) (nsD as) = some (.bool false) := by
    rw [e_neD sh_ns sh_ns, PyData.eqv, eqv_ns32]
    rfl
  exact this
def tail32 : SM := (sSeq (sSet 10 (mNew (mCallF listM (mCons (mV 3) mNil))))
  (sSeq (sSet 11 (mCall g_trimmed (mCons (mV 10) (mCons (mV 6) mNil))))
  (sSeq (sIf (mOr (mNotT (mTru (mCall (g_law_is_tree_84b8a FU) (mCons (mV 11) mNil)))) (mOr (mOpT neM (mV 11) (mCall (g_law_merged_1016b FU) (mCons (mCall (g_law_once_a2454 FU) (mCons (mV 6) (mCons (mNew (mLst mNil)) mNil))) mNil))) (mOpT neM (mCall g_trimmed (mCons (mV 10) (mCons (mV 11) mNil))) (mV 11))))
    (sRet (M.ret (.bool false)))
    sNil)
  (sSeq (sSet 11 (mCall g_grafted (mCons (mV 10) (mCons (mV 7) (mCons (mV 8) (mCons (mV 9) mNil))))))
  (sSeq (sIf (mOr (mNotT (mTru (mCall (g_law_is_tree_84b8a FU) (mCons (mV 11) mNil)))) (mOpT neM (mV 11) (mCall (g_law_merged_1016b FU) (mCons (mCall (g_law_once_a2454 FU) (mCons (mCall (g_law_graft_c3e04 FU) (mCons (mV 7) (mCons (mV 8) (mCons (mV 9) mNil)))) (mCons (mNew (mLst mNil)) mNil))) mNil))))
    (sRet (M.ret (.bool false)))
    sNil)
  (sIf (mOpT neM (mV 10) (mV 3))
    (sRet (M.ret (.bool false)))
    sNil))))))
def rest32 : SM := (sSeq (sIf (mOpT eqM (mV 5) (M.ret (.int 1)))
    (sPar 8 9 (mCons (mV 9) (mCons (mV 8) mNil)))
    sNil)
  (sSeq (sIf (mOpT eqM (mV 5) (M.ret (.int 2)))
    (sSet 9 (mCallM2L 2 (mV 3) (mV 4) (mLst (mCons (M.ret (.int 39)) mNil)) (M.ret (.int 1)) (g_law_tree_95268 FU)))
    sNil) tail32))
def a32 : SM := (sSeq (sSetQ 2 (mCallQ g_q_law_bag_0df30 (mCons (mV 1) mNil)))
  (sSeq (sSet 3 (mCallM 2 mNil g_law_sheet_490db))
  (sSeq (sSet 4 (mCallM 2 (mCons (mV 3) mNil) g_law_pool_d95fb))
  (sSeq (sSet 5 (mCallM 2 (mCons (M.ret (.int 3)) mNil) g_law_draw_80bbd))
  (sSeq (sSet 6 (mCallM2L 2 (mV 3) (mV 4) (mLst (mCons (M.ret (.int 59)) mNil)) (M.ret (.int 1)) (g_law_tree_95268 FU)))
  (sSeq (sSet 7 (mCallM2L 2 (mV 3) (mV 4) (mLst (mCons (M.ret (.int 24)) mNil)) (M.ret (.int 1)) (g_law_tree_95268 FU)))
  (sSeq (sSet 8 (mCallM2L 2 (mV 3) (mV 4) (mLst (mCons (M.ret (.int 39)) mNil)) (M.ret (.int 1)) (g_law_tree_95268 FU)))
  (sSeq (sSet 9 (mTup (mCons (M.ret (.str "say")) (mCons (mOp2 eqM (mCallM 2 (mCons (M.ret (.int 2)) mNil) g_law_draw_80bbd) (M.ret (.int 1))) mNil)))) rest32))))))))
theorem tail32_ok {s : PyData} {z : Int} {B : Bag} {P : List Nat} {v : Nat} {x y up lo : Frm} {c10 c11 : Cel} (hn : Sz ns) (X : TOK ns 8 60 x) (Y : TOK ns 8 60 y) (U : TOK ns 8 60 up) (L : TOK ns 8 60 lo) (h10 : c10.own = false) (h11 : c11.own = false) :
    ∃ c10' c11' : Cel, tail32 [.pl s, .pl (.int z), .ow B.D, .pl (nsD ns), .pl (nsD P), .pl (nD v), .pl x.D, .pl y.D, .pl up.D, .pl lo.D, c10, c11] = some (.nx [.pl s, .pl (.int z), .ow B.D, .pl (nsD ns), .pl (nsD P), .pl (nD v), .pl x.D, .pl y.D, .pl up.D, .pl lo.D, c10', c11']) ∧ c10'.own = false ∧ c11'.own = false := by
  have lm : listM [nsD ns] = some (ns.map nD) := rfl
  have xd := X.dp
  have yd := Y.dp
  have ud := U.dp
  have ld := L.dp
  have xs := X.sz
  have ys := Y.sz
  have us := U.sz
  have ls := L.sz
  -- trimmed
  have g1 := g_trimmed_ok hn X.t X.ok (by omega) (by omega)
  have T1 := trm_ok X.t X.ok (h := List.replicate ns.length none) half_noneT
  have T1d := T1.dp
  have T1s := T1.sz
  have i1 := g_istree_ok hn T1.t T1.ok (k := FU) (show _ < 60 by omega)
  obtain ⟨Y1, o1, m1⟩ := law_once hn X.t X.ok (by omega)
  have g2 := g_trimmed_ok hn T1.t T1.ok (by omega) (by omega)
  rw [(trm_cl hn X.t X.ok half_noneT).trm] at g2
  have n1 := ne_self T1.t (by omega)
  generalize trm x (List.replicate ns.length none) = Z1 at g1 g2 i1 m1 n1
  -- grafted
  have G := grf_ok (U.mono (by omega : 8 ≤ 10) (Nat.le_refl _)) (L.mono (by omega : 8 ≤ 10) (Nat.le_refl _)) Y.t Y.ok
  have Gd := G.dp
  have k1 := g_grafted_ok hn Y.t Y.ok (by omega) (by omega) U.t U.ok (by omega) (by omega) L.t L.ok (by omega) (by omega)
  have k2 := g_lgraft_ok hn (up := up) (lo := lo) Y.t Y.ok (k := FU) (show _ < 60 by omega)
  have T2 := trm_ok G.t G.ok (h := List.replicate ns.length none) half_noneT
  have T2d := T2.dp
  have i2 := g_istree_ok hn T2.t T2.ok (k := FU) (show _ < 60 by omega)
  obtain ⟨Y2, o2, m2⟩ := law_once hn G.t G.ok (by omega)
  have n2 := ne_self T2.t (by omega)
  generalize trm (grf up lo y) (List.replicate ns.length none) = Z2 at k1 i2 m2 n2
  have nn := ne_ns32 (as := ns)
  have l0 : lstM [] = some [] := rfl
  have g1 : g_trimmed [.list (ns.map nD), x.D] = _ := g1
  have g2 : g_trimmed [.list (ns.map nD), Z1.D] = _ := g2
  have k1 : g_grafted [.list (ns.map nD), y.D, up.D, lo.D] = _ := k1
  refine ⟨.pl (.list (ns.map nD)), .pl Z2.D, ?_, rfl, rfl⟩
  unfold tail32
  generalize x.D = XD at g1 o1 ⊢
  generalize y.D = YD at k1 k2 ⊢
  generalize up.D = UD at k1 k2 ⊢
  generalize lo.D = LD at k1 k2 ⊢
  generalize Z1.D = Z1D at g1 g2 i1 m1 n1
  generalize Z2.D = Z2D at k1 i2 m2 n2 ⊢
  generalize (grf up lo y).D = GD at k2 o2
  generalize nsD P = PD
  generalize nD v = VD
  generalize ns.map nD = HD at lm g1 g2 k1 nn ⊢
  rw [s_seq, s_setT (i := 10) (d := .list HD) (c := c10) (r' := [.pl s, .pl (.int z), .ow B.D, .pl (nsD ns), .pl PD, .pl VD, .pl XD, .pl YD, .pl UD, .pl LD, c10, c11]) (by simp [lm]) rfl h10]
  dsimp only [List.set_cons_succ, List.set_cons_zero]
  rw [s_seq, s_setT (i := 11) (d := Z1D) (c := c11) (r' := [.pl s, .pl (.int z), .ow B.D, .pl (nsD ns), .pl PD, .pl VD, .pl XD, .pl YD, .pl UD, .pl LD, .pl (.list HD), c11]) (by simp [g1]) rfl h11]
  dsimp only [List.set_cons_succ, List.set_cons_zero]
  rw [s_seq, s_if]
  simp [i1, l0, o1, m1, n1, g2]
  simp [k1, i2, l0, k2, o2, m2, n2, nn]
theorem rest32_ok {s : PyData} {z : Int} {B : Bag} {P : List Nat} {v : Nat} {x y up : Frm} {b : Bool} {c10 c11 : Cel} (hn : Sz ns) (hP : inP ns.length P) (hv : v < 3) (X : TOK ns 8 60 x) (Y : TOK ns 8 60 y) (U : TOK ns 8 60 up) (ok : B.TOk) (nB : B.n ≤ 800000) (h10 : c10.own = false) (h11 : c11.own = false) :
    ∃ (B' : Bag) (u' l' c10' c11' : Cel), rest32 [.pl s, .pl (.int z), .ow B.D, .pl (nsD ns), .pl (nsD P), .pl (nD v), .pl x.D, .pl y.D, .pl up.D, .pl (Frm.say b).D, c10, c11] = some (.nx [.pl s, .pl (.int z), .ow B'.D, .pl (nsD ns), .pl (nsD P), .pl (nD v), .pl x.D, .pl y.D, u', l', c10', c11']) ∧ u'.own = false ∧ l'.own = false ∧ c10'.own = false ∧ c11'.own = false := by
  have S : TOK ns 8 60 (.say b) := ⟨.say b, by rw [Frm.Ok]; trivial, by rw [Frm.dp] <;> simp, by rw [Frm.sz] <;> simp⟩
  have e1 : eqM (nD v) (.int 1) = some (.bool (v == 1)) := e_eq_n (a := v) (b := 1)
  have e2 : eqM (nD v) (.int 2) = some (.bool (v == 2)) := e_eq_n (a := v) (b := 2)
  unfold rest32
  by_cases v1 : v = 1
  · obtain ⟨c10', c11', e, h1, h2⟩ := tail32_ok (s := s) (z := z) (B := B) (P := P) (v := v) hn X Y S U h10 h11
    refine ⟨B, .pl (Frm.say b).D, .pl up.D, c10', c11', ?_, rfl, rfl, h1, h2⟩
    · have z2 : (v == 2) = false := by subst v1; rfl
      have z1 : (v == 1) = true := by subst v1; rfl
      rw [z1] at e1
      rw [z2] at e2
      generalize x.D = XD at e ⊢
      generalize y.D = YD at e ⊢
      generalize up.D = UD at e ⊢
      generalize (Frm.say b).D = SD at e ⊢
      generalize nD v = VD at e e1 e2 ⊢
      generalize nsD ns = ND at e ⊢
      generalize nsD P = PD at e ⊢
      rw [s_seq, s_if]
      simp only [s_bind, e_opT, e_bind, e_V, List.getElem?_cons_zero, List.getElem?_cons_succ, e_ret, e1, e_lift_some, Option.bind_some, e_asBool, if_true]
      simp [e2]
      exact e
  · have z1 : (v == 1) = false := by simpa using v1
    rw [z1] at e1
    by_cases v2 : v = 2
    · have z2 : (v == 2) = true := by subst v2; rfl
      rw [z2] at e2
      obtain ⟨w, B', L', ew, K, sw, okw, nw⟩ := g_ttree_ok hn hP (k := FU) (lv := 1) (B := B) (L := 39) (by decide) (by show 8 - 1 < 60; decide) ok (by omega)
      have W : TOK ns 8 60 w := ⟨K.t, K.ok, by have := K.dp; omega, by omega⟩
      obtain ⟨c10', c11', e, h1, h2⟩ := tail32_ok (s := s) (z := z) (B := B') (P := P) (v := v) hn X Y U W h10 h11
      refine ⟨B', .pl up.D, .pl w.D, c10', c11', ?_, rfl, rfl, h1, h2⟩
      · have ew : g_law_tree_95268 FU B.D [.int 39] [nsD ns, nsD P, .int 1] = some (w.D, B'.D, [nD L']) := ew
        generalize x.D = XD at e ⊢
        generalize y.D = YD at e ⊢
        generalize up.D = UD at e ⊢
        generalize (Frm.say b).D = SD at e ⊢
        generalize w.D = WD at e ew
        generalize nD v = VD at e e1 e2 ⊢
        generalize nsD ns = ND at e ew ⊢
        generalize nsD P = PD at e ew ⊢
        rw [s_seq, s_if]
        simp only [s_bind, e_opT, e_bind, e_V, List.getElem?_cons_zero, List.getElem?_cons_succ, e_ret, e1, e_lift_some, Option.bind_some, e_asBool, if_true, Bool.false_eq_true, if_false, s_nil]
        rw [s_seq, s_if]
        simp only [s_bind, e_opT, e_bind, e_V, List.getElem?_cons_zero, List.getElem?_cons_succ, e_ret, e2, e_lift_some, Option.bind_some, e_asBool, if_true]
        rw [s_setT (i := 9) (d := WD) (c := .pl SD) (r' := [.pl s, .pl (.int z), .ow B'.D, .pl ND, .pl PD, .pl VD, .pl XD, .pl YD, .pl UD, .pl SD, c10, c11]) (by simp [ew]) rfl rfl]
        dsimp only [List.set_cons_succ, List.set_cons_zero]
        exact e
    · have z2 : (v == 2) = false := by simpa using v2
      rw [z2] at e2
      obtain ⟨c10', c11', e, h1, h2⟩ := tail32_ok (s := s) (z := z) (B := B) (P := P) (v := v) hn X Y U S h10 h11
      refine ⟨B, .pl up.D, .pl (Frm.say b).D, c10', c11', ?_, rfl, rfl, h1, h2⟩
      · generalize x.D = XD at e ⊢
        generalize y.D = YD at e ⊢
        generalize up.D = UD at e ⊢
        generalize (Frm.say b).D = SD at e ⊢
        generalize nD v = VD at e e1 e2 ⊢
        generalize nsD ns = ND at e ⊢
        generalize nsD P = PD at e ⊢
        rw [s_seq, s_if]
        simp only [s_bind, e_opT, e_bind, e_V, List.getElem?_cons_zero, List.getElem?_cons_succ, e_ret, e1, e_lift_some, Option.bind_some, e_asBool, if_true, Bool.false_eq_true, if_false, s_nil]
        rw [s_seq, s_if]
        simp only [s_bind, e_opT, e_bind, e_V, List.getElem?_cons_zero, List.getElem?_cons_succ, e_ret, e2, e_lift_some, Option.bind_some, e_asBool, if_true, Bool.false_eq_true, if_false, s_nil]
        exact e
abbrev Own32 (c3 c4 c5 c6 c7 c8 c9 c10 c11 : Cel) : Prop := c3.own = false ∧ c4.own = false ∧ c5.own = false ∧ c6.own = false ∧ c7.own = false ∧ c8.own = false ∧ c9.own = false ∧ c10.own = false ∧ c11.own = false
theorem a32_ok {s : PyData} {z : Int} {c2 c3 c4 c5 c6 c7 c8 c9 c10 c11 : Cel} (hz : BitsI z) (h2 : c2.isIo = false) (hO : Own32 c3 c4 c5 c6 c7 c8 c9 c10 c11) :
    ∃ (c2' c3' c4' c5' c6' c7' c8' c9' c10' c11' : Cel), a32 [.pl s, .pl (.int z), c2, c3, c4, c5, c6, c7, c8, c9, c10, c11] = some (.nx [.pl s, .pl (.int z), c2', c3', c4', c5', c6', c7', c8', c9', c10', c11']) ∧ c2'.isIo = false ∧ Own32 c3' c4' c5' c6' c7' c8' c9' c10' c11' := by
  obtain ⟨h3, h4, h5, h6, h7, h8, h9, h10, h11⟩ := hO
  obtain ⟨B1, e1, ok1, n1⟩ := g_tbag_ok hz
  obtain ⟨ns, B2, e2, hn, ok2, n2⟩ := g_tsheet_ok ok1 (by omega)
  obtain ⟨P, B3, e3, hP, ok3, n3⟩ := g_tpool_ok ok2 (by omega) hn
  obtain ⟨v, B4, e4, hv, ok4, n4⟩ := g_tdraw_ok (m := 3) ok3 (by omega) (by omega) (by omega)
  obtain ⟨x, B5, L5, e5, K5, s5, ok5, n5⟩ := g_ttree_ok hn hP (k := FU) (lv := 1) (L := 59) (by decide) (by show 8 - 1 < 60; decide) ok4 (by omega)
  obtain ⟨y, B6, L6, e6, K6, s6, ok6, n6⟩ := g_ttree_ok hn hP (k := FU) (lv := 1) (L := 24) (by decide) (by show 8 - 1 < 60; decide) ok5 (by omega)
  obtain ⟨u, B7, L7, e7, K7, s7, ok7, n7⟩ := g_ttree_ok hn hP (k := FU) (lv := 1) (L := 39) (by decide) (by show 8 - 1 < 60; decide) ok6 (by omega)
  obtain ⟨w, B8, e8, hw, ok8, n8⟩ := g_tdraw_ok (m := 2) ok7 (by omega) (by omega) (by omega)
  have X : TOK ns 8 60 x := ⟨K5.t, K5.ok, by have := K5.dp; omega, by omega⟩
  have Y : TOK ns 8 60 y := ⟨K6.t, K6.ok, by have := K6.dp; omega, by omega⟩
  have U : TOK ns 8 60 u := ⟨K7.t, K7.ok, by have := K7.dp; omega, by omega⟩
  obtain ⟨B9, u', l', c10', c11', e9, hu', hl', h10', h11'⟩ := rest32_ok (s := s) (z := z) (b := w == 1) hn hP hv X Y U ok8 (by omega) h10 h11
  refine ⟨.ow B9.D, .pl (nsD ns), .pl (nsD P), .pl (nD v), .pl x.D, .pl y.D, u', l', c10', c11', ?_, rfl, rfl, rfl, rfl, rfl, rfl, hu', hl', h10', h11'⟩
  have e4 : g_law_draw_80bbd B3.D [.int 3] = some (nD v, B4.D) := e4
  have e5 : g_law_tree_95268 FU B4.D [.int 59] [nsD ns, nsD P, .int 1] = _ := e5
  have e6 : g_law_tree_95268 FU B5.D [.int 24] [nsD ns, nsD P, .int 1] = _ := e6
  have e7 : g_law_tree_95268 FU B6.D [.int 39] [nsD ns, nsD P, .int 1] = _ := e7
  have e8 : g_law_draw_80bbd B7.D [.int 2] = some (nD w, B8.D) := e8
  have w1 : eqM (nD w) (.int 1) = some (.bool (w == 1)) := e_eq_n (a := w) (b := 1)
  have tp : tupM [.str "say", .bool (w == 1)] = some (Frm.say (w == 1)).D := by rw [Frm.D]; rfl
  unfold a32
  rw [s_seq, show sSetQ 2 (mCallQ g_q_law_bag_0df30 (mCons (mV 1) mNil)) [.pl s, .pl (.int z), c2, c3, c4, c5, c6, c7, c8, c9, c10, c11] = some (.nx [.pl s, .pl (.int z), .ow B1.D, c3, c4, c5, c6, c7, c8, c9, c10, c11]) by
    rw [s_setQ, s_bind]
    simp only [e_callQ, e_bind, e_cons, e_V, List.getElem?_cons_zero, List.getElem?_cons_succ, e_nil, e_ret, e_lift_some, e1]
    rw [put2T (c := c2) rfl h2]
    rfl]
  dsimp only
  generalize x.D = XD at e5 e9 ⊢
  generalize y.D = YD at e6 e9 ⊢
  generalize u.D = UD at e7 e9 ⊢
  generalize (Frm.say (w == 1)).D = SD at tp e9
  generalize nD v = VD at e4 e9 ⊢
  generalize nsD ns = ND at e2 e3 e5 e6 e7 e9 ⊢
  generalize nsD P = PD at e3 e5 e6 e7 e9 ⊢
  rw [s_seq, s_setT (i := 3) (d := ND) (c := c3) (r' := [.pl s, .pl (.int z), .ow B2.D, c3, c4, c5, c6, c7, c8, c9, c10, c11]) (by simp [e2]) rfl h3]
  dsimp only [List.set_cons_succ, List.set_cons_zero]
  rw [s_seq, s_setT (i := 4) (d := PD) (c := c4) (r' := [.pl s, .pl (.int z), .ow B3.D, .pl ND, c4, c5, c6, c7, c8, c9, c10, c11]) (by simp [e3]) rfl h4]
  dsimp only [List.set_cons_succ, List.set_cons_zero]
  rw [s_seq, s_setT (i := 5) (d := VD) (c := c5) (r' := [.pl s, .pl (.int z), .ow B4.D, .pl ND, .pl PD, c5, c6, c7, c8, c9, c10, c11]) (by simp [e4]) rfl h5]
  dsimp only [List.set_cons_succ, List.set_cons_zero]
  rw [s_seq, s_setT (i := 6) (d := XD) (c := c6) (r' := [.pl s, .pl (.int z), .ow B5.D, .pl ND, .pl PD, .pl VD, c6, c7, c8, c9, c10, c11]) (by simp [e5]) rfl h6]
  dsimp only [List.set_cons_succ, List.set_cons_zero]
  rw [s_seq, s_setT (i := 7) (d := YD) (c := c7) (r' := [.pl s, .pl (.int z), .ow B6.D, .pl ND, .pl PD, .pl VD, .pl XD, c7, c8, c9, c10, c11]) (by simp [e6]) rfl h7]
  dsimp only [List.set_cons_succ, List.set_cons_zero]
  rw [s_seq, s_setT (i := 8) (d := UD) (c := c8) (r' := [.pl s, .pl (.int z), .ow B7.D, .pl ND, .pl PD, .pl VD, .pl XD, .pl YD, c8, c9, c10, c11]) (by simp [e7]) rfl h8]
  dsimp only [List.set_cons_succ, List.set_cons_zero]
  rw [s_seq, s_setT (i := 9) (d := SD) (c := c9) (r' := [.pl s, .pl (.int z), .ow B8.D, .pl ND, .pl PD, .pl VD, .pl XD, .pl YD, .pl UD, c9, c10, c11]) (by simp [e8, w1, tp]) rfl h9]
  dsimp only [List.set_cons_succ, List.set_cons_zero]
  exact e9
theorem true_k32 (l : List Int) (hl : l.length ≤ 63) (hb : ∀ z ∈ l, Builtin.Int.intBits z ≤ 1048576) : g_law_k32 [.list (l.map PyData.int)] = some (.bool true) := by
  have sp : v_law_k32 = (sSeq (sFor (mSeq (mOp2 addM (mNew (mLst (mCons (M.ret (.int 0)) mNil))) (mNew (mSlice (mV 0) mNoPart (mPart (M.ret (.int 8))))))) (gN 1) a32) (sRet (M.ret (.bool true)))) := rfl
  rw [r_law_k32, sp]
  have b0 : BitsI 0 := by unfold BitsI; decide
  have ad : addM (.list [.int 0]) (.list ((l.take 8).map PyData.int)) = some (.list ((0 :: l.take 8).map PyData.int)) := by
    have := e_addL (ds := [PyData.int 0]) (es := (l.take 8).map PyData.int) (by simp; omega)
    rw [this]
    rfl
  have cu : cutD (l.map PyData.int) none (some 8) = (l.take 8).map PyData.int := by
    have := cutTo96 (l := l.map PyData.int) (k := 8)
    rw [List.map_take]
    exact this
  obtain ⟨r2, e, c1, c2, c3, c4, c5, c6, c7, c8, c9, c10, c11, rfl, _⟩ := for_i (g := gN 1) (b := a32) PyData.int
    (fun xs r => ∃ (c1 c2 c3 c4 c5 c6 c7 c8 c9 c10 c11 : Cel), r = [.pl (.list (l.map PyData.int)), c1, c2, c3, c4, c5, c6, c7, c8, c9, c10, c11] ∧ c1.own = false ∧ c2.isIo = false ∧ Own32 c3 c4 c5 c6 c7 c8 c9 c10 c11 ∧ ∀ z ∈ xs, BitsI z)
    (xs := 0 :: l.take 8) (r := [.pl (.list (l.map PyData.int)), .un, .un, .un, .un, .un, .un, .un, .un, .un, .un, .un]) ⟨.un, .un, .un, .un, .un, .un, .un, .un, .un, .un, .un, rfl, rfl, rfl, ⟨rfl, rfl, rfl, rfl, rfl, rfl, rfl, rfl, rfl⟩, fun z hz => by
      rcases List.mem_cons.mp hz with e | hz
      · rw [e]; exact b0
      · exact hb z (List.mem_of_mem_take hz)⟩ (by
      rintro z xs r ⟨c1, c2, c3, c4, c5, c6, c7, c8, c9, c10, c11, rfl, h1, h2, hO, hx⟩
      obtain ⟨c2', c3', c4', c5', c6', c7', c8', c9', c10', c11', e, g2, gO⟩ := a32_ok (s := .list (l.map PyData.int)) (hx z List.mem_cons_self) h2 hO
      exact ⟨[.pl (.list (l.map PyData.int)), .pl (.int z), c2, c3, c4, c5, c6, c7, c8, c9, c10, c11], _, by simp [h1], e, .pl (.int z), c2', c3', c4', c5', c6', c7', c8', c9', c10', c11', rfl, rfl, g2, gO, fun w h => hx w (List.mem_cons_of_mem _ h)⟩)
  have l1 : ∀ p : PyData, lstM [p] = some [p] := fun _ => rfl
  generalize (0 :: l.take 8).map PyData.int = Cs at ad e
  simp [-List.map_take, l1, cu, ad, e]
end DL
namespace DL
open PySem PySem.Spec PyProof.Rows L2 Lk
theorem all_mk {l : PySem.W.OpenLaw} {w : World} {K : PySem.W.Frag} {h : Heap} {mg : Str → Option Value} {fa : Addr} (X : K.In h) (G : h.Ns mainGlobals mg) (hfa : mg "law" = some (.ref fa))
    {f0 : Addr} {od0 an0 : Option Addr} {sl0 : Array (Option Value)} {oc0 kV0 dc0 pm0 cd0 ct0 : Value}
    {f1 : Addr} {od1 an1 : Option Addr} {sl1 : Array (Option Value)} {oc1 kV1 dc1 pm1 cd1 ct1 : Value}
    {f2 : Addr} {od2 an2 : Option Addr} {sl2 : Array (Option Value)} {oc2 kV2 dc2 pm2 cd2 ct2 : Value}
    {f3 : Addr} {od3 an3 : Option Addr} {sl3 : Array (Option Value)} {oc3 kV3 dc3 pm3 cd3 ct3 : Value}
    {f4 : Addr} {od4 an4 : Option Addr} {sl4 : Array (Option Value)} {oc4 kV4 dc4 pm4 cd4 ct4 : Value}
    {f5 : Addr} {od5 an5 : Option Addr} {sl5 : Array (Option Value)} {oc5 kV5 dc5 pm5 cd5 ct5 : Value}
    {f6 : Addr} {od6 an6 : Option Addr} {sl6 : Array (Option Value)} {oc6 kV6 dc6 pm6 cd6 ct6 : Value}
    {f7 : Addr} {od7 an7 : Option Addr} {sl7 : Array (Option Value)} {oc7 kV7 dc7 pm7 cd7 ct7 : Value}
    {f8 : Addr} {od8 an8 : Option Addr} {sl8 : Array (Option Value)} {oc8 kV8 dc8 pm8 cd8 ct8 : Value}
    {f9 : Addr} {od9 an9 : Option Addr} {sl9 : Array (Option Value)} {oc9 kV9 dc9 pm9 cd9 ct9 : Value}
    {f10 : Addr} {od10 an10 : Option Addr} {sl10 : Array (Option Value)} {oc10 kV10 dc10 pm10 cd10 ct10 : Value}
    {f11 : Addr} {od11 an11 : Option Addr} {sl11 : Array (Option Value)} {oc11 kV11 dc11 pm11 cd11 ct11 : Value}
    {f12 : Addr} {od12 an12 : Option Addr} {sl12 : Array (Option Value)} {oc12 kV12 dc12 pm12 cd12 ct12 : Value}
    {f13 : Addr} {od13 an13 : Option Addr} {sl13 : Array (Option Value)} {oc13 kV13 dc13 pm13 cd13 ct13 : Value}
    {f14 : Addr} {od14 an14 : Option Addr} {sl14 : Array (Option Value)} {oc14 kV14 dc14 pm14 cd14 ct14 : Value}
    {f15 : Addr} {od15 an15 : Option Addr} {sl15 : Array (Option Value)} {oc15 kV15 dc15 pm15 cd15 ct15 : Value}
    {f16 : Addr} {od16 an16 : Option Addr} {sl16 : Array (Option Value)} {oc16 kV16 dc16 pm16 cd16 ct16 : Value}
    {f17 : Addr} {od17 an17 : Option Addr} {sl17 : Array (Option Value)} {oc17 kV17 dc17 pm17 cd17 ct17 : Value}
    {f18 : Addr} {od18 an18 : Option Addr} {sl18 : Array (Option Value)} {oc18 kV18 dc18 pm18 cd18 ct18 : Value}
    {f19 : Addr} {od19 an19 : Option Addr} {sl19 : Array (Option Value)} {oc19 kV19 dc19 pm19 cd19 ct19 : Value}
    {f20 : Addr} {od20 an20 : Option Addr} {sl20 : Array (Option Value)} {oc20 kV20 dc20 pm20 cd20 ct20 : Value}
    {f21 : Addr} {od21 an21 : Option Addr} {sl21 : Array (Option Value)} {oc21 kV21 dc21 pm21 cd21 ct21 : Value}
    {f22 : Addr} {od22 an22 : Option Addr} {sl22 : Array (Option Value)} {oc22 kV22 dc22 pm22 cd22 ct22 : Value}
    {f23 : Addr} {od23 an23 : Option Addr} {sl23 : Array (Option Value)} {oc23 kV23 dc23 pm23 cd23 ct23 : Value}
    {f24 : Addr} {od24 an24 : Option Addr} {sl24 : Array (Option Value)} {oc24 kV24 dc24 pm24 cd24 ct24 : Value}
    {f25 : Addr} {od25 an25 : Option Addr} {sl25 : Array (Option Value)} {oc25 kV25 dc25 pm25 cd25 ct25 : Value}
    {f26 : Addr} {od26 an26 : Option Addr} {sl26 : Array (Option Value)} {oc26 kV26 dc26 pm26 cd26 ct26 : Value}
    {f27 : Addr} {od27 an27 : Option Addr} {sl27 : Array (Option Value)} {oc27 kV27 dc27 pm27 cd27 ct27 : Value}
    {f28 : Addr} {od28 an28 : Option Addr} {sl28 : Array (Option Value)} {oc28 kV28 dc28 pm28 cd28 ct28 : Value}
    {f29 : Addr} {od29 an29 : Option Addr} {sl29 : Array (Option Value)} {oc29 kV29 dc29 pm29 cd29 ct29 : Value}
    {f30 : Addr} {od30 an30 : Option Addr} {sl30 : Array (Option Value)} {oc30 kV30 dc30 pm30 cd30 ct30 : Value}
    {f31 : Addr} {od31 an31 : Option Addr} {sl31 : Array (Option Value)} {oc31 kV31 dc31 pm31 cd31 ct31 : Value}
    {f32 : Addr} {od32 an32 : Option Addr} {sl32 : Array (Option Value)} {oc32 kV32 dc32 pm32 cd32 ct32 : Value}
    {f33 : Addr} {od33 an33 : Option Addr} {sl33 : Array (Option Value)} {oc33 kV33 dc33 pm33 cd33 ct33 : Value}
    {f34 : Addr} {od34 an34 : Option Addr} {sl34 : Array (Option Value)} {oc34 kV34 dc34 pm34 cd34 ct34 : Value}
    {f35 : Addr} {od35 an35 : Option Addr} {sl35 : Array (Option Value)} {oc35 kV35 dc35 pm35 cd35 ct35 : Value}
    {f36 : Addr} {od36 an36 : Option Addr} {sl36 : Array (Option Value)} {oc36 kV36 dc36 pm36 cd36 ct36 : Value}
    {f37 : Addr} {od37 an37 : Option Addr} {sl37 : Array (Option Value)} {oc37 kV37 dc37 pm37 cd37 ct37 : Value}
    {f38 : Addr} {od38 an38 : Option Addr} {sl38 : Array (Option Value)} {oc38 kV38 dc38 pm38 cd38 ct38 : Value}
    {f39 : Addr} {od39 an39 : Option Addr} {sl39 : Array (Option Value)} {oc39 kV39 dc39 pm39 cd39 ct39 : Value}
    {f40 : Addr} {od40 an40 : Option Addr} {sl40 : Array (Option Value)} {oc40 kV40 dc40 pm40 cd40 ct40 : Value}
    {f41 : Addr} {od41 an41 : Option Addr} {sl41 : Array (Option Value)} {oc41 kV41 dc41 pm41 cd41 ct41 : Value}
    {f42 : Addr} {od42 an42 : Option Addr} {sl42 : Array (Option Value)} {oc42 kV42 dc42 pm42 cd42 ct42 : Value}
    {t0 : Tok}
    {t1 : Tok}
    {t2 : Tok}
    {t3 : Tok}
    {tj0 : Addr} {odj0 : Option Addr} {nj0 : Nat} {slj0 : Array (Option Value)} {u0_0 u0_1 u0_2 : Tok}
    {tj1 : Addr} {odj1 : Option Addr} {nj1 : Nat} {slj1 : Array (Option Value)} {u1_0 u1_1 : Tok}
    (a0 : PySem.W.nsIn K mainGlobals "is_integer" = some (some (.ref f0))) (l0 : K.lookup f0 = some ⟨oc0, od0, .func (PySem.W.fnOf "is_integer" "is_integer" (defArgs s_is_integer) (defBody s_is_integer) (defScope s_is_integer) .none kV0 dc0 pm0 an0 cd0 ct0), sl0⟩)
    (c0 : PySem.W.codeIn K cd0 "is_integer" = true) (k0 : PySem.W.keepIn K (.ref f0) = true)
    (a1 : PySem.W.nsIn K mainGlobals "is_sizes" = some (some (.ref f1))) (l1 : K.lookup f1 = some ⟨oc1, od1, .func (PySem.W.fnOf "is_sizes" "is_sizes" (defArgs s_is_sizes) (defBody s_is_sizes) (defScope s_is_sizes) .none kV1 dc1 pm1 an1 cd1 ct1), sl1⟩)
    (c1 : PySem.W.codeIn K cd1 "is_sizes" = true) (k1 : PySem.W.keepIn K (.ref f1) = true)
    (a2 : PySem.W.nsIn K mainGlobals "check_sizes" = some (some (.ref f2))) (l2 : K.lookup f2 = some ⟨oc2, od2, .func (PySem.W.fnOf "check_sizes" "check_sizes" (defArgs s_check_sizes) (defBody s_check_sizes) (defScope s_check_sizes) .none kV2 dc2 pm2 an2 cd2 ct2), sl2⟩)
    (c2 : PySem.W.codeIn K cd2 "check_sizes" = true) (k2 : PySem.W.keepIn K (.ref f2) = true)
    (a3 : PySem.W.nsIn K mainGlobals "inner_forms" = some (some (.ref f3))) (l3 : K.lookup f3 = some ⟨oc3, od3, .func (PySem.W.fnOf "inner_forms" "inner_forms" (defArgs s_inner_forms) (defBody s_inner_forms) (defScope s_inner_forms) .none kV3 dc3 pm3 an3 cd3 ct3), sl3⟩)
    (c3 : PySem.W.codeIn K cd3 "inner_forms" = true) (k3 : PySem.W.keepIn K (.ref f3) = true)
    (a4 : PySem.W.nsIn K mainGlobals "all_forms" = some (some (.ref f4))) (l4 : K.lookup f4 = some ⟨oc4, od4, .func (PySem.W.fnOf "all_forms" "all_forms" (defArgs s_all_forms) (defBody s_all_forms) (defScope s_all_forms) .none kV4 dc4 pm4 an4 cd4 ct4), sl4⟩)
    (c4 : PySem.W.codeIn K cd4 "all_forms" = true) (k4 : PySem.W.keepIn K (.ref f4) = true)
    (a5 : PySem.W.nsIn K mainGlobals "has_plain_words" = some (some (.ref f5))) (l5 : K.lookup f5 = some ⟨oc5, od5, .func (PySem.W.fnOf "has_plain_words" "has_plain_words" (defArgs s_has_plain_words) (defBody s_has_plain_words) (defScope s_has_plain_words) .none kV5 dc5 pm5 an5 cd5 ct5), sl5⟩)
    (c5 : PySem.W.codeIn K cd5 "has_plain_words" = true) (k5 : PySem.W.keepIn K (.ref f5) = true)
    (a6 : PySem.W.nsIn K mainGlobals "number_of_cases" = some (some (.ref f6))) (l6 : K.lookup f6 = some ⟨oc6, od6, .func (PySem.W.fnOf "number_of_cases" "number_of_cases" (defArgs s_number_of_cases) (defBody s_number_of_cases) (defScope s_number_of_cases) .none kV6 dc6 pm6 an6 cd6 ct6), sl6⟩)
    (c6 : PySem.W.codeIn K cd6 "number_of_cases" = true) (k6 : PySem.W.keepIn K (.ref f6) = true)
    (a7 : PySem.W.nsIn K mainGlobals "is_small_sheet" = some (some (.ref f7))) (l7 : K.lookup f7 = some ⟨oc7, od7, .func (PySem.W.fnOf "is_small_sheet" "is_small_sheet" (defArgs s_is_small_sheet) (defBody s_is_small_sheet) (defScope s_is_small_sheet) .none kV7 dc7 pm7 an7 cd7 ct7), sl7⟩)
    (c7 : PySem.W.codeIn K cd7 "is_small_sheet" = true) (k7 : PySem.W.keepIn K (.ref f7) = true)
    (a8 : PySem.W.nsIn K mainGlobals "_is_tuple_of" = some (some (.ref f8))) (l8 : K.lookup f8 = some ⟨oc8, od8, .func (PySem.W.fnOf "_is_tuple_of" "_is_tuple_of" (defArgs s_p_is_tuple_of) (defBody s_p_is_tuple_of) (defScope s_p_is_tuple_of) .none kV8 dc8 pm8 an8 cd8 ct8), sl8⟩)
    (c8 : PySem.W.codeIn K cd8 "_is_tuple_of" = true) (k8 : PySem.W.keepIn K (.ref f8) = true)
    (a9 : PySem.W.nsIn K mainGlobals "_is_results" = some (some (.ref f9))) (l9 : K.lookup f9 = some ⟨oc9, od9, .func (PySem.W.fnOf "_is_results" "_is_results" (defArgs s_p_is_results) (defBody s_p_is_results) (defScope s_p_is_results) .none kV9 dc9 pm9 an9 cd9 ct9), sl9⟩)
    (c9 : PySem.W.codeIn K cd9 "_is_results" = true) (k9 : PySem.W.keepIn K (.ref f9) = true)
    (a10 : PySem.W.nsIn K mainGlobals "_is_short_form_outside" = some (some (.ref f10))) (l10 : K.lookup f10 = some ⟨oc10, od10, .func (PySem.W.fnOf "_is_short_form_outside" "_is_short_form_outside" (defArgs s_p_is_short_form_outside) (defBody s_p_is_short_form_outside) (defScope s_p_is_short_form_outside) .none kV10 dc10 pm10 an10 cd10 ct10), sl10⟩)
    (c10 : PySem.W.codeIn K cd10 "_is_short_form_outside" = true) (k10 : PySem.W.keepIn K (.ref f10) = true)
    (a11 : PySem.W.nsIn K mainGlobals "is_integer_below" = some (some (.ref f11))) (l11 : K.lookup f11 = some ⟨oc11, od11, .func (PySem.W.fnOf "is_integer_below" "is_integer_below" (defArgs s_is_integer_below) (defBody s_is_integer_below) (defScope s_is_integer_below) .none kV11 dc11 pm11 an11 cd11 ct11), sl11⟩)
    (c11 : PySem.W.codeIn K cd11 "is_integer_below" = true) (k11 : PySem.W.keepIn K (.ref f11) = true)
    (a12 : PySem.W.nsIn K mainGlobals "are_ascending_below" = some (some (.ref f12))) (l12 : K.lookup f12 = some ⟨oc12, od12, .func (PySem.W.fnOf "are_ascending_below" "are_ascending_below" (defArgs s_are_ascending_below) (defBody s_are_ascending_below) (defScope s_are_ascending_below) .none kV12 dc12 pm12 an12 cd12 ct12), sl12⟩)
    (c12 : PySem.W.codeIn K cd12 "are_ascending_below" = true) (k12 : PySem.W.keepIn K (.ref f12) = true)
    (a13 : PySem.W.nsIn K mainGlobals "_is_test" = some (some (.ref f13))) (l13 : K.lookup f13 = some ⟨oc13, od13, .func (PySem.W.fnOf "_is_test" "_is_test" (defArgs s_p_is_test) (defBody s_p_is_test) (defScope s_p_is_test) .none kV13 dc13 pm13 an13 cd13 ct13), sl13⟩)
    (c13 : PySem.W.codeIn K cd13 "_is_test" = true) (k13 : PySem.W.keepIn K (.ref f13) = true)
    (a14 : PySem.W.nsIn K mainGlobals "_is_condition" = some (some (.ref f14))) (l14 : K.lookup f14 = some ⟨oc14, od14, .func (PySem.W.fnOf "_is_condition" "_is_condition" (defArgs s_p_is_condition) (defBody s_p_is_condition) (defScope s_p_is_condition) .none kV14 dc14 pm14 an14 cd14 ct14), sl14⟩)
    (c14 : PySem.W.codeIn K cd14 "_is_condition" = true) (k14 : PySem.W.keepIn K (.ref f14) = true)
    (a15 : PySem.W.nsIn K mainGlobals "is_conditions" = some (some (.ref f15))) (l15 : K.lookup f15 = some ⟨oc15, od15, .func (PySem.W.fnOf "is_conditions" "is_conditions" (defArgs s_is_conditions) (defBody s_is_conditions) (defScope s_is_conditions) .none kV15 dc15 pm15 an15 cd15 ct15), sl15⟩)
    (c15 : PySem.W.codeIn K cd15 "is_conditions" = true) (k15 : PySem.W.keepIn K (.ref f15) = true)
    (a16 : PySem.W.nsIn K mainGlobals "_is_rule" = some (some (.ref f16))) (l16 : K.lookup f16 = some ⟨oc16, od16, .func (PySem.W.fnOf "_is_rule" "_is_rule" (defArgs s_p_is_rule) (defBody s_p_is_rule) (defScope s_p_is_rule) .none kV16 dc16 pm16 an16 cd16 ct16), sl16⟩)
    (c16 : PySem.W.codeIn K cd16 "_is_rule" = true) (k16 : PySem.W.keepIn K (.ref f16) = true)
    (a17 : PySem.W.nsIn K mainGlobals "_is_rules" = some (some (.ref f17))) (l17 : K.lookup f17 = some ⟨oc17, od17, .func (PySem.W.fnOf "_is_rules" "_is_rules" (defArgs s_p_is_rules) (defBody s_p_is_rules) (defScope s_p_is_rules) .none kV17 dc17 pm17 an17 cd17 ct17), sl17⟩)
    (c17 : PySem.W.codeIn K cd17 "_is_rules" = true) (k17 : PySem.W.keepIn K (.ref f17) = true)
    (a18 : PySem.W.nsIn K mainGlobals "_are_integers" = some (some (.ref f18))) (l18 : K.lookup f18 = some ⟨oc18, od18, .func (PySem.W.fnOf "_are_integers" "_are_integers" (defArgs s_p_are_integers) (defBody s_p_are_integers) (defScope s_p_are_integers) .none kV18 dc18 pm18 an18 cd18 ct18), sl18⟩)
    (c18 : PySem.W.codeIn K cd18 "_are_integers" = true) (k18 : PySem.W.keepIn K (.ref f18) = true)
    (a19 : PySem.W.nsIn K mainGlobals "_is_weights" = some (some (.ref f19))) (l19 : K.lookup f19 = some ⟨oc19, od19, .func (PySem.W.fnOf "_is_weights" "_is_weights" (defArgs s_p_is_weights) (defBody s_p_is_weights) (defScope s_p_is_weights) .none kV19 dc19 pm19 an19 cd19 ct19), sl19⟩)
    (c19 : PySem.W.codeIn K cd19 "_is_weights" = true) (k19 : PySem.W.keepIn K (.ref f19) = true)
    (a20 : PySem.W.nsIn K mainGlobals "_is_long_form_outside" = some (some (.ref f20))) (l20 : K.lookup f20 = some ⟨oc20, od20, .func (PySem.W.fnOf "_is_long_form_outside" "_is_long_form_outside" (defArgs s_p_is_long_form_outside) (defBody s_p_is_long_form_outside) (defScope s_p_is_long_form_outside) .none kV20 dc20 pm20 an20 cd20 ct20), sl20⟩)
    (c20 : PySem.W.codeIn K cd20 "_is_long_form_outside" = true) (k20 : PySem.W.keepIn K (.ref f20) = true)
    (a21 : PySem.W.nsIn K mainGlobals "_is_form_outside" = some (some (.ref f21))) (l21 : K.lookup f21 = some ⟨oc21, od21, .func (PySem.W.fnOf "_is_form_outside" "_is_form_outside" (defArgs s_p_is_form_outside) (defBody s_p_is_form_outside) (defScope s_p_is_form_outside) .none kV21 dc21 pm21 an21 cd21 ct21), sl21⟩)
    (c21 : PySem.W.codeIn K cd21 "_is_form_outside" = true) (k21 : PySem.W.keepIn K (.ref f21) = true)
    (a22 : PySem.W.nsIn K mainGlobals "has_form_shape" = some (some (.ref f22))) (l22 : K.lookup f22 = some ⟨oc22, od22, .func (PySem.W.fnOf "has_form_shape" "has_form_shape" (defArgs s_has_form_shape) (defBody s_has_form_shape) (defScope s_has_form_shape) .none kV22 dc22 pm22 an22 cd22 ct22), sl22⟩)
    (c22 : PySem.W.codeIn K cd22 "has_form_shape" = true) (k22 : PySem.W.keepIn K (.ref f22) = true)
    (a23 : PySem.W.nsIn K mainGlobals "check_form" = some (some (.ref f23))) (l23 : K.lookup f23 = some ⟨oc23, od23, .func (PySem.W.fnOf "check_form" "check_form" (defArgs s_check_form) (defBody s_check_form) (defScope s_check_form) .none kV23 dc23 pm23 an23 cd23 ct23), sl23⟩)
    (c23 : PySem.W.codeIn K cd23 "check_form" = true) (k23 : PySem.W.keepIn K (.ref f23) = true)
    (a24 : PySem.W.nsIn K mainGlobals "check_tree" = some (some (.ref f24))) (l24 : K.lookup f24 = some ⟨oc24, od24, .func (PySem.W.fnOf "check_tree" "check_tree" (defArgs s_check_tree) (defBody s_check_tree) (defScope s_check_tree) .none kV24 dc24 pm24 an24 cd24 ct24), sl24⟩)
    (c24 : PySem.W.codeIn K cd24 "check_tree" = true) (k24 : PySem.W.keepIn K (.ref f24) = true)
    (a25 : PySem.W.nsIn K mainGlobals "tested" = some (some (.ref f25))) (l25 : K.lookup f25 = some ⟨oc25, od25, .func (PySem.W.fnOf "tested" "tested" (defArgs s_tested) (defBody s_tested) (defScope s_tested) .none kV25 dc25 pm25 an25 cd25 ct25), sl25⟩)
    (c25 : PySem.W.codeIn K cd25 "tested" = true) (k25 : PySem.W.keepIn K (.ref f25) = true)
    (a26 : PySem.W.nsIn K mainGlobals "_with_value" = some (some (.ref f26))) (l26 : K.lookup f26 = some ⟨oc26, od26, .func (PySem.W.fnOf "_with_value" "_with_value" (defArgs s_p_with_value_33504) (defBody s_p_with_value_33504) (defScope s_p_with_value_33504) .none kV26 dc26 pm26 an26 cd26 ct26), sl26⟩)
    (c26 : PySem.W.codeIn K cd26 "_with_value" = true) (k26 : PySem.W.keepIn K (.ref f26) = true)
    (a27 : PySem.W.nsIn K mainGlobals "_trim_below" = some (some (.ref f27))) (l27 : K.lookup f27 = some ⟨oc27, od27, .func (PySem.W.fnOf "_trim_below" "_trim_below" (defArgs s_p_trim_below_8c2fe) (defBody s_p_trim_below_8c2fe) (defScope s_p_trim_below_8c2fe) .none kV27 dc27 pm27 an27 cd27 ct27), sl27⟩)
    (c27 : PySem.W.codeIn K cd27 "_trim_below" = true) (k27 : PySem.W.keepIn K (.ref f27) = true)
    (a28 : PySem.W.nsIn K mainGlobals "trimmed" = some (some (.ref f28))) (l28 : K.lookup f28 = some ⟨oc28, od28, .func (PySem.W.fnOf "trimmed" "trimmed" (defArgs s_trimmed) (defBody s_trimmed) (defScope s_trimmed) .none kV28 dc28 pm28 an28 cd28 ct28), sl28⟩)
    (c28 : PySem.W.codeIn K cd28 "trimmed" = true) (k28 : PySem.W.keepIn K (.ref f28) = true)
    (a29 : PySem.W.nsIn K mainGlobals "_graft_below" = some (some (.ref f29))) (l29 : K.lookup f29 = some ⟨oc29, od29, .func (PySem.W.fnOf "_graft_below" "_graft_below" (defArgs s_p_graft_below) (defBody s_p_graft_below) (defScope s_p_graft_below) .none kV29 dc29 pm29 an29 cd29 ct29), sl29⟩)
    (c29 : PySem.W.codeIn K cd29 "_graft_below" = true) (k29 : PySem.W.keepIn K (.ref f29) = true)
    (a30 : PySem.W.nsIn K mainGlobals "grafted" = some (some (.ref f30))) (l30 : K.lookup f30 = some ⟨oc30, od30, .func (PySem.W.fnOf "grafted" "grafted" (defArgs s_grafted) (defBody s_grafted) (defScope s_grafted) .none kV30 dc30 pm30 an30 cd30 ct30), sl30⟩)
    (c30 : PySem.W.codeIn K cd30 "grafted" = true) (k30 : PySem.W.keepIn K (.ref f30) = true)
    (a31 : PySem.W.nsIn K mainGlobals "_law_bag" = some (some (.ref f31))) (l31 : K.lookup f31 = some ⟨oc31, od31, .func (PySem.W.fnOf "_law_bag" "_law_bag" (defArgs s_law_bag_0df30) (defBody s_law_bag_0df30) (defScope s_law_bag_0df30) .none kV31 dc31 pm31 an31 cd31 ct31), sl31⟩)
    (c31 : PySem.W.codeIn K cd31 "_law_bag" = true) (k31 : PySem.W.keepIn K (.ref f31) = true)
    (a32 : PySem.W.nsIn K mainGlobals "_law_draw" = some (some (.ref f32))) (l32 : K.lookup f32 = some ⟨oc32, od32, .func (PySem.W.fnOf "_law_draw" "_law_draw" (defArgs s_law_draw_80bbd) (defBody s_law_draw_80bbd) (defScope s_law_draw_80bbd) .none kV32 dc32 pm32 an32 cd32 ct32), sl32⟩)
    (c32 : PySem.W.codeIn K cd32 "_law_draw" = true) (k32 : PySem.W.keepIn K (.ref f32) = true)
    (a33 : PySem.W.nsIn K mainGlobals "_law_sheet" = some (some (.ref f33))) (l33 : K.lookup f33 = some ⟨oc33, od33, .func (PySem.W.fnOf "_law_sheet" "_law_sheet" (defArgs s_law_sheet_490db) (defBody s_law_sheet_490db) (defScope s_law_sheet_490db) .none kV33 dc33 pm33 an33 cd33 ct33), sl33⟩)
    (c33 : PySem.W.codeIn K cd33 "_law_sheet" = true) (k33 : PySem.W.keepIn K (.ref f33) = true)
    (a34 : PySem.W.nsIn K mainGlobals "_law_forms" = some (some (.ref f34))) (l34 : K.lookup f34 = some ⟨oc34, od34, .func (PySem.W.fnOf "_law_forms" "_law_forms" (defArgs s_law_forms_3b09a) (defBody s_law_forms_3b09a) (defScope s_law_forms_3b09a) .none kV34 dc34 pm34 an34 cd34 ct34), sl34⟩)
    (c34 : PySem.W.codeIn K cd34 "_law_forms" = true) (k34 : PySem.W.keepIn K (.ref f34) = true)
    (a35 : PySem.W.nsIn K mainGlobals "_law_tree" = some (some (.ref f35))) (l35 : K.lookup f35 = some ⟨oc35, od35, .func (PySem.W.fnOf "_law_tree" "_law_tree" (defArgs s_law_tree_95268) (defBody s_law_tree_95268) (defScope s_law_tree_95268) .none kV35 dc35 pm35 an35 cd35 ct35), sl35⟩)
    (c35 : PySem.W.codeIn K cd35 "_law_tree" = true) (k35 : PySem.W.keepIn K (.ref f35) = true)
    (a36 : PySem.W.nsIn K mainGlobals "_law_pool" = some (some (.ref f36))) (l36 : K.lookup f36 = some ⟨oc36, od36, .func (PySem.W.fnOf "_law_pool" "_law_pool" (defArgs s_law_pool_d95fb) (defBody s_law_pool_d95fb) (defScope s_law_pool_d95fb) .none kV36 dc36 pm36 an36 cd36 ct36), sl36⟩)
    (c36 : PySem.W.codeIn K cd36 "_law_pool" = true) (k36 : PySem.W.keepIn K (.ref f36) = true)
    (a37 : PySem.W.nsIn K mainGlobals "_law_whole" = some (some (.ref f37))) (l37 : K.lookup f37 = some ⟨oc37, od37, .func (PySem.W.fnOf "_law_whole" "_law_whole" (defArgs s_law_whole_61a6b) (defBody s_law_whole_61a6b) (defScope s_law_whole_61a6b) .none kV37 dc37 pm37 an37 cd37 ct37), sl37⟩)
    (c37 : PySem.W.codeIn K cd37 "_law_whole" = true) (k37 : PySem.W.keepIn K (.ref f37) = true)
    (a38 : PySem.W.nsIn K mainGlobals "_law_is_tree" = some (some (.ref f38))) (l38 : K.lookup f38 = some ⟨oc38, od38, .func (PySem.W.fnOf "_law_is_tree" "_law_is_tree" (defArgs s_law_is_tree_84b8a) (defBody s_law_is_tree_84b8a) (defScope s_law_is_tree_84b8a) .none kV38 dc38 pm38 an38 cd38 ct38), sl38⟩)
    (c38 : PySem.W.codeIn K cd38 "_law_is_tree" = true) (k38 : PySem.W.keepIn K (.ref f38) = true)
    (a39 : PySem.W.nsIn K mainGlobals "_law_once" = some (some (.ref f39))) (l39 : K.lookup f39 = some ⟨oc39, od39, .func (PySem.W.fnOf "_law_once" "_law_once" (defArgs s_law_once_a2454) (defBody s_law_once_a2454) (defScope s_law_once_a2454) .none kV39 dc39 pm39 an39 cd39 ct39), sl39⟩)
    (c39 : PySem.W.codeIn K cd39 "_law_once" = true) (k39 : PySem.W.keepIn K (.ref f39) = true)
    (a40 : PySem.W.nsIn K mainGlobals "_law_merged" = some (some (.ref f40))) (l40 : K.lookup f40 = some ⟨oc40, od40, .func (PySem.W.fnOf "_law_merged" "_law_merged" (defArgs s_law_merged_1016b) (defBody s_law_merged_1016b) (defScope s_law_merged_1016b) .none kV40 dc40 pm40 an40 cd40 ct40), sl40⟩)
    (c40 : PySem.W.codeIn K cd40 "_law_merged" = true) (k40 : PySem.W.keepIn K (.ref f40) = true)
    (a41 : PySem.W.nsIn K mainGlobals "_law_graft" = some (some (.ref f41))) (l41 : K.lookup f41 = some ⟨oc41, od41, .func (PySem.W.fnOf "_law_graft" "_law_graft" (defArgs s_law_graft_c3e04) (defBody s_law_graft_c3e04) (defScope s_law_graft_c3e04) .none kV41 dc41 pm41 an41 cd41 ct41), sl41⟩)
    (c41 : PySem.W.codeIn K cd41 "_law_graft" = true) (k41 : PySem.W.keepIn K (.ref f41) = true)
    (a42 : PySem.W.nsIn K mainGlobals "law" = some (some (.ref f42))) (l42 : K.lookup f42 = some ⟨oc42, od42, .func (PySem.W.fnOf "law" "law" (defArgs s_law_k32) (defBody s_law_k32) (defScope s_law_k32) .none kV42 dc42 pm42 an42 cd42 ct42), sl42⟩)
    (c42 : PySem.W.codeIn K cd42 "law" = true) (k42 : PySem.W.keepIn K (.ref f42) = true)
    (n0 : PySem.W.nsIn K mainGlobals "GREATEST_SIZE" = some (some (.int 6 t0)))
    (n1 : PySem.W.nsIn K mainGlobals "LEAST_SIZE" = some (some (.int 2 t1)))
    (n2 : PySem.W.nsIn K mainGlobals "MOST_CASES_OF_SMALL" = some (some (.int 1024 t2)))
    (n3 : PySem.W.nsIn K mainGlobals "MOST_FIELDS" = some (some (.int 24 t3)))
    (aj0 : PySem.W.nsIn K mainGlobals "JOINING_WORDS" = some (some (.ref tj0))) (lj0 : K.lookup tj0 = some ⟨.type "tuple", odj0, .seq #[.str "and" u0_0, .str "or" u0_1, .str "odd" u0_2] nj0, slj0⟩)
    (aj1 : PySem.W.nsIn K mainGlobals "PLAIN_WORDS" = some (some (.ref tj1))) (lj1 : K.lookup tj1 = some ⟨.type "tuple", odj1, .seq #[.str "say" u1_0, .str "tree" u1_1] nj1, slj1⟩)
    (z0 : PySem.W.nsIn K mainGlobals "all" = some none)
    (z1 : PySem.W.nsIn K mainGlobals "bool" = some none)
    (z2 : PySem.W.nsIn K mainGlobals "int" = some none)
    (z3 : PySem.W.nsIn K mainGlobals "isinstance" = some none)
    (z4 : PySem.W.nsIn K mainGlobals "len" = some none)
    (z5 : PySem.W.nsIn K mainGlobals "list" = some none)
    (z6 : PySem.W.nsIn K mainGlobals "range" = some none)
    (z7 : PySem.W.nsIn K mainGlobals "str" = some none)
    (z8 : PySem.W.nsIn K mainGlobals "sum" = some none)
    (z9 : PySem.W.nsIn K mainGlobals "tuple" = some none)
    : ∃ fd : FuncData, (∀ (s : Shared) (v : Value), BindsTo s fd ⟨[v], []⟩ [("script", v)]) ∧ ∀ base : Heap, K.In base → base.Ns mainGlobals mg → Lk.FnG l.prog w K mg base CX0 121 fa fd ["script"] (spLaw K g_law_k32) := by
  have e := hfa.symm.trans (PySem.W.mg_of X G a42)
  cases e
  have F0 := fun_mk (st := s_is_integer) l0 c0 k0
  have g0 := PySem.W.mg_of X G a0
  have b0 := F0.binds (ps := ["value"]) fun _ _ _ _ _ _ us hl => match us, hl with | [_], _ => rfl
  have F1 := fun_mk (st := s_is_sizes) l1 c1 k1
  have g1 := PySem.W.mg_of X G a1
  have b1 := F1.binds (ps := ["value"]) fun _ _ _ _ _ _ us hl => match us, hl with | [_], _ => rfl
  have F2 := fun_mk (st := s_check_sizes) l2 c2 k2
  have g2 := PySem.W.mg_of X G a2
  have b2 := F2.binds (ps := ["sizes"]) fun _ _ _ _ _ _ us hl => match us, hl with | [_], _ => rfl
  have F3 := fun_mk (st := s_inner_forms) l3 c3 k3
  have g3 := PySem.W.mg_of X G a3
  have b3 := F3.binds (ps := ["form"]) fun _ _ _ _ _ _ us hl => match us, hl with | [_], _ => rfl
  have F4 := fun_mk (st := s_all_forms) l4 c4 k4
  have g4 := PySem.W.mg_of X G a4
  have b4 := F4.binds (ps := ["form"]) fun _ _ _ _ _ _ us hl => match us, hl with | [_], _ => rfl
  have F5 := fun_mk (st := s_has_plain_words) l5 c5 k5
  have g5 := PySem.W.mg_of X G a5
  have b5 := F5.binds (ps := ["form"]) fun _ _ _ _ _ _ us hl => match us, hl with | [_], _ => rfl
  have F6 := fun_mk (st := s_number_of_cases) l6 c6 k6
  have g6 := PySem.W.mg_of X G a6
  have b6 := F6.binds (ps := ["sizes"]) fun _ _ _ _ _ _ us hl => match us, hl with | [_], _ => rfl
  have F7 := fun_mk (st := s_is_small_sheet) l7 c7 k7
  have g7 := PySem.W.mg_of X G a7
  have b7 := F7.binds (ps := ["sizes"]) fun _ _ _ _ _ _ us hl => match us, hl with | [_], _ => rfl
  have F8 := fun_mk (st := s_p_is_tuple_of) l8 c8 k8
  have g8 := PySem.W.mg_of X G a8
  have b8 := F8.binds (ps := ["value", "length"]) fun _ _ _ _ _ _ us hl => match us, hl with | [_, _], _ => rfl
  have F9 := fun_mk (st := s_p_is_results) l9 c9 k9
  have g9 := PySem.W.mg_of X G a9
  have b9 := F9.binds (ps := ["sizes", "value"]) fun _ _ _ _ _ _ us hl => match us, hl with | [_, _], _ => rfl
  have F10 := fun_mk (st := s_p_is_short_form_outside) l10 c10 k10
  have g10 := PySem.W.mg_of X G a10
  have b10 := F10.binds (ps := ["sizes", "word", "part"]) fun _ _ _ _ _ _ us hl => match us, hl with | [_, _, _], _ => rfl
  have F11 := fun_mk (st := s_is_integer_below) l11 c11 k11
  have g11 := PySem.W.mg_of X G a11
  have b11 := F11.binds (ps := ["value", "limit"]) fun _ _ _ _ _ _ us hl => match us, hl with | [_, _], _ => rfl
  have F12 := fun_mk (st := s_are_ascending_below) l12 c12 k12
  have g12 := PySem.W.mg_of X G a12
  have b12 := F12.binds (ps := ["values", "limit"]) fun _ _ _ _ _ _ us hl => match us, hl with | [_, _], _ => rfl
  have F13 := fun_mk (st := s_p_is_test) l13 c13 k13
  have g13 := PySem.W.mg_of X G a13
  have b13 := F13.binds (ps := ["sizes", "field", "values"]) fun _ _ _ _ _ _ us hl => match us, hl with | [_, _, _], _ => rfl
  have F14 := fun_mk (st := s_p_is_condition) l14 c14 k14
  have g14 := PySem.W.mg_of X G a14
  have b14 := F14.binds (ps := ["sizes", "value"]) fun _ _ _ _ _ _ us hl => match us, hl with | [_, _], _ => rfl
  have F15 := fun_mk (st := s_is_conditions) l15 c15 k15
  have g15 := PySem.W.mg_of X G a15
  have b15 := F15.binds (ps := ["sizes", "value"]) fun _ _ _ _ _ _ us hl => match us, hl with | [_, _], _ => rfl
  have F16 := fun_mk (st := s_p_is_rule) l16 c16 k16
  have g16 := PySem.W.mg_of X G a16
  have b16 := F16.binds (ps := ["sizes", "value"]) fun _ _ _ _ _ _ us hl => match us, hl with | [_, _], _ => rfl
  have F17 := fun_mk (st := s_p_is_rules) l17 c17 k17
  have g17 := PySem.W.mg_of X G a17
  have b17 := F17.binds (ps := ["sizes", "value"]) fun _ _ _ _ _ _ us hl => match us, hl with | [_, _], _ => rfl
  have F18 := fun_mk (st := s_p_are_integers) l18 c18 k18
  have g18 := PySem.W.mg_of X G a18
  have b18 := F18.binds (ps := ["values"]) fun _ _ _ _ _ _ us hl => match us, hl with | [_], _ => rfl
  have F19 := fun_mk (st := s_p_is_weights) l19 c19 k19
  have g19 := PySem.W.mg_of X G a19
  have b19 := F19.binds (ps := ["sizes", "value"]) fun _ _ _ _ _ _ us hl => match us, hl with | [_, _], _ => rfl
  have F20 := fun_mk (st := s_p_is_long_form_outside) l20 c20 k20
  have g20 := PySem.W.mg_of X G a20
  have b20 := F20.binds (ps := ["sizes", "word", "part", "second_part"]) fun _ _ _ _ _ _ us hl => match us, hl with | [_, _, _, _], _ => rfl
  have F21 := fun_mk (st := s_p_is_form_outside) l21 c21 k21
  have g21 := PySem.W.mg_of X G a21
  have b21 := F21.binds (ps := ["sizes", "value"]) fun _ _ _ _ _ _ us hl => match us, hl with | [_, _], _ => rfl
  have F22 := fun_mk (st := s_has_form_shape) l22 c22 k22
  have g22 := PySem.W.mg_of X G a22
  have b22 := F22.binds (ps := ["sizes", "value"]) fun _ _ _ _ _ _ us hl => match us, hl with | [_, _], _ => rfl
  have F23 := fun_mk (st := s_check_form) l23 c23 k23
  have g23 := PySem.W.mg_of X G a23
  have b23 := F23.binds (ps := ["sizes", "form"]) fun _ _ _ _ _ _ us hl => match us, hl with | [_, _], _ => rfl
  have F24 := fun_mk (st := s_check_tree) l24 c24 k24
  have g24 := PySem.W.mg_of X G a24
  have b24 := F24.binds (ps := ["sizes", "tree"]) fun _ _ _ _ _ _ us hl => match us, hl with | [_, _], _ => rfl
  have F25 := fun_mk (st := s_tested) l25 c25 k25
  have g25 := PySem.W.mg_of X G a25
  have b25 := F25.binds (ps := ["field", "branches"]) fun _ _ _ _ _ _ us hl => match us, hl with | [_, _], _ => rfl
  have F26 := fun_mk (st := s_p_with_value_33504) l26 c26 k26
  have g26 := PySem.W.mg_of X G a26
  have b26 := F26.binds (ps := ["half", "field", "value"]) fun _ _ _ _ _ _ us hl => match us, hl with | [_, _, _], _ => rfl
  have F27 := fun_mk (st := s_p_trim_below_8c2fe) l27 c27 k27
  have g27 := PySem.W.mg_of X G a27
  have b27 := F27.binds (ps := ["tree", "half"]) fun _ _ _ _ _ _ us hl => match us, hl with | [_, _], _ => rfl
  have F28 := fun_mk (st := s_trimmed) l28 c28 k28
  have g28 := PySem.W.mg_of X G a28
  have b28 := F28.binds (ps := ["sizes", "tree"]) fun _ _ _ _ _ _ us hl => match us, hl with | [_, _], _ => rfl
  have F29 := fun_mk (st := s_p_graft_below) l29 c29 k29
  have g29 := PySem.W.mg_of X G a29
  have b29 := F29.binds (ps := ["tree", "upper", "lower"]) fun _ _ _ _ _ _ us hl => match us, hl with | [_, _, _], _ => rfl
  have F30 := fun_mk (st := s_grafted) l30 c30 k30
  have g30 := PySem.W.mg_of X G a30
  have b30 := F30.binds (ps := ["sizes", "tree", "upper", "lower"]) fun _ _ _ _ _ _ us hl => match us, hl with | [_, _, _, _], _ => rfl
  have F31 := fun_mk (st := s_law_bag_0df30) l31 c31 k31
  have g31 := PySem.W.mg_of X G a31
  have b31 := F31.binds (ps := ["cell"]) fun _ _ _ _ _ _ us hl => match us, hl with | [_], _ => rfl
  have F32 := fun_mk (st := s_law_draw_80bbd) l32 c32 k32
  have g32 := PySem.W.mg_of X G a32
  have b32 := F32.binds (ps := ["bag", "many"]) fun _ _ _ _ _ _ us hl => match us, hl with | [_, _], _ => rfl
  have F33 := fun_mk (st := s_law_sheet_490db) l33 c33 k33
  have g33 := PySem.W.mg_of X G a33
  have b33 := F33.binds (ps := ["bag"]) fun _ _ _ _ _ _ us hl => match us, hl with | [_], _ => rfl
  have F34 := fun_mk (st := s_law_forms_3b09a) l34 c34 k34
  have g34 := PySem.W.mg_of X G a34
  have b34 := F34.binds (ps := ["tree"]) fun _ _ _ _ _ _ us hl => match us, hl with | [_], _ => rfl
  have F35 := fun_mk (st := s_law_tree_95268) l35 c35 k35
  have g35 := PySem.W.mg_of X G a35
  have b35 := F35.binds (ps := ["bag", "sheet", "pool", "left", "level"]) fun _ _ _ _ _ _ us hl => match us, hl with | [_, _, _, _, _], _ => rfl
  have F36 := fun_mk (st := s_law_pool_d95fb) l36 c36 k36
  have g36 := PySem.W.mg_of X G a36
  have b36 := F36.binds (ps := ["bag", "sheet"]) fun _ _ _ _ _ _ us hl => match us, hl with | [_, _], _ => rfl
  have F37 := fun_mk (st := s_law_whole_61a6b) l37 c37 k37
  have g37 := PySem.W.mg_of X G a37
  have b37 := F37.binds (ps := ["found"]) fun _ _ _ _ _ _ us hl => match us, hl with | [_], _ => rfl
  have F38 := fun_mk (st := s_law_is_tree_84b8a) l38 c38 k38
  have g38 := PySem.W.mg_of X G a38
  have b38 := F38.binds (ps := ["found"]) fun _ _ _ _ _ _ us hl => match us, hl with | [_], _ => rfl
  have F39 := fun_mk (st := s_law_once_a2454) l39 c39 k39
  have g39 := PySem.W.mg_of X G a39
  have b39 := F39.binds (ps := ["tree", "known"]) fun _ _ _ _ _ _ us hl => match us, hl with | [_, _], _ => rfl
  have F40 := fun_mk (st := s_law_merged_1016b) l40 c40 k40
  have g40 := PySem.W.mg_of X G a40
  have b40 := F40.binds (ps := ["tree"]) fun _ _ _ _ _ _ us hl => match us, hl with | [_], _ => rfl
  have F41 := fun_mk (st := s_law_graft_c3e04) l41 c41 k41
  have g41 := PySem.W.mg_of X G a41
  have b41 := F41.binds (ps := ["tree", "yes", "no"]) fun _ _ _ _ _ _ us hl => match us, hl with | [_, _, _], _ => rfl
  have F42 := fun_mk (st := s_law_k32) l42 c42 k42
  have g42 := PySem.W.mg_of X G a42
  have m_GREATEST_SIZE : ∃ t, mg "GREATEST_SIZE" = some (.int 6 t) := ⟨_, PySem.W.mg_of X G n0⟩
  have m_LEAST_SIZE : ∃ t, mg "LEAST_SIZE" = some (.int 2 t) := ⟨_, PySem.W.mg_of X G n1⟩
  have m_MOST_CASES_OF_SMALL : ∃ t, mg "MOST_CASES_OF_SMALL" = some (.int 1024 t) := ⟨_, PySem.W.mg_of X G n2⟩
  have m_MOST_FIELDS : ∃ t, mg "MOST_FIELDS" = some (.int 24 t) := ⟨_, PySem.W.mg_of X G n3⟩
  have m_JOINING_WORDS : CTup K mg "JOINING_WORDS" c_JOINING_WORDS := ⟨tj0, PySem.W.mg_of X G aj0, fun H => Dq.tup (xs := [.str "and", .str "or", .str "odd"]) (.inr ⟨_, _, _, lj0, rfl, rfl, by show 3 ≤ sizeLine; decide, .cons ⟨_, rfl⟩ (.cons ⟨_, rfl⟩ (.cons ⟨_, rfl⟩ (.nil)))⟩) (.cons (.str _) (.cons (.str _) (.cons (.str _) (.nil))))⟩
  have m_PLAIN_WORDS : CTup K mg "PLAIN_WORDS" c_PLAIN_WORDS := ⟨tj1, PySem.W.mg_of X G aj1, fun H => Dq.tup (xs := [.str "say", .str "tree"]) (.inr ⟨_, _, _, lj1, rfl, rfl, by show 2 ≤ sizeLine; decide, .cons ⟨_, rfl⟩ (.cons ⟨_, rfl⟩ (.nil))⟩) (.cons (.str _) (.cons (.str _) (.nil)))⟩
  have y_all := PySem.W.mg_none_of X G z0
  have y_bool := PySem.W.mg_none_of X G z1
  have y_int := PySem.W.mg_none_of X G z2
  have y_isinstance := PySem.W.mg_none_of X G z3
  have y_len := PySem.W.mg_none_of X G z4
  have y_list := PySem.W.mg_none_of X G z5
  have y_range := PySem.W.mg_none_of X G z6
  have y_str := PySem.W.mg_none_of X G z7
  have y_sum := PySem.W.mg_none_of X G z8
  have y_tuple := PySem.W.mg_none_of X G z9
  refine ⟨PySem.W.fnOf "law" "law" (defArgs s_law_k32) (defBody s_law_k32) (defScope s_law_k32) .none kV42 dc42 pm42 an42 cd42 ct42, fun s v => .of_eq rfl, fun base _ _ => ?_⟩
  have H_is_integer : Has l.prog w K mg base 1 "is_integer" ["value"] (spD K g_is_integer) := t_is_integer (k := 0) F0 b0 g0 y_bool y_int y_isinstance
  have H_is_sizes : Has l.prog w K mg base 2 "is_sizes" ["value"] (spD K g_is_sizes) := t_is_sizes (k := 1) F1 b1 g1 y_all m_GREATEST_SIZE m_LEAST_SIZE m_MOST_FIELDS y_isinstance y_len y_list (H_is_integer.mono (by decide))
  have H_check_sizes : Has l.prog w K mg base 3 "check_sizes" ["sizes"] (spD K g_check_sizes) := t_check_sizes (k := 2) F2 b2 g2 (H_is_sizes.mono (by decide))
  have H_inner_forms : Has l.prog w K mg base 1 "inner_forms" ["form"] (spD K g_inner_forms) := t_inner_forms (k := 0) F3 b3 g3 m_JOINING_WORDS
  have H_all_forms : Has l.prog w K mg base 2 "all_forms" ["form"] (spD K g_all_forms) := t_all_forms (k := 1) F4 b4 g4 (H_inner_forms.mono (by decide))
  have H_has_plain_words : Has l.prog w K mg base 3 "has_plain_words" ["form"] (spD K g_has_plain_words) := t_has_plain_words (k := 2) F5 b5 g5 y_all m_PLAIN_WORDS (H_all_forms.mono (by decide))
  have H_number_of_cases : Has l.prog w K mg base 1 "number_of_cases" ["sizes"] (spD K g_number_of_cases) := t_number_of_cases (k := 0) F6 b6 g6 
  have H_is_small_sheet : Has l.prog w K mg base 2 "is_small_sheet" ["sizes"] (spD K g_is_small_sheet) := t_is_small_sheet (k := 1) F7 b7 g7 m_MOST_CASES_OF_SMALL (H_number_of_cases.mono (by decide))
  have H_p_is_tuple_of : Has l.prog w K mg base 1 "_is_tuple_of" ["value", "length"] (spD K g_p_is_tuple_of) := t_p_is_tuple_of (k := 0) F8 b8 g8 y_isinstance y_len y_tuple
  have H_p_is_results : Has l.prog w K mg base 3 "_is_results" ["sizes", "value"] (spD K g_p_is_results) := t_p_is_results (k := 2) F9 b9 g9 y_all y_bool y_isinstance (H_number_of_cases.mono (by decide)) (H_is_small_sheet.mono (by decide)) (H_p_is_tuple_of.mono (by decide))
  have H_p_is_short_form_outside : Has l.prog w K mg base 4 "_is_short_form_outside" ["sizes", "word", "part"] (spD K g_p_is_short_form_outside) := t_p_is_short_form_outside (k := 3) F10 b10 g10 y_bool m_JOINING_WORDS y_isinstance y_tuple (H_p_is_results.mono (by decide))
  have H_is_integer_below : Has l.prog w K mg base 2 "is_integer_below" ["value", "limit"] (spD K g_is_integer_below) := t_is_integer_below (k := 1) F11 b11 g11 (H_is_integer.mono (by decide))
  have H_are_ascending_below : Has l.prog w K mg base 3 "are_ascending_below" ["values", "limit"] (spD K g_are_ascending_below) := t_are_ascending_below (k := 2) F12 b12 g12 (H_is_integer_below.mono (by decide))
  have H_p_is_test : Has l.prog w K mg base 4 "_is_test" ["sizes", "field", "values"] (spD K g_p_is_test) := t_p_is_test (k := 3) F13 b13 g13 y_isinstance y_len y_tuple (H_is_integer_below.mono (by decide)) (H_are_ascending_below.mono (by decide))
  have H_p_is_condition : Has l.prog w K mg base 5 "_is_condition" ["sizes", "value"] (spD K g_p_is_condition) := t_p_is_condition (k := 4) F14 b14 g14 (H_p_is_tuple_of.mono (by decide)) (H_p_is_test.mono (by decide))
  have H_is_conditions : Has l.prog w K mg base 6 "is_conditions" ["sizes", "value"] (spD K g_is_conditions) := t_is_conditions (k := 5) F15 b15 g15 y_all y_isinstance y_len y_tuple (H_are_ascending_below.mono (by decide)) (H_p_is_condition.mono (by decide))
  have H_p_is_rule : Has l.prog w K mg base 7 "_is_rule" ["sizes", "value"] (spD K g_p_is_rule) := t_p_is_rule (k := 6) F16 b16 g16 y_bool y_isinstance (H_is_conditions.mono (by decide)) (H_p_is_tuple_of.mono (by decide))
  have H_p_is_rules : Has l.prog w K mg base 8 "_is_rules" ["sizes", "value"] (spD K g_p_is_rules) := t_p_is_rules (k := 7) F17 b17 g17 y_all y_isinstance y_tuple (H_p_is_rule.mono (by decide))
  have H_p_are_integers : Has l.prog w K mg base 2 "_are_integers" ["values"] (spD K g_p_are_integers) := t_p_are_integers (k := 1) F18 b18 g18 y_all (H_is_integer.mono (by decide))
  have H_p_is_weights : Has l.prog w K mg base 3 "_is_weights" ["sizes", "value"] (spD K g_p_is_weights) := t_p_is_weights (k := 2) F19 b19 g19 y_all y_len y_range (H_p_is_tuple_of.mono (by decide)) (H_p_are_integers.mono (by decide))
  have H_p_is_long_form_outside : Has l.prog w K mg base 9 "_is_long_form_outside" ["sizes", "word", "part", "second_part"] (spD K g_p_is_long_form_outside) := t_p_is_long_form_outside (k := 8) F20 b20 g20 y_bool y_isinstance y_len (H_is_integer.mono (by decide)) (H_is_integer_below.mono (by decide)) (H_p_is_tuple_of.mono (by decide)) (H_p_is_test.mono (by decide)) (H_p_is_rules.mono (by decide)) (H_p_is_weights.mono (by decide))
  have H_p_is_form_outside : Has l.prog w K mg base 10 "_is_form_outside" ["sizes", "value"] (spD K g_p_is_form_outside) := t_p_is_form_outside (k := 9) F21 b21 g21 y_isinstance y_len y_str y_tuple (H_p_is_short_form_outside.mono (by decide)) (H_p_is_long_form_outside.mono (by decide))
  have H_has_form_shape : Has l.prog w K mg base 11 "has_form_shape" ["sizes", "value"] (spD K g_has_form_shape) := t_has_form_shape (k := 10) F22 b22 g22 (H_inner_forms.mono (by decide)) (H_p_is_form_outside.mono (by decide))
  have H_check_form : Has l.prog w K mg base 12 "check_form" ["sizes", "form"] (spD K g_check_form) := t_check_form (k := 11) F23 b23 g23 (H_has_form_shape.mono (by decide))
  have H_check_tree : Has l.prog w K mg base 13 "check_tree" ["sizes", "tree"] (spD K g_check_tree) := t_check_tree (k := 12) F24 b24 g24 (H_has_plain_words.mono (by decide)) (H_check_form.mono (by decide))
  have H_tested : Has l.prog w K mg base 1 "tested" ["field", "branches"] (spT K g_tested) := t_tested (k := 0) F25 b25 g25 y_len
  have H_p_with_value_33504 : Has l.prog w K mg base 1 "_with_value" ["half", "field", "value"] (spD K g_p_with_value_33504) := t_p_with_value_33504 (k := 0) F26 b26 g26 
  have H_p_trim_below_8c2fe : Has l.prog w K mg base 61 "_trim_below" ["tree", "half"] (spD K (g_p_trim_below_8c2fe FU)) := t_p_trim_below_8c2fe (k := 1) F27 b27 g27 y_len y_range y_tuple (H_tested.mono (by decide)) (H_p_with_value_33504.mono (by decide)) FU
  have H_trimmed : Has l.prog w K mg base 62 "trimmed" ["sizes", "tree"] (spD K g_trimmed) := t_trimmed (k := 61) F28 b28 g28 y_len (H_check_sizes.mono (by decide)) (H_check_tree.mono (by decide)) (H_p_trim_below_8c2fe.mono (by decide))
  have H_p_graft_below : Has l.prog w K mg base 60 "_graft_below" ["tree", "upper", "lower"] (spD K (g_p_graft_below FU)) := t_p_graft_below (k := 0) F29 b29 g29 y_tuple FU
  have H_grafted : Has l.prog w K mg base 62 "grafted" ["sizes", "tree", "upper", "lower"] (spD K g_grafted) := t_grafted (k := 61) F30 b30 g30 y_len (H_check_sizes.mono (by decide)) (H_check_tree.mono (by decide)) (H_p_trim_below_8c2fe.mono (by decide)) (H_p_graft_below.mono (by decide))
  have H_q_law_bag_0df30 : Has l.prog w K mg base 1 "_law_bag" ["cell"] (spQ K g_q_law_bag_0df30) := t_q_law_bag_0df30 (k := 0) F31 b31 g31 y_int
  have H_law_draw_80bbd : Has l.prog w K mg base 1 "_law_draw" ["bag", "many"] (spM K g_law_draw_80bbd) := t_law_draw_80bbd (k := 0) F32 b32 g32 y_int
  have H_law_sheet_490db : Has l.prog w K mg base 2 "_law_sheet" ["bag"] (spM K g_law_sheet_490db) := t_law_sheet_490db (k := 1) F33 b33 g33 y_range (H_law_draw_80bbd.mono (by decide))
  have H_law_forms_3b09a : Has l.prog w K mg base 60 "_law_forms" ["tree"] (spD K (g_law_forms_3b09a FU)) := t_law_forms_3b09a (k := 0) F34 b34 g34 y_sum FU
  have H_law_tree_95268 : Has l.prog w K mg base 120 "_law_tree" ["bag", "sheet", "pool", "left", "level"] (spM2 K (g_law_tree_95268 FU)) := t_law_tree_95268 (k := 60) F35 b35 g35 y_len y_range y_tuple (H_law_draw_80bbd.mono (by decide)) (H_law_forms_3b09a.mono (by decide)) FU
  have H_law_pool_d95fb : Has l.prog w K mg base 2 "_law_pool" ["bag", "sheet"] (spM K g_law_pool_d95fb) := t_law_pool_d95fb (k := 1) F36 b36 g36 y_len y_list y_range (H_law_draw_80bbd.mono (by decide))
  have H_law_whole_61a6b : Has l.prog w K mg base 1 "_law_whole" ["found"] (spD K g_law_whole_61a6b) := t_law_whole_61a6b (k := 0) F37 b37 g37 y_bool y_int y_isinstance
  have H_law_is_tree_84b8a : Has l.prog w K mg base 61 "_law_is_tree" ["found"] (spD K (g_law_is_tree_84b8a FU)) := t_law_is_tree_84b8a (k := 1) F38 b38 g38 y_bool y_isinstance y_len y_str y_tuple (H_law_whole_61a6b.mono (by decide)) FU
  have H_law_once_a2454 : Has l.prog w K mg base 60 "_law_once" ["tree", "known"] (spD K (g_law_once_a2454 FU)) := t_law_once_a2454 (k := 0) F39 b39 g39 y_len y_range y_tuple FU
  have H_law_merged_1016b : Has l.prog w K mg base 60 "_law_merged" ["tree"] (spD K (g_law_merged_1016b FU)) := t_law_merged_1016b (k := 0) F40 b40 g40 y_tuple FU
  have H_law_graft_c3e04 : Has l.prog w K mg base 60 "_law_graft" ["tree", "yes", "no"] (spD K (g_law_graft_c3e04 FU)) := t_law_graft_c3e04 (k := 0) F41 b41 g41 y_int y_tuple FU
  have LB : Binds K _ ["script"] [] := F42.binds (ps := ["script"]) fun _ _ _ _ _ _ us hl => match us, hl with | [_], _ => rfl
  exact Lk.FnG.ofOk (law_fn (f_law_k32 (k := 120) F42 LB g42 y_list (H_trimmed.mono (by decide)) (H_grafted.mono (by decide)) (H_q_law_bag_0df30.mono (by decide)) (H_law_draw_80bbd.mono (by decide)) (H_law_sheet_490db.mono (by decide)) (H_law_tree_95268.mono (by decide)) (H_law_pool_d95fb.mono (by decide)) (H_law_is_tree_84b8a.mono (by decide)) (H_law_once_a2454.mono (by decide)) (H_law_merged_1016b.mono (by decide)) (H_law_graft_c3e04.mono (by decide))))
end DL
open PySem PySem.W PyProof.Rows in
set_option maxRecDepth 100000 in
set_option maxHeartbeats 0 in
theorem PySem.Challenge.cw_leastreasons_k32_trees_trimmed_and_graft_holds : PySem.Challenge.rw_leastreasons_k32_trees_trimmed_and_graft.Holds := by
  w_on; o_law; k_head; (case hw => w_witness2)
  k_fill
  refine Lk.walk_ofGB (l := PySem.Challenge.rw_leastreasons_k32_trees_trimmed_and_graft) (n := 63) (k := 121) (x := "script") (sp := fun w => DL.spLaw _ DL.g_law_k32) rfl (by decide) rfl ⟨rfl, by decide, by decide⟩ (fun w h Y => PySem.W.kIn_of Y) ?F (fun _ _ a ns hl hb _ hS => ⟨a, ns, rfl, hS, DL.true_k32 ns hl hb, fun _ => rfl⟩)
  case F =>
    intro w mg fa h KX G hmg
    refine' DL.all_mk KX G hmg ?a0 ?l0 ?c0 ?k0 ?a1 ?l1 ?c1 ?k1 ?a2 ?l2 ?c2 ?k2 ?a3 ?l3 ?c3 ?k3 ?a4 ?l4 ?c4 ?k4 ?a5 ?l5 ?c5 ?k5 ?a6 ?l6 ?c6 ?k6 ?a7 ?l7 ?c7 ?k7 ?a8 ?l8 ?c8 ?k8 ?a9 ?l9 ?c9 ?k9 ?a10 ?l10 ?c10 ?k10 ?a11 ?l11 ?c11 ?k11 ?a12 ?l12 ?c12 ?k12 ?a13 ?l13 ?c13 ?k13 ?a14 ?l14 ?c14 ?k14 ?a15 ?l15 ?c15 ?k15 ?a16 ?l16 ?c16 ?k16 ?a17 ?l17 ?c17 ?k17 ?a18 ?l18 ?c18 ?k18 ?a19 ?l19 ?c19 ?k19 ?a20 ?l20 ?c20 ?k20 ?a21 ?l21 ?c21 ?k21 ?a22 ?l22 ?c22 ?k22 ?a23 ?l23 ?c23 ?k23 ?a24 ?l24 ?c24 ?k24 ?a25 ?l25 ?c25 ?k25 ?a26 ?l26 ?c26 ?k26 ?a27 ?l27 ?c27 ?k27 ?a28 ?l28 ?c28 ?k28 ?a29 ?l29 ?c29 ?k29 ?a30 ?l30 ?c30 ?k30 ?a31 ?l31 ?c31 ?k31 ?a32 ?l32 ?c32 ?k32 ?a33 ?l33 ?c33 ?k33 ?a34 ?l34 ?c34 ?k34 ?a35 ?l35 ?c35 ?k35 ?a36 ?l36 ?c36 ?k36 ?a37 ?l37 ?c37 ?k37 ?a38 ?l38 ?c38 ?k38 ?a39 ?l39 ?c39 ?k39 ?a40 ?l40 ?c40 ?k40 ?a41 ?l41 ?c41 ?k41 ?a42 ?l42 ?c42 ?k42 ?n0 ?n1 ?n2 ?n3 ?aj0 ?lj0 ?aj1 ?lj1 ?z0 ?z1 ?z2 ?z3 ?z4 ?z5 ?z6 ?z7 ?z8 ?z9
    (case a0 => k_is)
    (case l0 => k_is)
    (case c0 => k_is)
    (case k0 => k_is)
    (case a1 => k_is)
    (case l1 => k_is)
    (case c1 => k_is)
    (case k1 => k_is)
    (case a2 => k_is)
    (case l2 => k_is)
    (case c2 => k_is)
    (case k2 => k_is)
    (case a3 => k_is)
    (case l3 => k_is)
    (case c3 => k_is)
    (case k3 => k_is)
    (case a4 => k_is)
    (case l4 => k_is)
    (case c4 => k_is)
    (case k4 => k_is)
    (case a5 => k_is)
    (case l5 => k_is)
    (case c5 => k_is)
    (case k5 => k_is)
    (case a6 => k_is)
    (case l6 => k_is)
    (case c6 => k_is)
    (case k6 => k_is)
    (case a7 => k_is)
    (case l7 => k_is)
    (case c7 => k_is)
    (case k7 => k_is)
    (case a8 => k_is)
    (case l8 => k_is)
    (case c8 => k_is)
    (case k8 => k_is)
    (case a9 => k_is)
    (case l9 => k_is)
    (case c9 => k_is)
    (case k9 => k_is)
    (case a10 => k_is)
    (case l10 => k_is)
    (case c10 => k_is)
    (case k10 => k_is)
    (case a11 => k_is)
    (case l11 => k_is)
    (case c11 => k_is)
    (case k11 => k_is)
    (case a12 => k_is)
    (case l12 => k_is)
    (case c12 => k_is)
    (case k12 => k_is)
    (case a13 => k_is)
    (case l13 => k_is)
    (case c13 => k_is)
    (case k13 => k_is)
    (case a14 => k_is)
    (case l14 => k_is)
    (case c14 => k_is)
    (case k14 => k_is)
    (case a15 => k_is)
    (case l15 => k_is)
    (case c15 => k_is)
    (case k15 => k_is)
    (case a16 => k_is)
    (case l16 => k_is)
    (case c16 => k_is)
    (case k16 => k_is)
    (case a17 => k_is)
    (case l17 => k_is)
    (case c17 => k_is)
    (case k17 => k_is)
    (case a18 => k_is)
    (case l18 => k_is)
    (case c18 => k_is)
    (case k18 => k_is)
    (case a19 => k_is)
    (case l19 => k_is)
    (case c19 => k_is)
    (case k19 => k_is)
    (case a20 => k_is)
    (case l20 => k_is)
    (case c20 => k_is)
    (case k20 => k_is)
    (case a21 => k_is)
    (case l21 => k_is)
    (case c21 => k_is)
    (case k21 => k_is)
    (case a22 => k_is)
    (case l22 => k_is)
    (case c22 => k_is)
    (case k22 => k_is)
    (case a23 => k_is)
    (case l23 => k_is)
    (case c23 => k_is)
    (case k23 => k_is)
    (case a24 => k_is)
    (case l24 => k_is)
    (case c24 => k_is)
    (case k24 => k_is)
    (case a25 => k_is)
    (case l25 => k_is)
    (case c25 => k_is)
    (case k25 => k_is)
    (case a26 => k_is)
    (case l26 => k_is)
    (case c26 => k_is)
    (case k26 => k_is)
    (case a27 => k_is)
    (case l27 => k_is)
    (case c27 => k_is)
    (case k27 => k_is)
    (case a28 => k_is)
    (case l28 => k_is)
    (case c28 => k_is)
    (case k28 => k_is)
    (case a29 => k_is)
    (case l29 => k_is)
    (case c29 => k_is)
    (case k29 => k_is)
    (case a30 => k_is)
    (case l30 => k_is)
    (case c30 => k_is)
    (case k30 => k_is)
    (case a31 => k_is)
    (case l31 => k_is)
    (case c31 => k_is)
    (case k31 => k_is)
    (case a32 => k_is)
    (case l32 => k_is)
    (case c32 => k_is)
    (case k32 => k_is)
    (case a33 => k_is)
    (case l33 => k_is)
    (case c33 => k_is)
    (case k33 => k_is)
    (case a34 => k_is)
    (case l34 => k_is)
    (case c34 => k_is)
    (case k34 => k_is)
    (case a35 => k_is)
    (case l35 => k_is)
    (case c35 => k_is)
    (case k35 => k_is)
    (case a36 => k_is)
    (case l36 => k_is)
    (case c36 => k_is)
    (case k36 => k_is)
    (case a37 => k_is)
    (case l37 => k_is)
    (case c37 => k_is)
    (case k37 => k_is)
    (case a38 => k_is)
    (case l38 => k_is)
    (case c38 => k_is)
    (case k38 => k_is)
    (case a39 => k_is)
    (case l39 => k_is)
    (case c39 => k_is)
    (case k39 => k_is)
    (case a40 => k_is)
    (case l40 => k_is)
    (case c40 => k_is)
    (case k40 => k_is)
    (case a41 => k_is)
    (case l41 => k_is)
    (case c41 => k_is)
    (case k41 => k_is)
    (case a42 => k_is)
    (case l42 => k_is)
    (case c42 => k_is)
    (case k42 => k_is)
    (case n0 => k_is)
    (case n1 => k_is)
    (case n2 => k_is)
    (case n3 => k_is)
    (case aj0 => k_is)
    (case lj0 => k_is)
    (case aj1 => k_is)
    (case lj1 => k_is)
    (case z0 => k_is)
    (case z1 => k_is)
    (case z2 => k_is)
    (case z3 => k_is)
    (case z4 => k_is)
    (case z5 => k_is)
    (case z6 => k_is)
    (case z7 => k_is)
    (case z8 => k_is)
    (case z9 => k_is)
