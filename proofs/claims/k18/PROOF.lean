import PyProof.Rows.All
import Wide.All
import OpenK.AllK
import Wide.FinOn
import HandS.ForMost
import HandS.IsInst
import HandS.Wide
import KE.KDictKeyed
import KE.KeyNested
import HandS.SetKeys
import HandS.SortInts
import HandS.WideBits
import HandS.Style
import HandS.Deep
import HandS.TupAny
import HandS.Star
import HandS.SetFor
import HandS.Conv
import HandS.EndBits
import HandS.RevRange
import HandS.More
import HandS.Iter
import HandS.WordsExc
import HandS.ExcOwn
import HandS.ExcIs
import HandS.TryMany
import KE.DataFind
import KE.DataMinMax
import HandS.SortKw
import KE.DataAny
import HandS.Set
import HandS.Strs
import HandS.DictComp
import KE.SortKeyHeap
import KE.SortData
import HandS.TupLe
import PyProof.ZipIter
import HandS.Zip0
import KE.KItemsList
import HandS.Zip
import HandS.TupSets
import PySem.Challenge.RW_leastreasons_k18_members_dropped_and_tak
set_option exponentiation.threshold 2000
set_option Elab.async false
set_option linter.all false
set_option maxRecDepth 100000
set_option maxHeartbeats 8000000
namespace Lk
open PySem PySem.Spec PyProof.Rows L2
structure FnG (P : Program) (w : World) (K : PySem.W.Frag) (mg : Str → Option Value) (base : Heap) (CX : CXT)
    (k : Nat) (f : Addr) (fd : FuncData) (ps : List Str) (sp : Sp) : Prop where
  len : ∀ vs H Q E, sp vs H Q E → vs.length = ps.length
  run : ∀ (A : Around) (outer : List Env) (s : Shared) (H : Hp) (args : Args) (us : List Value) (vs : List V) (Q : VK) (E : XK),
    A.guards = some [] → Room k A → Env0 P w K mg base A outer s H → BindsTo s fd args (ps.zip us) → Vals vs us → sp vs H Q E →
    codeAny (model P w) A (.call (.ref f) args) (CR CX outer P w H s Q E) s
section
variable {P : Program} {w : World} {K : PySem.W.Frag} {mg : Str → Option Value} {base : Heap} {CX : CXT} {k : Nat} {f : Addr}
theorem FnG.ofOk {fd : FuncData} {ps : List Str} {sp : Sp} (F : FnOk P w K mg base CX k f fd ps sp) : FnG P w K mg base CX k f fd ps sp :=
  ⟨F.len, fun A outer s H args us vs Q E _ r e b v h => F.run A outer s H args us vs Q E r e b v h⟩
theorem FnG.mono {fd : FuncData} {ps : List Str} {sp : Sp} {j : Nat} (F : FnG P w K mg base CX j f fd ps sp) (h : j ≤ k) : FnG P w K mg base CX k f fd ps sp :=
  ⟨F.len, fun A outer s H args us vs Q E g r e b v z => F.run A outer s H args us vs Q E g (r.mono h) e b v z⟩
end
section
variable {X : Cx} {CX : CXT} {k : Nat} {f : Addr} {fd : FuncData} {ps : List Str} {sp : Sp} {dvs : List V} {ds : List Value} {E : XK} {x : Str} {p pos : Pos} {e : Expr} {es : List Expr} {t : TA}
end
theorem law_callG {P : Program} {w : World} {K : PySem.W.Frag} {mg mb : Str → Option Value} {k : Nat} {fa a : Addr} {fd : FuncData} {x : Str} {sp : Sp} {s₁ : Shared} {vs : List Value} {ns : List Int}
    (KX : K.In s₁.heap) (hns : s₁.heap.Ns mainGlobals mg) (hb : s₁.heap.Ns builtinsNs mb) (hbb : ∀ x : Str, x ≠ "__name__" → mb x = bootBuiltins x) (hlim : s₁.heap.NoLimit)
    (hg : s₁.gens = #[]) (ha : s₁.heap.get? a = some { cls := .type "list", data := .seq vs.toArray }) (hi : IntsAre vs ns) (hl : ns.length ≤ sizeLine) (hr : Room k callerA)
    (F : ∀ base : Heap, K.In base → base.Ns mainGlobals mg → FnG P w K mg base CX0 k fa fd [x] sp) (bnd : ∀ (s : Shared) (u : Value), BindsTo s fd ⟨[u], []⟩ [(x, u)])
    (hsp : ∀ H : Hp, Only H → SqL K H a (ns.map V.int) → sp [.ref a] H (fun v _ => v = .bl true) fun _ _ _ => False) :
    codeAny (model P w) callerA (.call (.ref fa) ⟨[.ref a], []⟩) (fun r s' => r = .ok (.ret (.bool true)) ∧ OldK s₁.heap s'.heap ∧ s'.os = s₁.os ∧ AllBare s'.gens) s₁ := by
  have rel := vals_ints hi
  have obj : (⟨.type "list", none, .seq vs.toArray 0, #[]⟩ : Obj) = { cls := .type "list", data := .seq vs.toArray } := rfl
  suffices core : ∀ H : Hp, Only H → SqL K H a (ns.map V.int) → HOk P w H s₁.heap → (∀ b, H b ≠ none → b = a ∧ K.lookup a = none) →
      codeAny (model P w) callerA (.call (.ref fa) ⟨[.ref a], []⟩) (fun r s' => r = .ok (.ret (.bool true)) ∧ OldK s₁.heap s'.heap ∧ s'.os = s₁.os ∧ AllBare s'.gens) s₁ by
    cases hk : K.lookup a with
    | some o =>
      have e := KX a o hk
      rw [ha] at e
      cases e
      refine core (fun _ => none) (fun _ => Or.inl rfl) (Or.inr ⟨_, vs.toArray, _, hk, rfl, rfl, rfl, ?_, by simpa using rel⟩) (fun b u z => nomatch z) fun b z => absurd rfl z
      rw [List.size_toArray, hi.length]
      exact hl
    | none =>
      refine core (fun b => if b = a then some (.frz { cls := .type "list", data := .seq vs.toArray } (.lst (ns.map V.int))) else none) ?_ (Or.inl (Or.inr ⟨_, if_pos rfl⟩)) ?_ ?_
      · intro b
        by_cases q : b = a
        · exact Or.inr ⟨_, _, if_pos q⟩
        · exact Or.inl (if_neg q)
      · intro b u z
        by_cases q : b = a
        · subst q
          have z2 := (if_pos rfl).symm.trans z
          cases z2
          exact ⟨ha, by simpa using hl, vs, _, rel, ha⟩
        · exact nomatch (if_neg q).symm.trans z
      · intro b z
        by_cases q : b = a
        · exact ⟨q, hk⟩
        · exact absurd (if_neg q) z
  intro H only seq hok one
  have untr : ∀ {b : Addr} {m : Str → Option Value}, s₁.heap.Ns b m → (hidT s₁.heap H).Ns b m := by
    rintro b m ⟨o, es, ep, e, d, r⟩
    refine ⟨o, es, ep, hidT_get e ?_, d, r⟩
    by_cases q : H b = none
    · exact q
    · obtain ⟨rfl, _⟩ := one b q
      rw [ha] at e
      cases e
      exact absurd d (by simp)
  have inB : K.In (hidT s₁.heap H) := by
    intro b o e
    refine hidT_get (KX b o e) ?_
    by_cases q : H b = none
    · exact q
    · obtain ⟨rfl, z⟩ := one b q
      rw [z] at e
      cases e
  have modu : Mod K mg (hidT s₁.heap H) := ⟨inB, untr hns, ⟨mb, untr hb, hbb⟩, hlim.elim fun mc z => ⟨mc, untr z.1, z.2⟩⟩
  have env : Env0 P w K mg (hidT s₁.heap H) callerA [] s₁ H :=
    ⟨rfl, modu, fun _ _ e => of_hidT e, Nat.le_of_eq (hidT_size _ _), trivial, fun b z => absurd (show b ∈ ([] : List Addr) from z) (by simp), hok, .of_eq hg⟩
  refine codeAny_mono ((F _ inB (untr hns)).run callerA [] s₁ H ⟨[.ref a], []⟩ [.ref a] [.ref a] _ _ rfl hr env (bnd s₁ (.ref a)) (.cons rfl .nil) (hsp H only seq)) ?_
  rintro (e' | fl) s' z
  · exact z.elim
  cases fl with
  | next => exact z.elim
  | brk => exact z.elim
  | cont => exact z.elim
  | ret u =>
    obtain ⟨v, H', os, bare, un, ok', rv, rfl⟩ := z
    obtain rfl : u = Value.bool true := rv
    refine ⟨rfl, OldK.of_keep ?_, os, bare⟩
    intro b o e
    rcases only b with q | ⟨ob, xs, q⟩
    · exact un.keep b o e q (fun z => absurd (show b ∈ ([] : List Addr) from z) (by simp)) (by simp)
    · have q2 := (ok' b _ (un.frzs b ob _ q)).1
      have q1 := (hok b _ q).1
      rw [e] at q1
      cases q1
      exact q2
section
variable {X : Cx}
end
end Lk
namespace Lk
open PySem PySem.Spec PyProof.Rows L2
structure Ok (n w : Nat) (d : PyData) : Prop where
  sh : d.showable = true
  nd : d.hasDict = false
  dp : d.depth ≤ n
  cl : d.canLay0 = true
  lv : d.leavesShort 64 = true
  wt : d.weight ≤ w
namespace Ok
variable {n w n' w' L : Nat} {d : PyData} {ds : List PyData}
theorem mono (h : Ok n w d) (hn : n ≤ n') (hw : w ≤ w') : Ok n' w' d := ⟨h.sh, h.nd, Nat.le_trans h.dp hn, h.cl, h.lv, Nat.le_trans h.wt hw⟩
theorem shaped (h : Ok n w d) (hn : n ≤ 64) : SeqAt.shaped d = true := by
  unfold SeqAt.shaped
  rw [h.cl, decide_eq_true (Nat.le_trans h.dp hn)]
  rfl
theorem fits (h : Ok n w d) (hw : w ≤ 2 ^ 17) : d.shown.length ≤ sizeLine := by
  have a := PyData.shown_le 64 (by decide) d h.lv
  have b : (64 + 2) * d.weight ≤ 66 * 2 ^ 17 := Nat.mul_le_mul_left 66 (Nat.le_trans h.wt hw)
  have c : sizeLine = 2 ^ 24 := rfl
  omega
theorem none : Ok n w .none := ⟨rfl, rfl, Nat.zero_le _, rfl, rfl, Nat.zero_le _⟩
theorem bool (b : Bool) : Ok n w (.bool b) := ⟨rfl, rfl, Nat.zero_le _, rfl, rfl, Nat.zero_le _⟩
end Ok
def okAll (n w : Nat) (ds : List PyData) : Prop := ∀ d ∈ ds, Ok n w d
theorem okAll_facts {n w : Nat} : ∀ {ds : List PyData}, okAll n w ds → PyData.showableAll ds = true ∧ PyData.hasDictAll ds = false ∧ PyData.depthAll ds ≤ n ∧ PyData.canLayAll0 ds = true ∧ PyData.leavesShortAll 64 ds = true ∧ PyData.weightAll ds ≤ ds.length * (w + 1)
  | [], _ => ⟨rfl, rfl, Nat.zero_le _, rfl, rfl, Nat.zero_le _⟩
  | d :: ds, h => by
    have a := h d (List.mem_cons_self ..)
    obtain ⟨b1, b2, b3, b4, b5, b6⟩ := okAll_facts (ds := ds) fun x hx => h x (List.mem_cons_of_mem _ hx)
    refine ⟨?_, ?_, ?_, ?_, ?_, ?_⟩
    · show (d.showable && PyData.showableAll ds) = true
      rw [a.sh, b1]
      rfl
    · show (d.hasDict || PyData.hasDictAll ds) = false
      rw [a.nd, b2]
      rfl
    · show max d.depth (PyData.depthAll ds) ≤ n
      exact Nat.max_le.mpr ⟨a.dp, b3⟩
    · show (d.canLay0 && PyData.canLayAll0 ds) = true
      rw [a.cl, b4]
      rfl
    · show (d.leavesShort 64 && PyData.leavesShortAll 64 ds) = true
      rw [a.lv, b5]
      rfl
    · show d.weight + 1 + PyData.weightAll ds ≤ (ds.length + 1) * (w + 1)
      have := a.wt
      rw [Nat.succ_mul]
      omega
theorem Ok.list {n w L : Nat} {ds : List PyData} (h : okAll n w ds) (hl : ds.length ≤ L) : Ok (n + 1) (L * (w + 1)) (.list ds) := by
  obtain ⟨b1, b2, b3, b4, b5, b6⟩ := okAll_facts h
  refine ⟨b1, b2, ?_, b4, b5, ?_⟩
  · show PyData.depthAll ds + 1 ≤ n + 1
    omega
  · show PyData.weightAll ds ≤ _
    exact Nat.le_trans b6 (Nat.mul_le_mul_right _ hl)
theorem Ok.tuple {n w L : Nat} {ds : List PyData} (h : okAll n w ds) (hl : ds.length ≤ L) : Ok (n + 1) (L * (w + 1)) (.tuple ds) := by
  obtain ⟨b1, b2, b3, b4, b5, b6⟩ := okAll_facts h
  refine ⟨b1, b2, ?_, b4, b5, ?_⟩
  · show PyData.depthAll ds + 1 ≤ n + 1
    omega
  · show PyData.weightAll ds ≤ _
    exact Nat.le_trans b6 (Nat.mul_le_mul_right _ hl)
theorem Ok.int {n w : Nat} {i : Int} (h : i.natAbs < 2 ^ 30) (hw : 30 ≤ w) : Ok n w (.int i) := by
  have l : i.natAbs.log2 < 30 ∨ i.natAbs = 0 := by
    by_cases z : i.natAbs = 0
    · exact .inr z
    · exact .inl ((Nat.log2_lt z).mpr h)
  have l2 : i.natAbs.log2 < 1920 := by
    rcases l with l | l
    · omega
    · rw [l]
      decide
  refine ⟨decide_eq_true l2, rfl, Nat.zero_le _, rfl, ?_, ?_⟩
  · refine decide_eq_true (Nat.le_trans (PyData.shown_int_le (by omega)) (by decide))
  · show (if i == 0 then 0 else i.natAbs.log2 + 1) ≤ w
    split
    · exact Nat.zero_le _
    · rename_i hi
      rcases l with l | l
      · omega
      · exact absurd (by simpa using Int.natAbs_eq_zero.mp l) hi
theorem okAll.nil {n w : Nat} : okAll n w [] := fun _ h => nomatch h
theorem okAll.cons {n w : Nat} {d : PyData} {ds : List PyData} (h : Ok n w d) (t : okAll n w ds) : okAll n w (d :: ds) := fun x hx => by
  rcases List.mem_cons.mp hx with rfl | hx
  · exact h
  · exact t x hx
theorem okAll.append {n w : Nat} {ds es : List PyData} (h : okAll n w ds) (t : okAll n w es) : okAll n w (ds ++ es) := fun x hx => by
  rcases List.mem_append.mp hx with hx | hx
  · exact h x hx
  · exact t x hx
theorem okAll.sub {n w : Nat} {ds es : List PyData} (h : okAll n w ds) (s : ∀ x ∈ es, x ∈ ds) : okAll n w es := fun x hx => h x (s x hx)
theorem okAll.mono {n w n' w' : Nat} {ds : List PyData} (h : okAll n w ds) (hn : n ≤ n') (hw : w ≤ w') : okAll n' w' ds := fun x hx => (h x hx).mono hn hw
theorem okAll.ints {n w : Nat} {ns : List Int} (h : ∀ i ∈ ns, i.natAbs < 2 ^ 30) (hw : 30 ≤ w) : okAll n w (ns.map PyData.int) := fun x hx => by
  obtain ⟨i, hi, rfl⟩ := List.mem_map.mp hx
  exact .int (h i hi) hw
mutual
theorem Dp.same {K : PySem.W.Frag} {H H' : Hp} (f : ∀ a xs, SqL K H a xs → SqL K H' a xs) (g : ∀ a xs, SqT K H a xs → SqT K H' a xs) : ∀ (d : PyData) {v : V}, Dp K H v d → Dp K H' v d
  | .none, _, h => by cases h; exact .non
  | .bool _, _, h => by cases h; exact .bl _
  | .int _, _, h => by cases h; exact .int _
  | .str _, _, h => by cases h; exact .str _
  | .list ds, _, h => by
    cases h with
    | lst hs ha => exact .lst (f _ _ hs) (DpAll.same f g ds ha)
  | .tuple ds, _, h => by
    cases h with
    | tup hs ha => exact .tup (g _ _ hs) (DpAll.same f g ds ha)
  | .dict _, _, h => by cases h
theorem DpAll.same {K : PySem.W.Frag} {H H' : Hp} (f : ∀ a xs, SqL K H a xs → SqL K H' a xs) (g : ∀ a xs, SqT K H a xs → SqT K H' a xs) : ∀ (ds : List PyData) {vs : List V}, DpAll K H vs ds → DpAll K H' vs ds
  | [], _, h => by cases h; exact .nil
  | d :: ds, _, h => by
    cases h with
    | cons h1 h2 => exact .cons (Dp.same f g d h1) (DpAll.same f g ds h2)
end
theorem Same.tup {K : PySem.W.Frag} {H H' : Hp} {a : Addr} {xs : List V} (e : Same H H') (h : SqT K H a xs) : SqT K H' a xs := by
  rcases h with (h | ⟨o, h⟩) | h
  · exact .inl (.inl (e _ _ h))
  · exact .inl (.inr ⟨o, e _ _ h⟩)
  · exact .inr h
theorem Dp.sm {K : PySem.W.Frag} {H H' : Hp} {d : PyData} {v : V} (s : Same H H') (h : Dp K H v d) : Dp K H' v d := Dp.same (fun _ _ => s.seq) (fun _ _ => Same.tup s) d h
theorem DpAll.sm {K : PySem.W.Frag} {H H' : Hp} {ds : List PyData} {vs : List V} (s : Same H H') (h : DpAll K H vs ds) : DpAll K H' vs ds := DpAll.same (fun _ _ => s.seq) (fun _ _ => Same.tup s) ds h
section
variable {K : PySem.W.Frag} {H : Hp}
theorem DpAll.length : ∀ {vs : List V} {ds : List PyData}, DpAll K H vs ds → vs.length = ds.length
  | _, [], h => by cases h; rfl
  | _, d :: ds, h => by
    cases h with
    | cons h1 h2 => rw [List.length_cons, List.length_cons, DpAll.length h2]
theorem DpAll.get : ∀ {vs : List V} {ds : List PyData} {i : Nat} {v : V}, DpAll K H vs ds → vs[i]? = some v → ∃ d, ds[i]? = some d ∧ Dp K H v d
  | _, [], i, v, h, e => by cases h; simp at e
  | _, d :: ds, 0, v, h, e => by
    cases h with
    | cons h1 h2 =>
      cases e
      exact ⟨d, rfl, h1⟩
  | _, d :: ds, i + 1, v, h, e => by
    cases h with
    | cons h1 h2 => exact DpAll.get (i := i) h2 (by simpa using e)
theorem DpAll.ints : ∀ (ns : List Int), DpAll K H (ns.map V.int) (ns.map PyData.int)
  | [] => .nil
  | _ :: ns => .cons (.int _) (DpAll.ints ns)
theorem DpAll.of_ints : ∀ {vs : List V} {ns : List Int}, DpAll K H vs (ns.map PyData.int) → vs = ns.map V.int
  | _, [], h => by cases h; rfl
  | _, n :: ns, h => by
    cases h with
    | cons h1 h2 =>
      cases h1
      rw [DpAll.of_ints h2]
      rfl
theorem DpAll.append : ∀ {vs ws : List V} {ds es : List PyData}, DpAll K H vs ds → DpAll K H ws es → DpAll K H (vs ++ ws) (ds ++ es)
  | _, _, [], _, h, t => by cases h; exact t
  | _, _, d :: ds, _, h, t => by
    cases h with
    | cons h1 h2 => exact .cons h1 (DpAll.append h2 t)
theorem DpAll.take : ∀ (n : Nat) {vs : List V} {ds : List PyData}, DpAll K H vs ds → DpAll K H (vs.take n) (ds.take n)
  | 0, _, _, _ => .nil
  | n + 1, _, [], h => by cases h; exact .nil
  | n + 1, _, d :: ds, h => by
    cases h with
    | cons h1 h2 => exact .cons h1 (DpAll.take n h2)
theorem DpAll.drop : ∀ (n : Nat) {vs : List V} {ds : List PyData}, DpAll K H vs ds → DpAll K H (vs.drop n) (ds.drop n)
  | 0, _, _, h => h
  | n + 1, _, [], h => by cases h; exact .nil
  | n + 1, _, d :: ds, h => by
    cases h with
    | cons h1 h2 => exact DpAll.drop n h2
end
def tyD : PyData → String
  | .none => "NoneType"
  | .bool _ => "bool"
  | .int _ => "int"
  | .str _ => "str"
  | .list _ => "list"
  | .tuple _ => "tuple"
  | .dict _ => "dict"
def isTy (T : String) (d : PyData) : Bool := tyD d == T || (T == "int" && tyD d == "bool")
theorem SqL.ty {K : PySem.W.Frag} {H : Hp} {a : Addr} {xs : List V} (h : SqL K H a xs) : TyX K H (.ref a) (.type "list") := by
  rcases h with (h | ⟨o, h⟩) | ⟨o, its, n, h1, h2, _⟩
  · exact .base (.lst h)
  · exact .base (.frz h)
  · exact .kList h1 h2
theorem SqT.ty {K : PySem.W.Frag} {H : Hp} {a : Addr} {xs : List V} (h : SqT K H a xs) : TyX K H (.ref a) (.type "tuple") := by
  rcases h with (h | ⟨o, h⟩) | ⟨o, its, n, h1, h2, _⟩
  · exact .base (.tup h)
  · exact .fTuple h
  · exact .kTuple h1 h2
theorem Dp.ty {K : PySem.W.Frag} {H : Hp} {v : V} {d : PyData} (h : Dp K H v d) : TyX K H v (.type (tyD d)) := by
  cases h with
  | non => exact .base .non
  | bl b => exact .base (.bl b)
  | int i => exact .base (.int i)
  | str x => exact .base (.str x)
  | lst hs _ => exact SqL.ty hs
  | tup hs _ => exact SqT.ty hs
theorem kit_names : ∀ a ∈ ["NoneType", "bool", "int", "str", "list", "tuple"], ∀ T ∈ ["int", "bool", "list", "tuple", "str"], kitB a T = some (a == T || (T == "int" && a == "bool")) := by decide +kernel
theorem Dp.kit {K : PySem.W.Frag} {H : Hp} {v : V} {d : PyData} (h : Dp K H v d) {T : String} (hT : T ∈ ["int", "bool", "list", "tuple", "str"]) : kitB (tyD d) T = some (isTy T d) := by
  refine kit_names (tyD d) ?_ T hT
  cases h <;> simp [tyD]
section
variable {X : Cx}
theorem call_isiD (T : String) (hT : T ∈ ["int", "bool", "list", "tuple", "str"] := by decide) : CallR X (.builtin "isinstance") (fun xs H Q => ∃ v d, xs = [v, .ty T] ∧ Dp X.K H v d ∧ Q (.bl (isTy T d)) H) := by
  intro pins s σ H xs us Q I r h
  obtain ⟨v, d, rfl, hd, q⟩ := h
  exact call_isi pins s σ H _ us Q I r ⟨v, .ty T, .type (tyD d), .type T, _, rfl, .ty T, Dp.ty hd, kit_ty (Dp.kit hd hT), q⟩
/-- the same within a comprehension, where X.K is K by computation -/
theorem call_isiDK {K : PySem.W.Frag} (T : String) (hK : X.K = K := by rfl) (hT : T ∈ ["int", "bool", "list", "tuple", "str"] := by decide) :
    CallR X (.builtin "isinstance") (fun xs H Q => ∃ v d, xs = [v, .ty T] ∧ Dp K H v d ∧ Q (.bl (isTy T d)) H) := by
  subst hK
  exact call_isiD T hT
end
end Lk
namespace Lk
open PySem PySem.Spec PyProof.Rows L2
section
variable {X : Cx} {CX : CXT} {k : Nat} {f : Addr} {fd : FuncData} {ps ks : List Str} {sp : Sp} {E : XK} {x : Str} {p pos : Pos} {kws : List Keyword} {tk : TA}
  {g : List Value → List Value → List Value} {gV : List V → List V → List V}
end
def g1 {α : Type} : List α → List α → List α
  | [], [a] => [a]
  | _, _ => []
section
variable {K : PySem.W.Frag} {x qual : Str} {st : Stmt} {f : Addr} {fd : FuncData} {n m l : Str}
end
theorem new_of {H : Hp} {o : HO} {Q : V → Hp → Prop} (h : ∀ p H', Same H H' → H p = none → H' p = some o → Q (.ref p) H') : ∀ p, H p = none → Q (.ref p) (upd H p o) := fun p np => h p _ (fun b x e => by
  rw [upd_ne (ne_of_none e np)]
  exact e) np upd_same
mutual
theorem eqv_rfl : ∀ d : PyData, d.hasDict = false → PyData.eqv d d = true
  | .none, _ => rfl
  | .bool b, _ => by cases b <;> rfl
  | .int i, _ => by
    show (i == i) = true
    exact beq_self_eq_true i
  | .str x, _ => by
    show (x == x) = true
    exact beq_self_eq_true x
  | .list ds, h => eqvAll_rfl ds h
  | .tuple ds, h => eqvAll_rfl ds h
  | .dict _, h => by cases h
theorem eqvAll_rfl : ∀ ds : List PyData, PyData.hasDictAll ds = false → PyData.eqvAll ds ds = true
  | [], _ => rfl
  | d :: ds, h => by
    have h' : (d.hasDict || PyData.hasDictAll ds) = false := h
    rw [Bool.or_eq_false_iff] at h'
    show (PyData.eqv d d && PyData.eqvAll ds ds) = true
    rw [eqv_rfl d h'.1, eqvAll_rfl ds h'.2]
    rfl
end
def New (o : HO) (H : Hp) (Q : V → Hp → Prop) : Prop := ∀ p H', Same H H' → H p = none → H' p = some o → Q (.ref p) H'
section
variable {X : Cx} {es : List Expr} {t : TA} {pos : Pos}
def tLstN (t : TA) : TE := fun σ H Q => t σ H fun xs H1 => xs.length ≤ sizeLine ∧ New (.lst xs) H1 Q
def tTupN (t : TA) : TE := fun σ H Q => t σ H fun xs H1 => xs.length ≤ sizeLine ∧ New (.tup xs) H1 Q
theorem pe_lstN (h : PA X es t) : PE X (.List es pos) (tLstN t) := by
  constructor
  intro pins s σ H Q I hq
  refine wpAny_List_spliced (thn (h.run pos pins s σ H _ I hq) ?_)
  rintro us s1 ⟨xs, H1, I1, r, z, q⟩
  refine ⟨r.length ▸ z, ?_⟩
  have fresh : H1 s1.heap.objs.size = none := I1.hok.fresh (Nat.le_refl _)
  refine ⟨.ref s1.heap.objs.size, upd H1 s1.heap.objs.size (.lst xs), ?_, rfl, new_of q _ fresh⟩
  exact I1.laid (t' := s1.toks) (fun b u e => Heap.get?_push_of_some _ e) (Nat.le_refl _) ⟨z, us, 0, r, Heap.get?_push_size _ rfl⟩
theorem pe_tupN {x1} (h : PA X es t) : PE X (.Tuple es x1 pos) (tTupN t) := by
  constructor
  intro pins s σ H Q I hq
  refine wpAny_Tuple_spliced (thn (h.run pos pins s σ H _ I hq) ?_)
  rintro us s1 ⟨xs, H1, I1, r, z, q⟩
  refine ⟨r.length ▸ z, ?_⟩
  have fresh : H1 s1.heap.objs.size = none := I1.hok.fresh (Nat.le_refl _)
  refine ⟨.ref s1.heap.objs.size, upd H1 s1.heap.objs.size (.tup xs), ?_, rfl, new_of q _ fresh⟩
  exact I1.laid (t' := s1.toks) (fun b u e => Heap.get?_push_of_some _ e) (Nat.le_refl _) ⟨z, us, r, ⟨_, Heap.get?_push_size _ rfl, rfl, _, rfl⟩⟩
theorem call_listN : CallR X (.type "list") (fun xs H Q => ∃ p ys, xs = [.ref p] ∧ (SqL X.K H p ys ∨ SqT X.K H p ys) ∧ New (.lst ys) H Q) := by
  intro pins s σ H xs us Q I r h
  obtain ⟨p, ys, h1, h2, q⟩ := h
  exact call_list_of pins s σ H xs us Q I r ⟨p, ys, h1, h2, new_of q⟩
theorem sl_listN : SlR X (fun x lo hi H Q => ∃ a xs, x = .ref a ∧ SqL X.K H a xs ∧ New (.lst (cutV xs lo hi)) H Q) := by
  intro pins s σ H x v vl vu lo hi sl Q I rx hs pl pu h
  obtain ⟨a, xs, h1, h2, q⟩ := h
  exact sl_list pins s σ H x v vl vu lo hi sl Q I rx hs pl pu ⟨a, xs, h1, h2, new_of q⟩
end
end Lk
namespace DL
open PySem PySem.Spec PyProof.Rows L2 Lk
mutual
def keyN : PyData → Option NestedKey
  | .int i => some (.num i)
  | .tuple ds => (keyNs ds).map NestedKey.tup
  | _ => none
def keyNs : List PyData → Option (List NestedKey)
  | [] => some []
  | d :: ds => (keyN d).bind fun k => (keyNs ds).map fun ks => k :: ks
end
mutual
theorem key_hash : ∀ {d : PyData} {k : NestedKey}, keyN d = some k → ∀ w w' : World, k.hash w = k.hash w'
  | .int i, k, h, w, w' => by
    rw [keyN] at h
    cases h
    rw [NestedKey.hash, NestedKey.hash]
  | .tuple ds, k, h, w, w' => by
    rw [keyN] at h
    obtain ⟨ks, h1, rfl⟩ := Option.map_eq_some_iff.mp h
    rw [NestedKey.hash, NestedKey.hash, keys_hash h1 w w']
  | .none, k, h, _, _ => by simp [keyN] at h
  | .bool _, k, h, _, _ => by simp [keyN] at h
  | .str _, k, h, _, _ => by simp [keyN] at h
  | .list _, k, h, _, _ => by simp [keyN] at h
  | .dict _, k, h, _, _ => by simp [keyN] at h
theorem keys_hash : ∀ {ds : List PyData} {ks : List NestedKey}, keyNs ds = some ks → ∀ w w' : World, NestedKey.hashes w ks = NestedKey.hashes w' ks
  | [], ks, h, w, w' => by
    rw [keyNs] at h
    cases h
    rw [NestedKey.hashes, NestedKey.hashes]
  | d :: ds, ks, h, w, w' => by
    rw [keyNs] at h
    obtain ⟨k, h1, h2⟩ := Option.bind_eq_some_iff.mp h
    obtain ⟨ks', h3, rfl⟩ := Option.map_eq_some_iff.mp h2
    rw [NestedKey.hashes, NestedKey.hashes, key_hash h1 w w', keys_hash h3 w w']
end
/-- the object alone -/
def DkRaw (h : Heap) (d : Addr) (nks : List NestedKey) (as : List Addr) : Prop := ∃ (w : World) (o : Obj) (es : Array DictEntry) (ep : Nat), h.get? d = some o ∧ o.ExactDict ∧ o.data = .dict es ep ∧
  es.toList = (nks.zip as).map fun x => (⟨x.1.hash w, .ref x.2, .bool true⟩ : DictEntry)
def DkO (d : Addr) (nks : List NestedKey) (as : List Addr) : HO := .ext fun h => DkRaw h d nks as ∧ nks.length = as.length ∧ nks.Nodup ∧ nks.length ≤ 1000000 ∧ (d == sysModules) = false
end DL
namespace DL
open PySem PySem.Spec PyProof.Rows L2 Lk
mutual
inductive Dq (K : PySem.W.Frag) (H : Hp) : V → PyData → Prop
  | non : Dq K H .non .none
  | bl (b : Bool) : Dq K H (.bl b) (.bool b)
  | int (i : Int) : Dq K H (.int i) (.int i)
  | str (x : Str) : Dq K H (.str x) (.str x)
  | lst {a : Addr} {xs : List V} {ds : List PyData} : SqL K H a xs → DqAll K H xs ds → Dq K H (.ref a) (.list ds)
  | tup {a : Addr} {xs : List V} {ds : List PyData} : SqT K H a xs → DqAll K H xs ds → Dq K H (.ref a) (.tuple ds)
inductive DqAll (K : PySem.W.Frag) (H : Hp) : List V → List PyData → Prop
  | nil : DqAll K H [] []
  | cons {v : V} {vs : List V} {d : PyData} {ds : List PyData} : Dq K H v d → DqAll K H vs ds → DqAll K H (v :: vs) (d :: ds)
end
theorem Same.rd {H H' : Hp} (s : Same H H') {a : Addr} {u : HO} (h : Rd H a u) : Rd H' a u := by
  rcases h with h | ⟨o, h⟩
  · exact .inl (s _ _ h)
  · exact .inr ⟨o, s _ _ h⟩
mutual
theorem Dq.sm {K : PySem.W.Frag} {H H' : Hp} {v : V} : ∀ {d : PyData}, Dq K H v d → Same H H' → Dq K H' v d
  | .none, h, _ => by cases h; exact .non
  | .bool _, h, _ => by cases h; exact .bl _
  | .int _, h, _ => by cases h; exact .int _
  | .str _, h, _ => by cases h; exact .str _
  | .list _, h, s => by
    cases h with
    | lst hs ha => exact .lst (s.seq hs) (ha.sm s)
  | .tuple _, h, s => by
    cases h with
    | tup hs ha => exact .tup (Lk.Same.tup s hs) (ha.sm s)
  | .dict _, h, _ => by cases h
theorem DqAll.sm {K : PySem.W.Frag} {H H' : Hp} {vs : List V} : ∀ {ds : List PyData}, DqAll K H vs ds → Same H H' → DqAll K H' vs ds
  | [], h, _ => by cases h; exact .nil
  | _ :: _, h, s => by
    cases h with
    | cons h1 h2 => exact .cons (h1.sm s) (h2.sm s)
end
mutual
theorem Dq.dp {K : PySem.W.Frag} {H : Hp} {v : V} : ∀ {d : PyData}, Dq K H v d → Dp K H v d
  | .none, h => by cases h; exact .non
  | .bool _, h => by cases h; exact .bl _
  | .int _, h => by cases h; exact .int _
  | .str _, h => by cases h; exact .str _
  | .list _, h => by
    cases h with
    | lst hs ha => exact .lst hs ha.dp
  | .tuple _, h => by
    cases h with
    | tup hs ha => exact .tup hs ha.dp
  | .dict _, h => by cases h
theorem DqAll.dp {K : PySem.W.Frag} {H : Hp} {vs : List V} : ∀ {ds : List PyData}, DqAll K H vs ds → DpAll K H vs ds
  | [], h => by cases h; exact .nil
  | _ :: _, h => by
    cases h with
    | cons h1 h2 => exact .cons h1.dp h2.dp
end
section
variable {K : PySem.W.Frag} {H : Hp}
theorem DqAll.length : ∀ {vs : List V} {ds : List PyData}, DqAll K H vs ds → vs.length = ds.length
  | _, [], h => by cases h; rfl
  | _, d :: ds, h => by
    cases h with
    | cons h1 h2 => rw [List.length_cons, List.length_cons, DqAll.length h2]
theorem DqAll.get : ∀ {vs : List V} {ds : List PyData} {i : Nat} {d : PyData}, DqAll K H vs ds → ds[i]? = some d → ∃ v, vs[i]? = some v ∧ Dq K H v d
  | _, [], i, v, h, e => by simp at e
  | _, d :: ds, 0, v, h, e => by
    cases h with
    | cons h1 h2 =>
      cases e
      exact ⟨_, rfl, h1⟩
  | _, d :: ds, i + 1, v, h, e => by
    cases h with
    | cons h1 h2 => exact DqAll.get (i := i) h2 (by simpa using e)
theorem DqAll.append : ∀ {vs ws : List V} {ds es : List PyData}, DqAll K H vs ds → DqAll K H ws es → DqAll K H (vs ++ ws) (ds ++ es)
  | _, _, [], _, h, t => by cases h; exact t
  | _, _, d :: ds, _, h, t => by
    cases h with
    | cons h1 h2 => exact .cons h1 (DqAll.append h2 t)
theorem DqAll.take : ∀ (n : Nat) {vs : List V} {ds : List PyData}, DqAll K H vs ds → DqAll K H (vs.take n) (ds.take n)
  | 0, _, _, _ => .nil
  | n + 1, _, [], h => by cases h; exact .nil
  | n + 1, _, d :: ds, h => by
    cases h with
    | cons h1 h2 => exact .cons h1 (DqAll.take n h2)
theorem DqAll.drop : ∀ (n : Nat) {vs : List V} {ds : List PyData}, DqAll K H vs ds → DqAll K H (vs.drop n) (ds.drop n)
  | 0, _, _, h => h
  | n + 1, _, [], h => by cases h; exact .nil
  | n + 1, _, d :: ds, h => by
    cases h with
    | cons h1 h2 => exact DqAll.drop n h2
theorem DqAll.set {v : V} {d : PyData} (hv : Dq K H v d) : ∀ {vs : List V} {ds : List PyData} (i : Nat), DqAll K H vs ds → DqAll K H (vs.set i v) (ds.set i d)
  | _, _, _, .nil => .nil
  | _, _, 0, .cons _ h2 => .cons hv h2
  | _, _, i + 1, .cons h1 h2 => .cons h1 (DqAll.set hv i h2)
theorem DqAll.reverse {vs : List V} : ∀ {ds : List PyData}, DqAll K H vs ds → DqAll K H vs.reverse ds.reverse
  | _, .nil => .nil
  | _, .cons h1 h2 => by
    rw [List.reverse_cons, List.reverse_cons]
    exact (DqAll.reverse h2).append (.cons h1 .nil)
theorem DqAll.dropLast {vs : List V} {ds : List PyData} (h : DqAll K H vs ds) : DqAll K H vs.dropLast ds.dropLast := by
  rw [List.dropLast_eq_take, List.dropLast_eq_take, h.length]
  exact h.take _
theorem DqAll.ints : ∀ (ns : List Int), DqAll K H (ns.map V.int) (ns.map PyData.int)
  | [] => .nil
  | _ :: ns => .cons (.int _) (DqAll.ints ns)
theorem DqAll.of_ints : ∀ {vs : List V} {ns : List Int}, DqAll K H vs (ns.map PyData.int) → vs = ns.map V.int
  | _, [], h => by cases h; rfl
  | _, n :: ns, h => by
    cases h with
    | cons h1 h2 =>
      cases h1
      rw [DqAll.of_ints h2]
      rfl
theorem DqAll.of_bools : ∀ {vs : List V} {ns : List Bool}, DqAll K H vs (ns.map PyData.bool) → vs = ns.map V.bl
  | _, [], h => by cases h; rfl
  | _, n :: ns, h => by
    cases h with
    | cons h1 h2 =>
      cases h1
      rw [DqAll.of_bools h2]
      rfl
end
inductive Cel where
  | un | pl (d : PyData) | ow (ds : List PyData) | io (ds : List PyData) | dk (ks : List PyData)
abbrev En := List Cel
def Cel.own : Cel → Bool
  | .ow _ => true
  | .io _ => true
  | .dk _ => true
  | _ => false
inductive Out (α : Type) where
  | ok (a : α) (r : En) | ex (c : Str) (p : List PyData)
abbrev M (α : Type) := En → Option (Out α)
def M.ret {α : Type} (a : α) : M α := fun r => some (.ok a r)
def M.bind {α β : Type} (m : M α) (k : α → M β) : M β := fun r => match m r with
  | some (.ok a r') => k a r'
  | some (.ex c p) => some (.ex c p)
  | none => none
def M.lift {α : Type} (o : Option α) : M α := fun r => match o with
  | some a => some (.ok a r)
  | none => none
/-- the frame: the heap and the view at the entry, the lists that are handed in and changed -/
structure Fm where
  H0 : Hp
  G0 : Hp
  ios : Nat → Option Addr
abbrev Ow := Nat → Option Addr
structure Rp (K : PySem.W.Frag) (F : Fm) (O : Ow) (G : Hp) (σ : L2.St) (H : Hp) (r : En) : Prop where
  sub : Same G H
  len : σ.length = r.length
  pl : ∀ (i : Nat) (d : PyData), r[i]? = some (Cel.pl d) → ∃ v, σ[i]? = some (some v) ∧ Dq K G v d
  ow : ∀ (i : Nat) (ds : List PyData), r[i]? = some (Cel.ow ds) → ∃ p xs, O i = some p ∧ σ[i]? = some (some (.ref p)) ∧ F.H0 p = none ∧ H p = some (.lst xs) ∧ DqAll K G xs ds
  io : ∀ (i : Nat) (ds : List PyData), r[i]? = some (Cel.io ds) → ∃ p xs, F.ios i = some p ∧ O i = some p ∧ σ[i]? = some (some (.ref p)) ∧ H p = some (.lst xs) ∧ DqAll K G xs ds
  dk : ∀ (i : Nat) (ks : List PyData), r[i]? = some (Cel.dk ks) → ∃ p nks as, σ[i]? = some (some (.ref p)) ∧ G p = some (DkO p nks as) ∧ keyNs ks = some nks ∧ DqAll K G (as.map V.ref) ks
  on : ∀ (i : Nat) (p : Addr), O i = some p → (∃ c, r[i]? = some c ∧ c.own = true) ∧ G p = none ∧ H p ≠ none ∧ (F.H0 p = none ∨ ∃ j, F.ios j = some p)
  inj : ∀ (i j : Nat) (p : Addr), O i = some p → O j = some p → i = j
  old : ∀ c o, F.H0 c = some o → (∀ i, F.ios i ≠ some c) → H c = some o
  nf : ∀ c, H c = none → F.H0 c = none
  g0 : Same F.G0 G
  gn : ∀ c, G c ≠ none → F.G0 c ≠ none ∨ F.H0 c = none
structure Go (O : Ow) (G H G' H' : Hp) : Prop where
  gg : Same G G'
  keep : ∀ c o, H c = some o → (∀ i, O i ≠ some c) → H' c = some o
  gn : ∀ c, G' c ≠ none → G c ≠ none ∨ H c = none
  nf : ∀ c, H' c = none → H c = none
/-- a step that writes nothing that was there -/
structure Ps (G H G' H' : Hp) : Prop where
  gg : Same G G'
  gh : Same G' H'
  hh : Same H H'
  gn : ∀ c, G' c ≠ none → G c ≠ none ∨ H c = none
theorem Go.refl {O : Ow} {G H : Hp} : Go O G H G H := ⟨Same.refl _, fun _ _ e _ => e, fun _ e => .inl e, fun _ e => e⟩
theorem Go.trans {O : Ow} {G H G1 H1 G2 H2 : Hp} (a : Go O G H G1 H1) (b : Go O G1 H1 G2 H2) : Go O G H G2 H2 :=
  ⟨a.gg.trans b.gg, fun c o e n => b.keep c o (a.keep c o e n) n, fun c e => by
    rcases b.gn c e with z | z
    · exact a.gn c z
    · exact .inr (a.nf c z), fun c e => a.nf c (b.nf c e)⟩
theorem Ps.go {O : Ow} {G H G' H' : Hp} (p : Ps G H G' H') : Go O G H G' H' := ⟨p.gg, fun c o e _ => p.hh c o e, p.gn, fun c e => p.hh.free e⟩
theorem Ps.refl {G H : Hp} (s : Same G H) : Ps G H G H := ⟨Same.refl _, s, Same.refl _, fun _ e => .inl e⟩
theorem Ps.trans {G H G1 H1 G2 H2 : Hp} (a : Ps G H G1 H1) (b : Ps G1 H1 G2 H2) : Ps G H G2 H2 :=
  ⟨a.gg.trans b.gg, b.gh, a.hh.trans b.hh, fun c e => by
    rcases b.gn c e with z | z
    · exact a.gn c z
    · exact .inr (a.hh.free z)⟩
theorem Ps.of_same {G H H' : Hp} (s : Same G H) (h : Same H H') : Ps G H G H' := ⟨Same.refl _, s.trans h, h, fun _ e => .inl e⟩
theorem some_ne {H : Hp} {c : Addr} {o : HO} (h : H c = some o) : H c ≠ none := by rw [h]; exact fun z => nomatch z
/-- a new object that is seen from now on -/
theorem same_new {H : Hp} {p : Addr} {o : HO} (h : H p = none) : Same H (upd H p o) := fun b x e => by
  rw [upd_ne (ne_of_none e h)]
  exact e
theorem Ps.new {G H H' : Hp} {p : Addr} {o : HO} (s : Same G H) (h : Same H H') (n : H p = none) (e : H' p = some o) : Ps G H (upd G p o) H' := by
  have gp : G p = none := s.free n
  refine ⟨same_new gp, fun c x q => ?_, h, fun c q => ?_⟩
  · by_cases z : c = p
    · subst z
      rw [upd_same] at q
      cases q
      exact e
    · rw [upd_ne z] at q
      exact h _ _ (s _ _ q)
  · by_cases z : c = p
    · subst z
      exact .inr n
    · rw [upd_ne z] at q
      exact .inl q
section
variable {K : PySem.W.Frag} {F : Fm} {O : Ow} {G G' H H' : Hp} {σ : L2.St} {r : En}
theorem Rp.ps (R : Rp K F O G σ H r) (p : Ps G H G' H') : Rp K F O G' σ H' r where
  sub := p.gh
  len := R.len
  pl := fun i d e => by
    obtain ⟨v, h1, h2⟩ := R.pl i d e
    exact ⟨v, h1, h2.sm p.gg⟩
  ow := fun i ds e => by
    obtain ⟨q, xs, h1, h2, h0, h3, h4⟩ := R.ow i ds e
    exact ⟨q, xs, h1, h2, h0, p.hh _ _ h3, h4.sm p.gg⟩
  io := fun i ds e => by
    obtain ⟨q, xs, h0, h1, h2, h3, h4⟩ := R.io i ds e
    exact ⟨q, xs, h0, h1, h2, p.hh _ _ h3, h4.sm p.gg⟩
  dk := fun i ks e => by
    obtain ⟨q, nks, as, h1, h2, h3, h4⟩ := R.dk i ks e
    exact ⟨q, nks, as, h1, p.gg _ _ h2, h3, h4.sm p.gg⟩
  on := fun i q e => by
    obtain ⟨h1, h2, h3, h4⟩ := R.on i q e
    refine ⟨h1, ?_, ?_, h4⟩
    · cases z : G' q with
      | none => rfl
      | some o =>
        rcases p.gn q (some_ne z) with y | y
        · exact absurd h2 y
        · exact absurd y h3
    · cases z : H q with
      | none => exact absurd z h3
      | some o => exact some_ne (p.hh _ _ z)
  inj := R.inj
  old := fun c o e n => p.hh _ _ (R.old c o e n)
  nf := fun c e => R.nf c (p.hh.free e)
  g0 := R.g0.trans p.gg
  gn := fun c e => by
    rcases p.gn c e with z | z
    · exact R.gn c z
    · exact .inr (R.nf c z)
end
abbrev XE := Str → List PyData → Hp → Prop
abbrev XN : XE := fun _ _ _ => False
/-- the heap at the start, the frame, the view and the heap behind -/
abbrev RR (β α : Type) := Hp → Ow → Fm → Hp → Hp → β → α → Prop
class Anti {β α : Type} (R : RR β α) : Prop where
  anti : ∀ {S S' : Hp} {O : Ow} {F : Fm} {G H : Hp} {b : β} {a : α}, (∀ c, S' c = none → S c = none) → R S' O F G H b a → R S O F G H b a
def rD (K : PySem.W.Frag) : RR V PyData := fun _ _ _ G _ v d => Dq K G v d
instance {K : PySem.W.Frag} : Anti (rD K) := ⟨fun _ h => h⟩
def rA (K : PySem.W.Frag) : RR (List V) (List PyData) := fun _ _ _ G _ vs ds => DqAll K G vs ds
instance {K : PySem.W.Frag} : Anti (rA K) := ⟨fun _ h => h⟩
def rB : RR Bool Bool := fun _ _ _ _ _ b c => b = c
instance : Anti rB := ⟨fun _ h => h⟩
def rF (K : PySem.W.Frag) : RR V (List PyData) := fun S O F G H v ds => ∃ p xs, v = .ref p ∧ S p = none ∧ G p = none ∧ F.H0 p = none ∧ (∀ i, O i ≠ some p) ∧ H p = some (.lst xs) ∧ DqAll K G xs ds
instance {K : PySem.W.Frag} : Anti (rF K) := ⟨fun k ⟨p, xs, h1, h2, h⟩ => ⟨p, xs, h1, k _ h2, h⟩⟩
def Fin {α β : Type} (K : PySem.W.Frag) (E : XE) (R : RR β α) (F : Fm) (O : Ow) (G : Hp) (σ : L2.St) (H : Hp) (Q : β → Hp → Prop) : Out α → Prop
  | .ok a r' => ∀ b G' H', Rp K F O G' σ H' r' → Go O G H G' H' → R H O F G' H' b a → Q b H'
  | .ex c p => ∀ H', (∀ c o, F.H0 c = some o → (∀ i, F.ios i ≠ some c) → H' c = some o) → E c p H'
def tM {α β : Type} (K : PySem.W.Frag) (E : XE) (R : RR β α) (m : M α) : L2.St → Hp → (β → Hp → Prop) → Prop := fun σ H Q =>
  ∃ F O G r out, Rp K F O G σ H r ∧ m r = some out ∧ Fin K E R F O G σ H Q out
section
variable {K : PySem.W.Frag} {E : XE} {F : Fm} {O : Ow} {G G1 H H1 : Hp} {σ : L2.St} {r : En} {α β α1 β1 : Type} {R : RR β α} {R1 : RR β1 α1} {Q : β → Hp → Prop} {Q1 : β1 → Hp → Prop} {out : Out α}
theorem Fin.via [Anti R] (g : Go O G H G1 H1) (f : Fin K E R F O G σ H Q out) : Fin K E R F O G1 σ H1 Q out := by
  cases out with
  | ok a r' => exact fun b G' H' p q z => f b G' H' p (g.trans q) (Anti.anti g.nf z)
  | ex c p => exact f
theorem tM.run [Anti R] {m : M α1} {k : α1 → M α} (P : Rp K F O G σ H r) (f : Fin K E R F O G σ H Q out) (e : m.bind k r = some out)
    (h : ∀ a r1 b G1 H1, Rp K F O G1 σ H1 r1 → Go O G H G1 H1 → R1 H O F G1 H1 b a → k a r1 = some out → Fin K E R F O G1 σ H1 Q out → Q1 b H1) : tM K E R1 m σ H Q1 := by
  cases em : m r with
  | none =>
    rw [M.bind, em] at e
    cases e
  | some o =>
    cases o with
    | ok a r1 =>
      rw [M.bind, em] at e
      exact ⟨F, O, G, r, _, P, em, fun b G1 H1 P1 g1 q => h a r1 b G1 H1 P1 g1 q e (f.via g1)⟩
    | ex c p =>
      rw [M.bind, em] at e
      cases e
      exact ⟨F, O, G, r, _, P, em, f⟩
/-- the last step: by values -/
theorem Fin.ok {a : α} {r' : En} {b : β} {G' H' : Hp} (f : Fin K E R F O G σ H Q (.ok a r')) (p : Ps G H G' H') (P : Rp K F O G σ H r') (q : R H O F G' H' b a) : Q b H' := f b G' H' (P.ps p) p.go q
theorem lift_ok {o : Option α} (h : M.lift o r = some out) : ∃ a, o = some a ∧ out = .ok a r := by
  unfold M.lift at h
  cases o with
  | none => cases h
  | some a => exact ⟨a, rfl, (Option.some.inj h).symm⟩
end
structure DE (K : PySem.W.Frag) (E : XE) (X : Cx) (e : Expr) (m : M PyData) : Prop where
  pe : X.K = K → PE X e (tM K E (rD K) m)
structure DF (K : PySem.W.Frag) (E : XE) (X : Cx) (e : Expr) (m : M (List PyData)) : Prop where
  pe : X.K = K → PE X e (tM K E (rF K) m)
structure DA (K : PySem.W.Frag) (E : XE) (X : Cx) (es : List Expr) (m : M (List PyData)) : Prop where
  pa : X.K = K → PA X es (tM K E (rA K) m)
structure DT (K : PySem.W.Frag) (E : XE) (X : Cx) (e : Expr) (m : M Bool) : Prop where
  pt : X.K = K → PT X e (tM K E rB m)
structure DW (K : PySem.W.Frag) (E : XE) (X : Cx) (e : Expr) (m : M Bool) : Prop where
  pw : X.K = K → PW X e (tM K E rB m)
section
variable {X : Cx} {e : Expr} {es : List Expr}
theorem PE.imp {t t' : TE} (h : PE X e t) (i : ∀ σ H Q, t' σ H Q → t σ H Q) : PE X e t' := ⟨fun pins s σ H Q I q => h.run pins s σ H Q I (i _ _ _ q)⟩
theorem PT.imp {t t' : TT} (h : PT X e t) (i : ∀ σ H Q, t' σ H Q → t σ H Q) : PT X e t' := ⟨fun pins s σ H Q I q => h.run pins s σ H Q I (i _ _ _ q)⟩
theorem PW.imp {t t' : TT} (h : PW X e t) (i : ∀ σ H Q, t' σ H Q → t σ H Q) : PW X e t' := ⟨fun w pins s σ H Q I q => h.run w pins s σ H Q I (i _ _ _ q)⟩
theorem PA.imp {t t' : TA} (h : PA X es t) (i : ∀ σ H Q, t' σ H Q → t σ H Q) : PA X es t' := ⟨fun pos pins s σ H Q I q => h.run pos pins s σ H Q I (i _ _ _ q)⟩
end
def rPure (K : PySem.W.Frag) (g : List PyData → Option PyData) : List V → Hp → VK → Prop := fun vs H Q => ∃ G ds z, Same G H ∧ DqAll K G vs ds ∧ g ds = some z ∧ ∀ v G' H', Ps G H G' H' → Dq K G' v z → Q v H'
def rPure2 (K : PySem.W.Frag) (g : PyData → PyData → Option PyData) : R2 := fun x y H Q => ∃ G d e z, Same G H ∧ Dq K G x d ∧ Dq K G y e ∧ g d e = some z ∧ ∀ v G' H', Ps G H G' H' → Dq K G' v z → Q v H'
/-- a call that lays a list: nobody else knows it -/
def rFresh (K : PySem.W.Frag) (g : List PyData → Option (List PyData)) : List V → Hp → VK → Prop := fun vs H Q => ∃ G ds zs, Same G H ∧ DqAll K G vs ds ∧ g ds = some zs ∧ ∀ p xs G' H', Ps G H G' H' → G' p = none → H p = none → H' p = some (.lst xs) → DqAll K G' xs zs → Q (.ref p) H'
def CallD (K : PySem.W.Frag) (X : Cx) (f : Value) (g : List PyData → Option PyData) : Prop := X.K = K → CallR X f (rPure K g)
def CallF (K : PySem.W.Frag) (X : Cx) (f : Value) (g : List PyData → Option (List PyData)) : Prop := X.K = K → CallR X f (rFresh K g)
def OpD (K : PySem.W.Frag) (X : Cx) (f : Value → Value → Sem Value) (g : PyData → PyData → Option PyData) : Prop := X.K = K → OpR X f (rPure2 K g)
def spD (K : PySem.W.Frag) (g : List PyData → Option PyData) : Sp := fun vs H Q _ => rPure K g vs H Q
def mV (i : Nat) : M PyData := fun r => match r[i]? with
  | some (Cel.pl d) => some (.ok d r)
  | _ => none
section
variable {K : PySem.W.Frag} {E : XE} {X : Cx} {a b e : Expr} {es : List Expr} {ma mb : M PyData} {pos : Pos}
theorem de_v (i : Nat) {x : Str} (hN : X.N[i]? = some x := by rfl) (hv : Vis X.env.scope x := by first | exact Or.inl rfl | exact Or.inr (Or.inl rfl) | exact Or.inr (Or.inr rfl)) (hd : (x == ("__debug__" : Str)) = false := by decide)
    (hcd : (x == ("__classdict__" : Str)) = false := by decide) : DE K E X (.Name x pos) (mV i) := ⟨fun _ => PE.imp (pe_var hN hv hd hcd) fun σ H Q ⟨F, O, G, r, out, P, em, f⟩ => by
  unfold mV at em
  split at em
  · rename_i d hd'
    cases em
    obtain ⟨v, h1, h2⟩ := P.pl i d hd'
    exact ⟨v, h1, f.ok (Ps.refl P.sub) P h2⟩
  · cases em⟩
theorem de_c {v : V} {d : PyData} (h : PE X e (tC v)) (hd : ∀ G, Dq K G v d) : DE K E X e (M.ret d) := ⟨fun _ => PE.imp h fun σ H Q ⟨F, O, G, r, out, P, em, f⟩ => by
  cases em
  exact f.ok (Ps.refl P.sub) P (hd G)⟩
theorem de_int {i : Int} {j} : DE K E X (.Constant (.int i) j pos) (M.ret (.int i)) := de_c pe_int fun _ => .int i
theorem de_bl {b : Bool} {j} : DE K E X (.Constant (.bool b) j pos) (M.ret (.bool b)) := de_c pe_bl fun _ => .bl b
/-- a constant of the module -/
theorem de_g {x : Str} {v : V} {u : Value} {d : PyData} (hg : Gl X x) (hm : X.mg x = some u) (r : RelV v u) (hd : ∀ G, Dq K G v d) (hdb : (x == ("__debug__" : Str)) = false := by decide) : DE K E X (.Name x pos) (M.ret d) := de_c (pe_glob hg hm r hdb) hd
theorem da_nil : DA K E X [] (M.ret []) := ⟨fun _ => PA.imp pa_nil fun σ H Q ⟨F, O, G, r, out, P, em, f⟩ => by
  cases em
  exact f.ok (Ps.refl P.sub) P .nil⟩
theorem da_cons {m : M (List PyData)} (ha : DE K E X e ma) (hr : DA K E X es m) (hs : starEach (e :: es) X.env = (false, eval e X.env) :: starEach es X.env := by rfl) :
    DA K E X (e :: es) (ma.bind fun d => m.bind fun ds => M.ret (d :: ds)) := ⟨fun hK => PA.imp (pa_cons (ha.pe hK) (hr.pa hK) hs) fun σ H Q ⟨F, O, G, r, out, P, em, f⟩ => by
  refine tM.run P f em fun d r1 x G1 H1 P1 g1 q1 e1 f1 => ?_
  refine tM.run P1 f1 e1 fun ds r2 xs G2 H2 P2 g2 q2 e2 f2 => ?_
  cases e2
  exact f2.ok (Ps.refl P2.sub) P2 (.cons (q1.sm g2.gg) q2)⟩
theorem de_op {op : Operator} {g : PyData → PyData → Option PyData} (ho : OpD K X (binaryOp op) g) (ha : DE K E X a ma) (hb : DE K E X b mb) :
    DE K E X (.BinOp a op b pos) (ma.bind fun d => mb.bind fun e => M.lift (g d e)) := ⟨fun hK => PE.imp (pe_op (ho hK) (ha.pe hK) (hb.pe hK)) fun σ H Q ⟨F, O, G, r, out, P, em, f⟩ => by
  refine tM.run P f em fun d r1 x G1 H1 P1 g1 q1 e1 f1 => ?_
  refine tM.run P1 f1 e1 fun ds r2 y G2 H2 P2 g2 q2 e2 f2 => ?_
  obtain ⟨z, hz, rfl⟩ := lift_ok e2
  exact ⟨G2, _, _, z, P2.sub, q1.sm g2.gg, q2, hz, fun v G' H' p q => f2.ok p P2 q⟩⟩
theorem de_cmp {op : CmpOp} {g : PyData → PyData → Option PyData} (ho : OpD K X (compareOp op) g) (ha : DE K E X a ma) (hb : DE K E X b mb) (hm : behindInMarks op b = false) :
    DE K E X (.Compare a [op] [b] pos) (ma.bind fun d => mb.bind fun e => M.lift (g d e)) := ⟨fun hK => PE.imp (pe_cmpR (ho hK) (ha.pe hK) (hb.pe hK) hm) fun σ H Q ⟨F, O, G, r, out, P, em, f⟩ => by
  refine tM.run P f em fun d r1 x G1 H1 P1 g1 q1 e1 f1 => ?_
  refine tM.run P1 f1 e1 fun ds r2 y G2 H2 P2 g2 q2 e2 f2 => ?_
  obtain ⟨z, hz, rfl⟩ := lift_ok e2
  exact ⟨G2, _, _, z, P2.sub, q1.sm g2.gg, q2, hz, fun v G' H' p q => f2.ok p P2 q⟩⟩
def asBool : PyData → Option Bool
  | .bool b => some b
  | _ => none
theorem dp_bool {G : Hp} {v : V} {b : Bool} (h : Dq K G v (.bool b)) : v = .bl b := by cases h; rfl
theorem asBool_some {d : PyData} {b : Bool} (h : asBool d = some b) : d = .bool b := by
  cases d <;> first | (cases h; rfl) | cases h
theorem dt_cmp {op : CmpOp} {g : PyData → PyData → Option PyData} (ho : OpD K X (compareOp op) g) (ha : DE K E X a ma) (hb : DE K E X b mb) (hm : behindInMarks op b = false) :
    DT K E X (.Compare a [op] [b] pos) (ma.bind fun d => mb.bind fun e => M.lift ((g d e).bind asBool)) := ⟨fun hK => PT.imp (pt_cmpR (ho hK) (ha.pe hK) (hb.pe hK) hm) fun σ H Q ⟨F, O, G, r, out, P, em, f⟩ => by
  refine tM.run P f em fun d r1 x G1 H1 P1 g1 q1 e1 f1 => ?_
  refine tM.run P1 f1 e1 fun ds r2 y G2 H2 P2 g2 q2 e2 f2 => ?_
  obtain ⟨c, hz, rfl⟩ := lift_ok e2
  obtain ⟨z, h1, h2⟩ := Option.bind_eq_some_iff.mp hz
  cases asBool_some h2
  exact ⟨G2, _, _, _, P2.sub, q1.sm g2.gg, q2, h1, fun v G' H' p q => ⟨c, dp_bool q, f2.ok p P2 rfl⟩⟩⟩
/-- and, or, not -/
def mAnd (m n : M Bool) : M Bool := m.bind fun b => if b then n else M.ret false
def mOr (m n : M Bool) : M Bool := m.bind fun b => if b then M.ret true else n
theorem dw_and1 {m : M Bool} (ha : DT K E X a m) : DW K E X (.BoolOp .And [a] pos) m := ⟨fun hK => pw_and1 (ha.pt hK)⟩
theorem dw_or1 {m : M Bool} (ha : DT K E X a m) : DW K E X (.BoolOp .Or [a] pos) m := ⟨fun hK => pw_or1 (ha.pt hK)⟩
theorem dw_and {m n : M Bool} (ha : DT K E X a m) (hb : DW K E X (.BoolOp .And (b :: es) pos) n) : DW K E X (.BoolOp .And (a :: b :: es) pos) (mAnd m n) :=
  ⟨fun hK => PW.imp (pw_and (ha.pt hK) (hb.pw hK)) fun σ H Q ⟨F, O, G, r, out, P, em, f⟩ => by
  refine tM.run P f em fun d r1 x G1 H1 P1 g1 q1 e1 f1 => ?_
  cases q1
  cases d with
  | true => exact iteT ⟨F, O, G1, r1, _, P1, e1, f1⟩
  | false =>
    cases e1
    exact iteF (f1.ok (Ps.refl P1.sub) P1 rfl)⟩
theorem dw_or {m n : M Bool} (ha : DT K E X a m) (hb : DW K E X (.BoolOp .Or (b :: es) pos) n) : DW K E X (.BoolOp .Or (a :: b :: es) pos) (mOr m n) :=
  ⟨fun hK => PW.imp (pw_or (ha.pt hK) (hb.pw hK)) fun σ H Q ⟨F, O, G, r, out, P, em, f⟩ => by
  refine tM.run P f em fun d r1 x G1 H1 P1 g1 q1 e1 f1 => ?_
  cases q1
  cases d with
  | true =>
    cases e1
    exact iteT (f1.ok (Ps.refl P1.sub) P1 rfl)
  | false => exact iteF ⟨F, O, G1, r1, _, P1, e1, f1⟩⟩
theorem DW.pt {m : M Bool} (h : DW K E X e m) : DT K E X e m := ⟨fun hK => (h.pw hK).pt⟩
theorem dt_not {m : M Bool} (ha : DT K E X a m) : DT K E X (.UnaryOp .Not a pos) (m.bind fun b => M.ret (!b)) := ⟨fun hK => PT.imp (pt_not (ha.pt hK)) fun σ H Q ⟨F, O, G, r, out, P, em, f⟩ => by
  refine tM.run P f em fun d r1 x G1 H1 P1 g1 q1 e1 f1 => ?_
  cases q1
  cases e1
  exact f1.ok (Ps.refl P1.sub) P1 rfl⟩
/-- .. as values -/
def mAndV (m n : M PyData) : M PyData := m.bind fun d => (M.lift (asBool d)).bind fun b => if b then n else M.ret (.bool false)
def mOrV (m n : M PyData) : M PyData := m.bind fun d => (M.lift (asBool d)).bind fun b => if b then M.ret (.bool true) else n
theorem bind_lift_ok {α β : Type} {o : Option α} {k : α → M β} {r : En} {out : Out β} (h : (M.lift o).bind k r = some out) : ∃ a, o = some a ∧ k a r = some out := by
  cases o with
  | none => cases h
  | some a => exact ⟨a, rfl, h⟩
theorem de_one {op} (h : DE K E X a ma) : DE K E X (.BoolOp op [a] pos) ma := ⟨fun hK => pe_one (h.pe hK)⟩
theorem de_and (ha : DE K E X a ma) (hb : DE K E X (.BoolOp .And (b :: es) pos) mb) : DE K E X (.BoolOp .And (a :: b :: es) pos) (mAndV ma mb) :=
  ⟨fun hK => PE.imp (pe_and (ha.pe hK) (hb.pe hK)) fun σ H Q ⟨F, O, G, r, out, P, em, f⟩ => by
  refine tM.run P f em fun d r1 x G1 H1 P1 g1 q1 e1 f1 => ?_
  obtain ⟨c, hc, e2⟩ := bind_lift_ok e1
  cases asBool_some hc
  refine ⟨c, dp_bool q1, ?_⟩
  cases c with
  | true => exact iteT ⟨F, O, G1, r1, _, P1, e2, f1⟩
  | false =>
    cases e2
    exact iteF (f1.ok (Ps.refl P1.sub) P1 (.bl _))⟩
theorem de_not (ha : DE K E X a ma) : DE K E X (.UnaryOp .Not a pos) (ma.bind fun d => (M.lift (asBool d)).bind fun b => M.ret (.bool (!b))) := ⟨fun hK => PE.imp (pe_not (ha.pe hK)) fun σ H Q ⟨F, O, G, r, out, P, em, f⟩ => by
  refine tM.run P f em fun d r1 x G1 H1 P1 g1 q1 e1 f1 => ?_
  obtain ⟨c, hc, e2⟩ := bind_lift_ok e1
  cases asBool_some hc
  cases e2
  exact ⟨c, dp_bool q1, f1.ok (Ps.refl P1.sub) P1 (.bl _)⟩⟩
def mIf {α : Type} (c : M Bool) (m n : M α) : M α := c.bind fun b => if b then m else n
end
end DL
namespace DL
open PySem PySem.Spec PyProof.Rows L2 Lk
def tupM (ds : List PyData) : Option PyData := if ds.length ≤ 1000000 then some (.tuple ds) else none
def lstM (ds : List PyData) : Option (List PyData) := if ds.length ≤ 1000000 then some ds else none
theorem line_le {n : Nat} (h : n ≤ 1000000) : n ≤ sizeLine := by
  have : sizeLine = 2 ^ 24 := rfl
  omega
theorem line_lt {n : Nat} (h : n ≤ 1000000) : n < sizeLine := by
  have : sizeLine = 2 ^ 24 := rfl
  omega
def M.map {α β : Type} (f : α → β) (m : M α) : M β := m.bind fun a => M.ret (f a)
section
variable {K : PySem.W.Frag} {E : XE} {X : Cx} {a b e : Expr} {es : List Expr} {ma mb : M PyData} {m : M (List PyData)} {pos : Pos}
theorem de_tup {x1} (h : DA K E X es m) : DE K E X (.Tuple es x1 pos) (m.bind fun ds => M.lift (tupM ds)) := ⟨fun hK => PE.imp (pe_tupN (h.pa hK)) fun σ H Q ⟨F, O, G, r, out, P, em, f⟩ => by
  refine tM.run P f em fun ds r1 xs G1 H1 P1 g1 q1 e1 f1 => ?_
  obtain ⟨z, hz, rfl⟩ := lift_ok e1
  unfold tupM at hz
  split at hz
  · rename_i hl
    cases hz
    rw [← q1.length] at hl
    exact ⟨line_le hl, fun p H2 s n e2 => f1.ok (Ps.new P1.sub s n e2) P1 (.tup (.inl (.inl upd_same)) (q1.sm (same_new (P1.sub.free n))))⟩
  · cases hz⟩
theorem df_lst (h : DA K E X es m) : DF K E X (.List es pos) (m.bind fun ds => M.lift (lstM ds)) := ⟨fun hK => PE.imp (pe_lstN (h.pa hK)) fun σ H Q ⟨F, O, G, r, out, P, em, f⟩ => by
  refine tM.run P f em fun ds r1 xs G1 H1 P1 g1 q1 e1 f1 => ?_
  obtain ⟨z, hz, rfl⟩ := lift_ok e1
  unfold lstM at hz
  split at hz
  · rename_i hl
    cases hz
    rw [← q1.length] at hl
    refine ⟨line_le hl, fun p H2 s n e2 => f1.ok (Ps.of_same P1.sub s) P1 ⟨p, xs, rfl, n, P1.sub.free n, P1.nf _ n, fun i z => ?_, e2, q1⟩⟩
    exact (P1.on i p z).2.2.1 n
  · cases hz⟩
theorem Rp.see {F : Fm} {O : Ow} {G H : Hp} {σ : L2.St} {r : En} {p : Addr} {xs : List V} (R : Rp K F O G σ H r) (h : H p = some (.lst xs)) (g : G p = none) (h0 : F.H0 p = none) (o : ∀ i, O i ≠ some p) : Rp K F O (upd G p (.lst xs)) σ H r where
  sub := fun c x q => by
    by_cases z : c = p
    · subst z
      rw [upd_same] at q
      cases q
      exact h
    · rw [upd_ne z] at q
      exact R.sub _ _ q
  len := R.len
  pl := fun i d e => by
    obtain ⟨v, h1, h2⟩ := R.pl i d e
    exact ⟨v, h1, h2.sm (same_new g)⟩
  ow := fun i ds e => by
    obtain ⟨q, xs, h1, h2, h0, h3, h4⟩ := R.ow i ds e
    exact ⟨q, xs, h1, h2, h0, h3, h4.sm (same_new g)⟩
  io := fun i ds e => by
    obtain ⟨q, xs, h0, h1, h2, h3, h4⟩ := R.io i ds e
    exact ⟨q, xs, h0, h1, h2, h3, h4.sm (same_new g)⟩
  dk := fun i ks e => by
    obtain ⟨q, nks, as, h1, h2, h3, h4⟩ := R.dk i ks e
    exact ⟨q, nks, as, h1, same_new g _ _ h2, h3, h4.sm (same_new g)⟩
  on := fun i q e => by
    obtain ⟨h1, h2, h3, h4⟩ := R.on i q e
    refine ⟨h1, ?_, h3, h4⟩
    rw [upd_ne fun z => o i (by rw [e, z])]
    exact h2
  inj := R.inj
  old := R.old
  nf := R.nf
  g0 := R.g0.trans (same_new g)
  gn := fun c e => by
    by_cases z : c = p
    · exact .inr (by rw [z]; exact h0)
    · rw [upd_ne z] at e
      exact R.gn c e
/-- a new list, seen from now on -/
theorem de_fr (h : DF K E X e m) : DE K E X e (m.map PyData.list) := ⟨fun hK => PE.imp (h.pe hK) fun σ H Q ⟨F, O, G, r, out, P, em, f⟩ => by
  refine tM.run P f em fun ds r1 v G1 H1 P1 g1 q1 e1 f1 => ?_
  cases e1
  obtain ⟨p, xs, rfl, hs, hg, h0, ho, hp, ha⟩ := q1
  cases em2 : m r with
  | none =>
    rw [M.map, M.bind, em2] at em
    cases em
  | some o =>
    cases o with
    | ex c z =>
      rw [M.map, M.bind, em2] at em
      cases em
    | ok ds' r' =>
      rw [M.map, M.bind, em2] at em
      cases em
      refine f _ _ _ (P1.see hp hg h0 ho) ?_ (.lst (.inl (.inl upd_same)) (ha.sm (same_new hg)))
      refine ⟨g1.gg.trans (same_new hg), g1.keep, fun c e => ?_, g1.nf⟩
      by_cases z : c = p
      · rw [z]
        exact .inr hs
      · rw [upd_ne z] at e
        exact g1.gn c e⟩
theorem de_call {x : Str} {p : Pos} {k : Nat} {f : Addr} {fd : FuncData} {ps : List Str} {g : List PyData → Option PyData} (Fk : FnOk X.prog X.w K X.mg X.base CX0 k f fd ps (spD K g)) (hb : Binds K fd ps []) (hm : X.mg x = some (.ref f)) (hk : PySem.W.keepIn K (.ref f) = true) (hr : Room k X.A) (hg : Gl X x)
    (ha : DA K E X (e :: es) m) (hdb : (x == ("__debug__" : Str)) = false := by decide) (he : starEach (e :: es) X.env = (false, eval e X.env) :: starEach es X.env := by rfl)
    (hpl : (backTo pos (starEach es X.env)).any (·.1) = false := by rfl) : DE K E X (.Call (.Name x p) (e :: es) [] pos) (m.bind fun ds => M.lift (g ds)) := ⟨fun hK => by
  subst hK
  refine PE.imp (pe_call (E := E0) Fk hr hg hm hk hb .nil pass0 (ha.pa rfl) hdb he hpl) fun σ H Q ⟨F, O, G, r, out, P, em, f⟩ => ?_
  refine tM.run P f em fun ds r1 xs G1 H1 P1 g1 q1 e1 f1 => ?_
  obtain ⟨z, hz, rfl⟩ := lift_ok e1
  rw [List.append_nil]
  exact ⟨G1, ds, z, P1.sub, q1, hz, fun v G' H' p q => f1.ok p P1 q⟩⟩
theorem de_callB {x : Str} {p : Pos} {id : String} {g : List PyData → Option PyData} (hc : CallD K X (.builtin id) g) (hg : Gl X x) (hm : X.mg x = none) (hv : bootBuiltins x = some (.builtin id)) (ha : DA K E X (e :: es) m) (hn : x ≠ "__name__" := by decide) (hdb : (x == ("__debug__" : Str)) = false := by decide)
    (he : starEach (e :: es) X.env = (false, eval e X.env) :: starEach es X.env := by rfl) (hpl : (backTo pos (starEach es X.env)).any (·.1) = false := by rfl) : DE K E X (.Call (.Name x p) (e :: es) [] pos) (m.bind fun ds => M.lift (g ds)) := ⟨fun hK => by
  refine PE.imp (pe_callB (hc hK) hg hm hv (ha.pa hK) hn hdb he hpl) fun σ H Q ⟨F, O, G, r, out, P, em, f⟩ => ?_
  refine tM.run P f em fun ds r1 xs G1 H1 P1 g1 q1 e1 f1 => ?_
  obtain ⟨z, hz, rfl⟩ := lift_ok e1
  exact ⟨G1, ds, z, P1.sub, q1, hz, fun v G' H' p q => f1.ok p P1 q⟩⟩
theorem de_callTy {x : Str} {p : Pos} {T : String} {g : List PyData → Option PyData} (hc : CallD K X (.type T) g) (hg : Gl X x) (hm : X.mg x = none) (hv : bootBuiltins x = some (.type T)) (ha : DA K E X (e :: es) m) (hn : x ≠ "__name__" := by decide) (hdb : (x == ("__debug__" : Str)) = false := by decide)
    (he : starEach (e :: es) X.env = (false, eval e X.env) :: starEach es X.env := by rfl) (hpl : (backTo pos (starEach es X.env)).any (·.1) = false := by rfl) : DE K E X (.Call (.Name x p) (e :: es) [] pos) (m.bind fun ds => M.lift (g ds)) := ⟨fun hK => by
  refine PE.imp (pe_callTy (hc hK) hg hm hv (ha.pa hK) hn hdb he hpl) fun σ H Q ⟨F, O, G, r, out, P, em, f⟩ => ?_
  refine tM.run P f em fun ds r1 xs G1 H1 P1 g1 q1 e1 f1 => ?_
  obtain ⟨z, hz, rfl⟩ := lift_ok e1
  exact ⟨G1, ds, z, P1.sub, q1, hz, fun v G' H' p q => f1.ok p P1 q⟩⟩
theorem df_callB {x : Str} {p : Pos} {id : String} {g : List PyData → Option (List PyData)} (hc : CallF K X (.builtin id) g) (hg : Gl X x) (hm : X.mg x = none) (hv : bootBuiltins x = some (.builtin id)) (ha : DA K E X (e :: es) m) (hn : x ≠ "__name__" := by decide) (hdb : (x == ("__debug__" : Str)) = false := by decide)
    (he : starEach (e :: es) X.env = (false, eval e X.env) :: starEach es X.env := by rfl) (hpl : (backTo pos (starEach es X.env)).any (·.1) = false := by rfl) : DF K E X (.Call (.Name x p) (e :: es) [] pos) (m.bind fun ds => M.lift (g ds)) := ⟨fun hK => by
  refine PE.imp (pe_callB (hc hK) hg hm hv (ha.pa hK) hn hdb he hpl) fun σ H Q ⟨F, O, G, r, out, P, em, f⟩ => ?_
  refine tM.run P f em fun ds r1 xs G1 H1 P1 g1 q1 e1 f1 => ?_
  obtain ⟨z, hz, rfl⟩ := lift_ok e1
  exact ⟨G1, ds, z, P1.sub, q1, hz, fun p ys G' H' ps gp hp e2 q => f1.ok ps P1 ⟨p, ys, rfl, hp, gp, P1.nf _ hp, fun i z => (P1.on i p z).2.2.1 hp, e2, q⟩⟩⟩
theorem df_callTy {x : Str} {p : Pos} {T : String} {g : List PyData → Option (List PyData)} (hc : CallF K X (.type T) g) (hg : Gl X x) (hm : X.mg x = none) (hv : bootBuiltins x = some (.type T)) (ha : DA K E X (e :: es) m) (hn : x ≠ "__name__" := by decide) (hdb : (x == ("__debug__" : Str)) = false := by decide)
    (he : starEach (e :: es) X.env = (false, eval e X.env) :: starEach es X.env := by rfl) (hpl : (backTo pos (starEach es X.env)).any (·.1) = false := by rfl) : DF K E X (.Call (.Name x p) (e :: es) [] pos) (m.bind fun ds => M.lift (g ds)) := ⟨fun hK => by
  refine PE.imp (pe_callTy (hc hK) hg hm hv (ha.pa hK) hn hdb he hpl) fun σ H Q ⟨F, O, G, r, out, P, em, f⟩ => ?_
  refine tM.run P f em fun ds r1 xs G1 H1 P1 g1 q1 e1 f1 => ?_
  obtain ⟨z, hz, rfl⟩ := lift_ok e1
  exact ⟨G1, ds, z, P1.sub, q1, hz, fun p ys G' H' ps gp hp e2 q => f1.ok ps P1 ⟨p, ys, rfl, hp, gp, P1.nf _ hp, fun i z => (P1.on i p z).2.2.1 hp, e2, q⟩⟩⟩
/-- isinstance(e, T) -/
theorem de_isi {T : Str} {n : String} {p p2 : Pos} (hT : n ∈ ["int", "bool", "list", "tuple", "str"]) (hg : Gl X "isinstance") (hm : X.mg "isinstance" = none) (hgT : Gl X T) (hmT : X.mg T = none) (hvT : bootBuiltins T = some (.type n)) (ha : DE K E X e ma) (hn : T ≠ "__name__" := by decide) (hdb : (T == ("__debug__" : Str)) = false := by decide)
    (hs1 : starEach [e, .Name T p2] X.env = (false, eval e X.env) :: starEach [.Name T p2] X.env := by rfl) (hs2 : starEach [.Name T p2] X.env = (false, eval (.Name T p2) X.env) :: starEach [] X.env := by rfl) (hpl : (backTo pos (starEach [.Name T p2] X.env)).any (·.1) = false := by rfl) :
    DE K E X (.Call (.Name "isinstance" p) [e, .Name T p2] [] pos) (ma.bind fun d => M.ret (.bool (isTy n d))) := ⟨fun hK => by
  refine PE.imp (pe_callB (call_isiDK (K := K) n hK hT) hg hm (by decide +kernel) (pa_cons (ha.pe hK) (pa_cons (pe_bltn (v := .ty n) hgT hmT hvT rfl hn hdb) pa_nil hs2) hs1) (by decide) (by decide) hs1 hpl) fun σ H Q ⟨F, O, G, r, out, P, em, f⟩ => ?_
  refine tM.run P f em fun d r1 x G1 H1 P1 g1 q1 e1 f1 => ?_
  cases e1
  exact ⟨x, d, rfl, (q1.sm P1.sub).dp, f1.ok (Ps.refl P1.sub) P1 (.bl _)⟩⟩
def IxD (K : PySem.W.Frag) (X : Cx) (g : PyData → PyData → Option PyData) : Prop := X.K = K → IxR X (rPure2 K g)
theorem de_ix {g : PyData → PyData → Option PyData} (hr : IxD K X g) (ha : DE K E X a ma) (hb : DE K E X b mb) (hs : PlainIx b) : DE K E X (.Subscript a b pos) (ma.bind fun d => mb.bind fun e => M.lift (g d e)) := ⟨fun hK => PE.imp (pe_ix (hr hK) (ha.pe hK) (hb.pe hK) hs) fun σ H Q ⟨F, O, G, r, out, P, em, f⟩ => by
  refine tM.run P f em fun d r1 x G1 H1 P1 g1 q1 e1 f1 => ?_
  refine tM.run P1 f1 e1 fun ds r2 y G2 H2 P2 g2 q2 e2 f2 => ?_
  obtain ⟨z, hz, rfl⟩ := lift_ok e2
  exact ⟨G2, _, _, z, P2.sub, q1.sm g2.gg, q2, hz, fun v G' H' p q => f2.ok p P2 q⟩⟩
def ixM : PyData → PyData → Option PyData
  | .list ds, .int i => atI ds i
  | .tuple ds, .int i => atI ds i
  | _, _ => none
theorem atI_dq {G : Hp} {vs : List V} {ds : List PyData} {i : Int} {d : PyData} (h : DqAll K G vs ds) (e : atI ds i = some d) : ∃ v, atI vs i = some v ∧ Dq K G v d := by
  unfold atI at e ⊢
  rw [h.length]
  obtain ⟨j, h1, h2⟩ := Option.bind_eq_some_iff.mp e
  obtain ⟨v, h3, h4⟩ := h.get h2
  exact ⟨v, by rw [h1]; exact h3, h4⟩
theorem ixd : IxD K X ixM := fun hK => by
  subst hK
  intro val sl pins s σ H x y v u Q I rx ry h hps
  obtain ⟨G, d, e, z, sg, hd, he, hz, q⟩ := h
  cases d with
  | list ds =>
    cases e with
    | int i =>
      cases hd with
      | lst hs ha =>
        cases he
        obtain ⟨w, h1, h2⟩ := atI_dq ha hz
        exact ix_list val sl pins s σ H _ _ v u Q I rx ry ⟨_, _, _, w, rfl, rfl, (sg.seq hs), h1, q w G H (Ps.refl sg) h2⟩ hps
    | _ => cases hz
  | tuple ds =>
    cases e with
    | int i =>
      cases hd with
      | tup hs ha =>
        cases he
        obtain ⟨w, h1, h2⟩ := atI_dq ha hz
        exact ix_tup val sl pins s σ H _ _ v u Q I rx ry ⟨_, _, _, w, rfl, rfl, Lk.Same.tup sg hs, h1, q w G H (Ps.refl sg) h2⟩ hps
    | _ => cases hz
  | _ => cases hz
/-- a slice -/
structure DO (K : PySem.W.Frag) (E : XE) (X : Cx) (e : Option Expr) (m : M (Option Int)) : Prop where
  po : X.K = K → PO X e (tM K E (fun _ _ _ _ _ (b c : Option Int) => b = c) m)
instance : Anti (fun _ _ _ _ _ (b c : Option Int) => b = c) := ⟨fun _ h => h⟩
def asInt : PyData → Option Int
  | .int i => some i
  | _ => none
theorem asInt_some {d : PyData} {i : Int} (h : asInt d = some i) : d = .int i := by
  cases d <;> first | (cases h; rfl) | cases h
theorem PO.imp {e : Option Expr} {t t' : TO} (h : PO X e t) (i : ∀ σ H Q, t' σ H Q → t σ H Q) : PO X e t' := ⟨fun pins s σ H Q I q => h.run pins s σ H Q I (i _ _ _ q)⟩
theorem do_some (ha : DE K E X e ma) : DO K E X (some e) (ma.bind fun d => M.lift ((asInt d).map some)) := ⟨fun hK => PO.imp (po_some (ha.pe hK)) fun σ H Q ⟨F, O, G, r, out, P, em, f⟩ => by
  refine tM.run P f em fun d r1 x G1 H1 P1 g1 q1 e1 f1 => ?_
  obtain ⟨z, hz, rfl⟩ := lift_ok e1
  obtain ⟨i, hi, rfl⟩ := Option.map_eq_some_iff.mp hz
  cases asInt_some hi
  cases q1
  exact ⟨i, rfl, f1.ok (Ps.refl P1.sub) P1 rfl⟩⟩
def cutD (xs : List PyData) (lo hi : Option Int) : List PyData := (xs.drop (HT.sIx xs.length 0 lo)).take (HT.sIx xs.length xs.length hi - HT.sIx xs.length 0 lo)
theorem DqAll.cut {G : Hp} {vs : List V} {ds : List PyData} (h : DqAll K G vs ds) (lo hi : Option Int) : DqAll K G (cutV vs lo hi) (cutD ds lo hi) := by
  unfold cutV cutD
  rw [h.length]
  exact (h.drop _).take _
def asList : PyData → Option (List PyData)
  | .list ds => some ds
  | _ => none
theorem asList_some {d : PyData} {ds : List PyData} (h : asList d = some ds) : d = .list ds := by
  cases d <;> first | (cases h; rfl) | cases h
theorem df_slice {lo hi : Option Expr} {ml mh : M (Option Int)} {p2 : Pos} (ha : DE K E X e ma) (hl : DO K E X lo ml) (hh : DO K E X hi mh) :
    DF K E X (.Subscript e (.Slice lo hi none p2) pos) (ma.bind fun d => ml.bind fun l => mh.bind fun h => M.lift ((asList d).map fun ds => cutD ds l h)) := ⟨fun hK => by
  subst hK
  refine PE.imp (pe_slice sl_listN (ha.pe rfl) (hl.po rfl) (hh.po rfl)) fun σ H Q ⟨F, O, G, r, out, P, em, f⟩ => ?_
  refine tM.run P f em fun d r1 x G1 H1 P1 g1 q1 e1 f1 => ?_
  refine tM.run P1 f1 e1 fun l r2 l' G2 H2 P2 g2 q2 e2 f2 => ?_
  refine tM.run P2 f2 e2 fun h r3 h' G3 H3 P3 g3 q3 e3 f3 => ?_
  cases q2
  cases q3
  obtain ⟨z, hz, rfl⟩ := lift_ok e3
  obtain ⟨ds, hd, rfl⟩ := Option.map_eq_some_iff.mp hz
  cases asList_some hd
  have q1' := (q1.sm g2.gg).sm g3.gg
  cases q1' with
  | lst hs hx => exact ⟨_, _, rfl, (P3.sub.seq hs), fun p H4 s n e4 => f3.ok (Ps.of_same P3.sub s) P3 ⟨p, _, rfl, n, P3.sub.free n, P3.nf _ n, fun i z => (P3.on i p z).2.2.1 n, e4, hx.cut _ _⟩⟩⟩
def asTup : PyData → Option (List PyData)
  | .tuple ds => some ds
  | _ => none
end
end DL
namespace DL
open PySem PySem.Spec PyProof.Rows L2 Lk
section
variable {K : PySem.W.Frag} {X : Cx}
theorem op_catR : OpR X (binaryOp .Add) (fun x y H Q => ∃ l b xs zs, x = .ref l ∧ y = .ref b ∧ SqL X.K H l xs ∧ SqL X.K H b zs ∧ xs.length + zs.length ≤ sizeLine ∧ New (.lst (xs ++ zs)) H Q) := by
  intro pins s σ H x y v u Q I rx ry h
  obtain ⟨l, b, xs, zs, rfl, rfl, hH, hB, hz, q⟩ := h
  cases rx
  cases ry
  obtain ⟨its, r, ⟨⟨cls, dd, data, sl⟩, n, ho, hc, _, hd⟩, hl⟩ := I.list hH
  obtain ⟨its2, r2, ⟨⟨cls2, dd2, data2, sl2⟩, n2, ho2, hc2, _, hd2⟩, hl2⟩ := I.list hB
  simp only at hc hd hc2 hd2
  subst hc hd hc2 hd2
  have e : its.toArray ++ its2.toArray = (its ++ its2).toArray := by simp
  have l1 := r.length
  have l2 := r2.length
  refine concat_meets ⟨_, ho, rfl⟩ ⟨_, ho2, rfl⟩ noFill_list_add seq_list_add PySem.F.slot_list_add PySem.F.entry_list_add (PySem.F.args_list_add_2 _ _) (list_addW l b its.toArray its2.toArray n n2 dd dd2 sl sl2 (by rw [List.size_toArray, List.size_toArray]; omega)) ⟨ho, ho2, ?_⟩
  rw [e]
  exact ⟨.ref _, _, I.lnew (t' := s.toks) (r.append r2) (by rw [List.length_append]; omega), rfl, new_of q _ I.fresh⟩
end
def addM : PyData → PyData → Option PyData
  | .int a, .int b => some (.int (a + b))
  | .int a, .bool b => some (.int (a + b2i b))
  | .str a, .str b => if a.length + b.length ≤ 1000000 then some (.str (a ++ b)) else none
  | .list xs, .list ys => if xs.length + ys.length ≤ 1000000 then some (.list (xs ++ ys)) else none
  | .tuple xs, .tuple ys => if xs.length + ys.length ≤ 1000000 then some (.tuple (xs ++ ys)) else none
  | _, _ => none
def subM : PyData → PyData → Option PyData
  | .int a, .int b => some (.int (a - b))
  | _, _ => none
def modM : PyData → PyData → Option PyData
  | .int a, .int b => if 0 < b then some (.int (a % b)) else none
  | _, _ => none
def eqM (d e : PyData) : Option PyData := if SeqAt.shaped d && SeqAt.shaped e then some (.bool (PyData.eqv d e)) else none
def neM (d e : PyData) : Option PyData := if SeqAt.shaped d && SeqAt.shaped e then some (.bool (!PyData.eqv d e)) else none
def ltM : PyData → PyData → Option PyData
  | .int a, .int b => some (.bool (decide (a < b)))
  | _, _ => none
def leM : PyData → PyData → Option PyData
  | .int a, .int b => some (.bool (decide (a ≤ b)))
  | _, _ => none
def gtM : PyData → PyData → Option PyData
  | .int a, .int b => some (.bool (decide (b < a)))
  | _, _ => none
def geM : PyData → PyData → Option PyData
  | .int a, .int b => some (.bool (decide (b ≤ a)))
  | _, _ => none
def isNone : PyData → Bool
  | .none => true
  | _ => false
def isM (d e : PyData) : Option PyData := if isNone e then some (.bool (isNone d)) else none
def isNotM (d e : PyData) : Option PyData := if isNone e then some (.bool (!isNone d)) else none
def flatD : PyData → Bool
  | .none => true
  | .bool _ => true
  | .int _ => true
  | .str _ => true
  | _ => false
def memD (d : PyData) (ds : List PyData) : Bool := ds.any fun z => PyData.eqv z d
def inM : PyData → PyData → Option PyData
  | d, .list ds => if SeqAt.shaped d && SeqAt.shaped (.list ds) then some (.bool (memD d ds)) else none
  | d, .tuple ds => if flatD d && ds.all flatD then some (.bool (memD d ds)) else if SeqAt.shaped d && SeqAt.shaped (.tuple ds) then some (.bool (memD d ds)) else none
  | _, _ => none
def notInM : PyData → PyData → Option PyData
  | d, .list ds => if SeqAt.shaped d && SeqAt.shaped (.list ds) then some (.bool (!memD d ds)) else none
  | d, .tuple ds => if flatD d && ds.all flatD then some (.bool (!memD d ds)) else if SeqAt.shaped d && SeqAt.shaped (.tuple ds) then some (.bool (!memD d ds)) else none
  | _, _ => none
section
variable {K : PySem.W.Frag} {X : Cx} {G H : Hp}
theorem opd_add : OpD K X (binaryOp .Add) addM := fun hK => by
  subst hK
  intro pins s σ H x y v u Q I rx ry h
  obtain ⟨G, d, e, z, sg, hd, he, hz, q⟩ := h
  unfold addM at hz
  split at hz
  · cases hz; cases hd; cases he
    exact op_add pins s σ H _ _ v u Q I rx ry ⟨_, _, rfl, rfl, q _ G H (Ps.refl sg) (.int _)⟩
  · cases hz; cases hd; cases he
    exact op_add_ib pins s σ H _ _ v u Q I rx ry ⟨_, _, rfl, rfl, q _ G H (Ps.refl sg) (.int _)⟩
  · split at hz
    · rename_i hl
      cases hz; cases hd; cases he
      exact op_add_str pins s σ H _ _ v u Q I rx ry ⟨_, _, rfl, rfl, line_le hl, q _ G H (Ps.refl sg) (.str _)⟩
    · cases hz
  · split at hz
    · rename_i hl
      cases hz
      cases hd with
      | lst hs ha =>
        cases he with
        | lst hs2 ha2 =>
          refine op_catR pins s σ H _ _ v u Q I rx ry ⟨_, _, _, _, rfl, rfl, sg.seq hs, sg.seq hs2, line_le (by rw [ha.length, ha2.length]; exact hl), fun p H' sm n e' => ?_⟩
          exact q _ _ H' (Ps.new sg sm n e') (.lst (.inl (.inl upd_same)) ((ha.append ha2).sm (same_new (sg.free n))))
    · cases hz
  · split at hz
    · rename_i hl
      cases hz
      cases hd with
      | tup hs ha =>
        cases he with
        | tup hs2 ha2 =>
          refine op_catA pins s σ H _ _ v u Q I rx ry ⟨_, _, _, _, rfl, rfl, Lk.Same.tup sg hs, Lk.Same.tup sg hs2, line_le (by rw [ha.length, ha2.length]; exact hl), fun e0 => ?_, fun _ e0 => ?_, fun _ _ p n => ?_⟩
          · subst e0
            cases ha
            exact q _ _ _ (Ps.refl sg) (.tup hs2 ha2)
          · subst e0
            cases ha2
            rw [List.append_nil] at q
            exact q _ _ _ (Ps.refl sg) (.tup hs ha)
          · exact q _ _ _ (Ps.new sg (same_new n) n upd_same) (.tup (.inl (.inl upd_same)) ((ha.append ha2).sm (same_new (sg.free n))))
    · cases hz
  · cases hz
theorem opd_sub : OpD K X (binaryOp .Sub) subM := fun hK => by
  intro pins s σ H x y v u Q I rx ry h
  obtain ⟨G, d, e, z, sg, hd, he, hz, q⟩ := h
  unfold subM at hz
  split at hz
  · cases hz; cases hd; cases he
    exact op_sub pins s σ H _ _ v u Q I rx ry ⟨_, _, rfl, rfl, q _ G H (Ps.refl sg) (.int _)⟩
  · cases hz
theorem opd_mod : OpD K X (binaryOp .Mod) modM := fun hK => by
  intro pins s σ H x y v u Q I rx ry h
  obtain ⟨G, d, e, z, sg, hd, he, hz, q⟩ := h
  unfold modM at hz
  split at hz
  · split at hz
    · rename_i hl
      cases hz; cases hd; cases he
      exact op_mod pins s σ H _ _ v u Q I rx ry ⟨_, _, rfl, rfl, hl, q _ G H (Ps.refl sg) (.int _)⟩
    · cases hz
  · cases hz
theorem opd_eq {k : Nat} (hr : Room k X.A) : OpD K X (compareOp .Eq) eqM := fun hK => by
  subst hK
  intro pins s σ H x y v u Q I rx ry h
  obtain ⟨G, d, e, z, sg, hd, he, hz, q⟩ := h
  unfold eqM at hz
  split at hz
  · rename_i hs
    rw [Bool.and_eq_true] at hs
    cases hz
    exact op_eqD hr.units pins s σ H _ _ v u Q I rx ry ⟨d, e, (hd.sm sg).dp, (he.sm sg).dp, hs.1, hs.2, q _ G H (Ps.refl sg) (.bl _)⟩
  · cases hz
theorem opd_ne {k : Nat} (hr : Room k X.A) : OpD K X (compareOp .NotEq) neM := fun hK => by
  subst hK
  intro pins s σ H x y v u Q I rx ry h
  obtain ⟨G, d, e, z, sg, hd, he, hz, q⟩ := h
  unfold neM at hz
  split at hz
  · rename_i hs
    rw [Bool.and_eq_true] at hs
    cases hz
    exact op_neD hr.units pins s σ H _ _ v u Q I rx ry ⟨d, e, (hd.sm sg).dp, (he.sm sg).dp, hs.1, hs.2, q _ G H (Ps.refl sg) (.bl _)⟩
  · cases hz
theorem opd_lt : OpD K X (compareOp .Lt) ltM := fun hK => by
  intro pins s σ H x y v u Q I rx ry h
  obtain ⟨G, d, e, z, sg, hd, he, hz, q⟩ := h
  unfold ltM at hz
  split at hz
  · cases hz; cases hd; cases he
    exact op_lt pins s σ H _ _ v u Q I rx ry ⟨_, _, rfl, rfl, q _ G H (Ps.refl sg) (.bl _)⟩
  · cases hz
theorem opd_le : OpD K X (compareOp .LtE) leM := fun hK => by
  intro pins s σ H x y v u Q I rx ry h
  obtain ⟨G, d, e, z, sg, hd, he, hz, q⟩ := h
  unfold leM at hz
  split at hz
  · cases hz; cases hd; cases he
    exact op_le pins s σ H _ _ v u Q I rx ry ⟨_, _, rfl, rfl, q _ G H (Ps.refl sg) (.bl _)⟩
  · cases hz
theorem opd_gt : OpD K X (compareOp .Gt) gtM := fun hK => by
  intro pins s σ H x y v u Q I rx ry h
  obtain ⟨G, d, e, z, sg, hd, he, hz, q⟩ := h
  unfold gtM at hz
  split at hz
  · cases hz; cases hd; cases he
    exact op_gt pins s σ H _ _ v u Q I rx ry ⟨_, _, rfl, rfl, q _ G H (Ps.refl sg) (.bl _)⟩
  · cases hz
end
/-- [a, ..] * k -/
def repM (xs : List PyData) : PyData → Option (List PyData)
  | .int k => if k.natAbs ≤ 1000000 ∧ xs.length * k.toNat ≤ 1000000 then some (List.replicate k.toNat xs).flatten else none
  | _ => none
/-- -a -/
def negM : PyData → Option PyData
  | .int a => some (.int (-a))
  | _ => none
section
variable {K : PySem.W.Frag} {E : XE} {X : Cx} {a b c e : Expr} {es : List Expr} {ma mb mc : M PyData} {pos : Pos}
/-- a < b < c -/
def mChain (f g : PyData → PyData → Option PyData) (ma mb mc : M PyData) : M PyData :=
  ma.bind fun d => mb.bind fun e => (M.lift ((f d e).bind asBool)).bind fun k => if k then mc.bind fun h => M.lift ((g e h).bind fun z => (asBool z).map PyData.bool) else M.ret (.bool false)
theorem de_chain {op op' : CmpOp} {f g : PyData → PyData → Option PyData} (ho : OpD K X (compareOp op) f) (ho' : OpD K X (compareOp op') g) (ha : DE K E X a ma) (hb : DE K E X b mb) (hc : DE K E X c mc)
    (h1 : lastMarks [op, op'] [b, c] = false := by with_unfolding_all rfl) : DE K E X (.Compare a [op, op'] [b, c] pos) (mChain f g ma mb mc) :=
  ⟨fun hK => PE.imp (pe_chain (ho hK) (ho' hK) (ha.pe hK) (hb.pe hK) (hc.pe hK) h1) fun σ H Q ⟨F, O, G, r, out, P, em, ff⟩ => by
  refine tM.run P ff em fun d r1 x G1 H1 P1 g1 q1 e1 f1 => ?_
  refine tM.run P1 f1 e1 fun ds r2 y G2 H2 P2 g2 q2 e2 f2 => ?_
  obtain ⟨k, hz, e3⟩ := bind_lift_ok e2
  obtain ⟨z, h1, h2⟩ := Option.bind_eq_some_iff.mp hz
  cases asBool_some h2
  refine ⟨G2, _, _, _, P2.sub, q1.sm g2.gg, q2, h1, fun v G' H' p q => ⟨k, dp_bool q, ?_⟩⟩
  have P2' := P2.ps p
  have f2' := f2.via (p.go : Go O G2 H2 G' H')
  cases k with
  | true =>
    refine iteT (tM.run P2' f2' e3 fun h r3 w G3 H3 P3 g3 q3 e4 f3 => ?_)
    obtain ⟨o, ho, rfl⟩ := lift_ok e4
    obtain ⟨z', h3, h4⟩ := Option.bind_eq_some_iff.mp ho
    obtain ⟨b', h5, rfl⟩ := Option.map_eq_some_iff.mp h4
    cases asBool_some h5
    exact ⟨G3, _, _, _, P3.sub, (q2.sm p.gg).sm g3.gg, q3, h3, fun v G' H' p q => f3.ok p P3 q⟩
  | false =>
    cases e3
    exact iteF (f2'.ok (Ps.refl P2'.sub) P2' (.bl _))⟩
end
end DL
namespace DL
open PySem PySem.Spec PyProof.Rows L2 Lk
def intsOf : List PyData → Option (List Int)
  | [] => some []
  | .int i :: ds => (intsOf ds).map (i :: ·)
  | _ :: _ => none
def boolsOf : List PyData → Option (List Bool)
  | [] => some []
  | .bool i :: ds => (boolsOf ds).map (i :: ·)
  | _ :: _ => none
theorem intsOf_some : ∀ {ds : List PyData} {ns : List Int}, intsOf ds = some ns → ds = ns.map PyData.int
  | [], _, h => by cases h; rfl
  | .int i :: ds, ns, h => by
    obtain ⟨ms, h1, rfl⟩ := Option.map_eq_some_iff.mp (show (intsOf ds).map (i :: ·) = some ns from h)
    rw [intsOf_some h1]
    rfl
  | .none :: _, _, h | .bool _ :: _, _, h | .str _ :: _, _, h | .list _ :: _, _, h | .tuple _ :: _, _, h | .dict _ :: _, _, h => by cases h
@[simp] theorem intsOf_map : ∀ ns : List Int, intsOf (ns.map PyData.int) = some ns
  | [] => rfl
  | n :: ns => by
    show (intsOf (ns.map PyData.int)).map (n :: ·) = _
    rw [intsOf_map ns]
    rfl
theorem boolsOf_some : ∀ {ds : List PyData} {ns : List Bool}, boolsOf ds = some ns → ds = ns.map PyData.bool
  | [], _, h => by cases h; rfl
  | .bool i :: ds, ns, h => by
    obtain ⟨ms, h1, rfl⟩ := Option.map_eq_some_iff.mp (show (boolsOf ds).map (i :: ·) = some ns from h)
    rw [boolsOf_some h1]
    rfl
  | .none :: _, _, h | .int _ :: _, _, h | .str _ :: _, _, h | .list _ :: _, _, h | .tuple _ :: _, _, h | .dict _ :: _, _, h => by cases h
@[simp] theorem boolsOf_map : ∀ ns : List Bool, boolsOf (ns.map PyData.bool) = some ns
  | [] => rfl
  | n :: ns => by
    show (boolsOf (ns.map PyData.bool)).map (n :: ·) = _
    rw [boolsOf_map ns]
    rfl
def lenM : List PyData → Option PyData
  | [.list ds] => some (.int ds.length)
  | [.tuple ds] => some (.int ds.length)
  | [.str x] => if x.length ≤ 1000000 then some (.int x.length) else none
  | _ => none
def sumM : List PyData → Option PyData
  | [.list ds] => (intsOf ds).map fun ns => .int ns.sum
  | _ => none
def allM : List PyData → Option PyData
  | [.list ds] => (boolsOf ds).map fun bs => .bool (bs.all id)
  | _ => none
def anyM : List PyData → Option PyData
  | [.list ds] => (boolsOf ds).map fun bs => .bool (bs.any id)
  | _ => none
def intM : List PyData → Option PyData
  | [.int a] => some (.int a)
  | [.bool b] => some (.int (if b then 1 else 0))
  | _ => none
def tupleM : List PyData → Option PyData
  | [.list ds] => some (.tuple ds)
  | [.tuple ds] => some (.tuple ds)
  | _ => none
def listM : List PyData → Option (List PyData)
  | [.list ds] => some ds
  | [.tuple ds] => some ds
  | _ => none
def insI (a : Int) : List Int → List Int
  | [] => [a]
  | b :: l => if a ≤ b then a :: b :: l else b :: insI a l
def sortI : List Int → List Int
  | [] => []
  | a :: l => insI a (sortI l)
theorem insI_perm (a : Int) : ∀ l : List Int, (insI a l).Perm (a :: l)
  | [] => .refl _
  | b :: l => by
    unfold insI
    split
    · exact .refl _
    · exact ((insI_perm a l).cons b).trans (.swap ..)
theorem sortI_perm : ∀ l : List Int, (sortI l).Perm l
  | [] => .refl _
  | a :: l => (insI_perm a _).trans ((sortI_perm l).cons a)
theorem insI_sorted {a : Int} : ∀ {l : List Int}, l.Pairwise (· ≤ ·) → (insI a l).Pairwise (· ≤ ·)
  | [], _ => List.pairwise_singleton ..
  | b :: l, h => by
    have h' := List.pairwise_cons.mp h
    unfold insI
    split
    · rename_i hab
      refine List.pairwise_cons.mpr ⟨fun x hx => ?_, h⟩
      rcases List.mem_cons.mp hx with rfl | hx
      · exact hab
      · have := h'.1 x hx; omega
    · rename_i hab
      refine List.pairwise_cons.mpr ⟨fun x hx => ?_, insI_sorted h'.2⟩
      rcases List.mem_cons.mp ((insI_perm a l).mem_iff.mp hx) with rfl | hx
      · omega
      · exact h'.1 x hx
theorem sortI_sorted : ∀ l : List Int, (sortI l).Pairwise (· ≤ ·)
  | [] => .nil
  | _ :: l => insI_sorted (sortI_sorted l)
theorem sorted_unique : ∀ {l m : List Int}, l.Perm m → l.Pairwise (· ≤ ·) → m.Pairwise (· ≤ ·) → l = m
  | [], m, p, _, _ => by rw [List.nil_perm.mp p]
  | a :: l, [], p, _, _ => absurd p.symm (by simp)
  | a :: l, b :: m, p, h1, h2 => by
    have h1' := List.pairwise_cons.mp h1
    have h2' := List.pairwise_cons.mp h2
    have e : a = b := by
      have ma : a ∈ b :: m := p.mem_iff.mp (List.mem_cons_self ..)
      have mb : b ∈ a :: l := p.mem_iff.mpr (List.mem_cons_self ..)
      rcases List.mem_cons.mp ma with z | z
      · exact z
      · rcases List.mem_cons.mp mb with y | y
        · exact y.symm
        · have := h1'.1 b y
          have := h2'.1 a z
          omega
    subst e
    rw [sorted_unique ((List.perm_cons a).mp p) h1'.2 h2'.2]
theorem sorted_is {l m : List Int} (p : l.Perm m) (h : l.Pairwise (· ≤ ·)) : l = sortI m := sorted_unique (p.trans (sortI_perm m).symm) h (sortI_sorted m)
def sortedM : List PyData → Option (List PyData)
  | [.list ds] => (intsOf ds).map fun ns => (sortI ns).map PyData.int
  | _ => none
section
variable {K : PySem.W.Frag} {X : Cx}
theorem one_of {G : Hp} {vs : List V} {d : PyData} (h : DqAll K G vs [d]) : ∃ v, vs = [v] ∧ Dq K G v d := by
  cases h with
  | cons h1 h2 =>
    cases h2
    exact ⟨_, rfl, h1⟩
theorem lst_ints {G : Hp} {v : V} {ds : List PyData} {ns : List Int} (h : Dq K G v (.list ds)) (e : intsOf ds = some ns) : ∃ p, v = .ref p ∧ SqL K G p (ns.map V.int) := by
  cases h with
  | lst hs ha =>
    rw [intsOf_some e] at ha
    rw [ha.of_ints] at hs
    exact ⟨_, rfl, hs⟩
theorem lst_bools {G : Hp} {v : V} {ds : List PyData} {ns : List Bool} (h : Dq K G v (.list ds)) (e : boolsOf ds = some ns) : ∃ p, v = .ref p ∧ SqL K G p (ns.map V.bl) := by
  cases h with
  | lst hs ha =>
    rw [boolsOf_some e] at ha
    rw [ha.of_bools] at hs
    exact ⟨_, rfl, hs⟩
theorem cd_len : CallD K X (.builtin "len") lenM := fun hK => by
  subst hK
  intro pins s σ H xs us Q I r h
  obtain ⟨G, ds, z, sg, hd, hz, q⟩ := h
  unfold lenM at hz
  split at hz
  · cases hz
    obtain ⟨v, rfl, hv⟩ := one_of hd
    cases hv with
    | lst hs ha => exact call_len_seq pins s σ H _ us Q I r ⟨_, _, rfl, .inl ((sg.seq hs)), by rw [ha.length]; exact q _ G H (Ps.refl sg) (.int _)⟩
  · cases hz
    obtain ⟨v, rfl, hv⟩ := one_of hd
    cases hv with
    | tup hs ha => exact call_len_seq pins s σ H _ us Q I r ⟨_, _, rfl, .inr (Lk.Same.tup sg hs), by rw [ha.length]; exact q _ G H (Ps.refl sg) (.int _)⟩
  · split at hz
    · rename_i hl
      cases hz
      obtain ⟨v, rfl, hv⟩ := one_of hd
      cases hv
      exact call_len_str pins s σ H _ us Q I r ⟨_, rfl, line_le hl, q _ G H (Ps.refl sg) (.int _)⟩
    · cases hz
  · cases hz
theorem cd_all (hc : X.calm = true) : CallD K X (.builtin "all") allM := fun hK => by
  subst hK
  intro pins s σ H xs us Q I r h
  obtain ⟨G, ds, z, sg, hd, hz, q⟩ := h
  unfold allM at hz
  split at hz
  · obtain ⟨ns, hn, rfl⟩ := Option.map_eq_some_iff.mp hz
    obtain ⟨v, rfl, hv⟩ := one_of hd
    obtain ⟨p, rfl, hp⟩ := lst_bools hv hn
    exact cr_all hc pins s σ H _ us Q I r ⟨p, ns, rfl, (sg.seq hp), q _ G H (Ps.refl sg) (.bl _)⟩
  · cases hz
theorem cd_any (hc : X.calm = true) : CallD K X (.builtin "any") anyM := fun hK => by
  subst hK
  intro pins s σ H xs us Q I r h
  obtain ⟨G, ds, z, sg, hd, hz, q⟩ := h
  unfold anyM at hz
  split at hz
  · obtain ⟨ns, hn, rfl⟩ := Option.map_eq_some_iff.mp hz
    obtain ⟨v, rfl, hv⟩ := one_of hd
    obtain ⟨p, rfl, hp⟩ := lst_bools hv hn
    exact cr_any hc pins s σ H _ us Q I r ⟨p, ns, rfl, (sg.seq hp), q _ G H (Ps.refl sg) (.bl _)⟩
  · cases hz
theorem cd_int : CallD K X (.type "int") intM := fun hK => by
  intro pins s σ H xs us Q I r h
  obtain ⟨G, ds, z, sg, hd, hz, q⟩ := h
  unfold intM at hz
  split at hz
  · cases hz
    obtain ⟨v, rfl, hv⟩ := one_of hd
    cases hv
    exact call_int1 pins s σ H _ us Q I r (.inl ⟨_, rfl, q _ G H (Ps.refl sg) (.int _)⟩)
  · cases hz
    obtain ⟨v, rfl, hv⟩ := one_of hd
    cases hv
    exact call_int1 pins s σ H _ us Q I r (.inr ⟨_, rfl, q _ G H (Ps.refl sg) (.int _)⟩)
  · cases hz
theorem cd_tuple : CallD K X (.type "tuple") tupleM := fun hK => by
  subst hK
  intro pins s σ H xs us Q I r h
  obtain ⟨G, ds, z, sg, hd, hz, q⟩ := h
  unfold tupleM at hz
  split at hz
  · cases hz
    obtain ⟨v, rfl, hv⟩ := one_of hd
    cases hv with
    | lst hs ha => exact call_tuple_of pins s σ H _ us Q I r ⟨_, _, rfl, .inl ⟨(sg.seq hs), fun p n => q _ _ _ (Ps.new sg (same_new n) n upd_same) (.tup (.inl (.inl upd_same)) (ha.sm (same_new (sg.free n))))⟩⟩
  · cases hz
    obtain ⟨v, rfl, hv⟩ := one_of hd
    cases hv with
    | tup hs ha => exact call_tuple_of pins s σ H _ us Q I r ⟨_, _, rfl, .inr ⟨Lk.Same.tup sg hs, q _ _ _ (Ps.refl sg) (.tup hs ha)⟩⟩
  · cases hz
theorem cf_list : CallF K X (.type "list") listM := fun hK => by
  subst hK
  intro pins s σ H xs us Q I r h
  obtain ⟨G, ds, z, sg, hd, hz, q⟩ := h
  unfold listM at hz
  split at hz
  · cases hz
    obtain ⟨v, rfl, hv⟩ := one_of hd
    cases hv with
    | lst hs ha => exact call_listN pins s σ H _ us Q I r ⟨_, _, rfl, .inl ((sg.seq hs)), fun p H' sm n e => q p _ G H' (Ps.of_same sg sm) (sg.free n) n e ha⟩
  · cases hz
    obtain ⟨v, rfl, hv⟩ := one_of hd
    cases hv with
    | tup hs ha => exact call_listN pins s σ H _ us Q I r ⟨_, _, rfl, .inr (Lk.Same.tup sg hs), fun p H' sm n e => q p _ G H' (Ps.of_same sg sm) (sg.free n) n e ha⟩
  · cases hz
theorem cf_sorted : CallF K X (.builtin "sorted") sortedM := fun hK => by
  subst hK
  intro pins s σ H xs us Q I r h
  obtain ⟨G, ds, z, sg, hd, hz, q⟩ := h
  unfold sortedM at hz
  split at hz
  · obtain ⟨ns, hn, rfl⟩ := Option.map_eq_some_iff.mp hz
    obtain ⟨v, rfl, hv⟩ := one_of hd
    obtain ⟨p, rfl, hp⟩ := lst_ints hv hn
    refine cr_sortedI pins s σ H _ us Q I r ⟨p, ns, rfl, (sg.seq hp), fun ns' l pm hw nl => ?_⟩
    have e : ns' = sortI ns := sorted_is pm hw
    subst e
    exact q l _ G _ (Ps.of_same sg (same_new nl)) (sg.free nl) nl upd_same (DqAll.ints _)
  · cases hz
end
def Gives (K : PySem.W.Frag) (J : It) (items : List PyData) (G : Hp) : Prop := ∀ (i : Nat) (H' G1 : Hp), Same G G1 → Same G1 H' →
  (∀ d, items[i]? = some d → J.go i H' ∧ ∀ x H'', J.yld i H' x H'' → ∃ G2, Ps G1 H' G2 H'' ∧ Dq K G2 x d) ∧ (items.length ≤ i → J.stop i H')
def rIt (K : PySem.W.Frag) : RR It (List PyData) := fun _ _ _ G _ J items => Gives K J items G
instance {K : PySem.W.Frag} : Anti (rIt K) := ⟨fun _ h => h⟩
structure DI (K : PySem.W.Frag) (E : XE) (X : Cx) (tg iter : Expr) (m : M (List PyData)) : Prop where
  pi : X.K = K → PI X tg iter (tM K E (rIt K) m)
theorem PI.imp {X : Cx} {tg iter : Expr} {t t' : TI} (h : PI X tg iter t) (i : ∀ σ H Q, t' σ H Q → t σ H Q) : PI X tg iter t' := ⟨fun pins s σ H Q I q => h.run pins s σ H Q I (i _ _ _ q)⟩
def asSeq : PyData → Option (List PyData)
  | .list ds => some ds
  | .tuple ds => some ds
  | _ => none
section
variable {K : PySem.W.Frag} {E : XE} {X : Cx} {tg a b e : Expr} {es : List Expr} {ma mb : M PyData} {m : M (List PyData)} {pos : Pos}
theorem gives_list {G : Hp} {a : Addr} {xs : List V} {ds : List PyData} (hs : SqL K G a xs) (ha : DqAll K G xs ds) : Gives K (Itl K a) ds G := fun i H' G1 s1 s2 => by
  have hq : SqL K H' a xs := s2.seq (s1.seq hs)
  refine ⟨fun d hd => ?_, fun hl => ⟨xs, hq, by rw [ha.length]; exact hl⟩⟩
  obtain ⟨v, h1, h2⟩ := ha.get hd
  refine ⟨⟨xs, v, hq, h1⟩, fun x H'' y => ?_⟩
  obtain ⟨rfl, y⟩ := y
  rw [y xs hq] at h1
  cases h1
  exact ⟨G1, Ps.refl s2, h2.sm s1⟩
theorem gives_tup {G : Hp} {a : Addr} {xs : List V} {ds : List PyData} (hs : SqT K G a xs) (ha : DqAll K G xs ds) : Gives K (Itt K a) ds G := fun i H' G1 s1 s2 => by
  have hq : SqT K H' a xs := Lk.Same.tup s2 (Lk.Same.tup s1 hs)
  refine ⟨fun d hd => ?_, fun hl => ⟨xs, hq, by rw [ha.length]; exact hl⟩⟩
  obtain ⟨v, h1, h2⟩ := ha.get hd
  refine ⟨⟨xs, v, hq, h1⟩, fun x H'' y => ?_⟩
  obtain ⟨rfl, y⟩ := y
  rw [y xs hq] at h1
  cases h1
  exact ⟨G1, Ps.refl s2, h2.sm s1⟩
theorem di_seq (hl : DE K E X e ma) : DI K E X tg e (ma.bind fun d => M.lift (asSeq d)) := ⟨fun hK => by
  subst hK
  refine ⟨fun pins s σ H R I h => ?_⟩
  obtain ⟨F, O, G, r, out, P, em, f⟩ := h
  have q := tM.run (Q1 := fun (x : V) H1 => (∃ a, x = V.ref a ∧ (∃ xs, SqL X.K H1 a xs) ∧ R (Itl X.K a) H1) ∨ ∃ a, x = V.ref a ∧ (∃ xs, SqT X.K H1 a xs) ∧ R (Itt X.K a) H1) (R1 := rD X.K) P f em fun d r1 x G1 H1 P1 g1 q1 e1 f1 => by
    obtain ⟨ds, hz, rfl⟩ := lift_ok e1
    cases d <;> first | cases hz | skip
    · cases q1 with
      | lst hs ha => exact .inl ⟨_, rfl, ⟨_, (P1.sub.seq hs)⟩, f1.ok (Ps.refl P1.sub) P1 (gives_list hs ha)⟩
    · cases q1 with
      | tup hs ha => exact .inr ⟨_, rfl, ⟨_, Lk.Same.tup P1.sub hs⟩, f1.ok (Ps.refl P1.sub) P1 (gives_tup hs ha)⟩
  refine thn ((hl.pe rfl).run pins s σ H _ I q) fun v s1 ⟨x, H1, I1, r1, q1⟩ => ?_
  rcases q1 with ⟨a, e, ⟨xs, hq⟩, q⟩ | ⟨a, e, ⟨xs, hq⟩, q⟩
  · subst e
    cases r1
    obtain ⟨its, rv, p, hz⟩ := I1.list hq
    refine wpAny_pyIter_list p.isList ?_
    refine ⟨s1.heap.objs.size, [s1.heap.objs.size], _, _, H1, rfl, I1.kept (t' := s1.toks) fun b o e => Heap.get?_push_of_some _ e, turn_list a _, ⟨_, Heap.get?_push_size _ rfl, rfl, rfl⟩, fun b hb => ?_, q⟩
    have e : b = s1.heap.objs.size := by simpa using hb
    subst e
    exact I1.fpOk (Nat.le_refl _) (I1.hok.fresh (Nat.le_refl _))
  · subst e
    cases r1
    obtain ⟨its, rv, p, hz⟩ := I1.tuple hq
    refine wpAny_pyIter_tuple (show s1.heap.IsTuple a its.toArray from p) ?_
    refine ⟨s1.heap.objs.size, [s1.heap.objs.size], _, _, H1, rfl, I1.kept (t' := s1.toks) fun b o e => Heap.get?_push_of_some _ e, turn_tuple a _, ⟨_, Heap.get?_push_size _ rfl, rfl, rfl⟩, fun b hb => ?_, q⟩
    have e : b = s1.heap.objs.size := by simpa using hb
    subst e
    exact I1.fpOk (Nat.le_refl _) (I1.hok.fresh (Nat.le_refl _))⟩
def rngL (lo : Int) (n : Nat) : List PyData := (List.range n).map fun i => .int (lo + (i : Nat))
def rngM : List PyData → Option (List PyData)
  | [.int j] => if j.natAbs ≤ 1000000 then some (rngL 0 j.toNat) else none
  | [.int i, .int j] => if i.natAbs ≤ 1000000 ∧ j.natAbs ≤ 1000000 then some (rngL i (j - i).toNat) else none
  | _ => none
theorem rngL_at {lo : Int} {n i : Nat} {d : PyData} (h : (rngL lo n)[i]? = some d) : i < n ∧ d = .int (lo + (i : Nat)) := by
  unfold rngL at h
  rw [List.getElem?_map] at h
  obtain ⟨k, h1, rfl⟩ := Option.map_eq_some_iff.mp h
  obtain ⟨h2, h3⟩ := List.getElem?_eq_some_iff.mp h1
  rw [List.length_range] at h2
  rw [List.getElem_range] at h3
  exact ⟨h2, by rw [h3]⟩
theorem gives_range {G : Hp} {lo : Int} {n : Nat} : Gives K (Itr lo n) (rngL lo n) G := fun i H' G1 s1 s2 => by
  refine ⟨fun d hd => ?_, fun hl => ?_⟩
  · obtain ⟨h1, rfl⟩ := rngL_at hd
    refine ⟨h1, fun x H'' y => ?_⟩
    obtain ⟨rfl, rfl⟩ := y
    exact ⟨G1, Ps.refl s2, .int _⟩
  · rw [rngL, List.length_map, List.length_range] at hl
    exact hl
theorem di_range1 {p : Pos} (hg : Gl X "range") (hm : X.mg "range" = none) (ha : DA K E X [a] m) (hs : starEach [a] X.env = [(false, eval a X.env)] := by rfl) : DI K E X tg (.Call (.Name "range" p) [a] [] pos) (m.bind fun ds => M.lift (if ds.length = 1 then rngM ds else none)) :=
  ⟨fun hK => PI.imp (pi_range1 hg hm (ha.pa hK) hs) fun σ H Q ⟨F, O, G, r, out, P, em, f⟩ => by
  refine tM.run P f em fun ds r1 xs G1 H1 P1 g1 q1 e1 f1 => ?_
  obtain ⟨z, hz, rfl⟩ := lift_ok e1
  split at hz
  · unfold rngM at hz
    split at hz
    · split at hz
      · rename_i hl
        cases hz
        obtain ⟨v, rfl, hv⟩ := one_of q1
        cases hv
        exact ⟨_, rfl, by omega, by omega, f1.ok (Ps.refl P1.sub) P1 gives_range⟩
      · cases hz
    · rename_i h2
      cases h2
    · cases hz
  · cases hz⟩
end
end DL
namespace DL
open PySem PySem.Spec PyProof.Rows L2 Lk
section
variable {K : PySem.W.Frag} {F : Fm} {O : Ow} {G G' H H' : Hp} {σ : L2.St} {r : En}
/-- slot i gets the cell c, the value v; it is no list of our own -/
theorem Rp.put (R : Rp K F O G σ H r) {i : Nat} (o : O i = none) {v : Option V} {c : Cel} (hc : c = .un ∨ ∃ d x, c = .pl d ∧ v = some x ∧ Dq K G x d) : Rp K F O G (σ.set i v) H (r.set i c) := by
  have co : ∀ (j : Nat) (ds : List PyData), (r.set i c)[j]? = some (Cel.ow ds) ∨ (r.set i c)[j]? = some (Cel.io ds) → j ≠ i := fun j ds e z => by
    subst z
    have nc : ∀ ds, c ≠ .ow ds ∧ c ≠ .io ds := fun ds => by
      rcases hc with rfl | ⟨d, x, rfl, _⟩
      · exact ⟨fun z => Cel.noConfusion z, fun z => Cel.noConfusion z⟩
      · exact ⟨fun z => Cel.noConfusion z, fun z => Cel.noConfusion z⟩
    rw [List.getElem?_set] at e
    simp only [if_true] at e
    split at e
    · rcases e with e | e
      · exact (nc ds).1 (Option.some.inj e)
      · exact (nc ds).2 (Option.some.inj e)
    · rcases e with e | e <;> cases e
  refine ⟨R.sub, by rw [List.length_set, List.length_set]; exact R.len, fun j d e => ?_, fun j ds e => ?_, fun j ds e => ?_, fun j ks e => ?_, fun j p e => ?_, R.inj, R.old, R.nf, R.g0, R.gn⟩
  · by_cases z : i = j
    · subst z
      have li : i < r.length := by
        have := (List.getElem?_eq_some_iff.mp e).1
        rw [List.length_set] at this
        exact this
      rw [List.getElem?_set_self li] at e
      cases e
      rcases hc with h | ⟨d', x, h, rfl, hd⟩
      · cases h
      · cases h
        exact ⟨x, by rw [List.getElem?_set_self (by rw [R.len]; exact li)], hd⟩
    · rw [List.getElem?_set_ne z] at e ⊢
      exact R.pl j d e
  · have z := co j ds (.inl e)
    rw [List.getElem?_set_ne (Ne.symm z)] at e ⊢
    exact R.ow j ds e
  · have z := co j ds (.inr e)
    rw [List.getElem?_set_ne (Ne.symm z)] at e ⊢
    exact R.io j ds e
  · have z : i ≠ j := fun z => by
      subst z
      have li := (List.getElem?_eq_some_iff.mp e).1
      rw [List.length_set] at li
      rw [List.getElem?_set_self li] at e
      cases e
      rcases hc with h | ⟨_, _, h, _⟩ <;> cases h
    rw [List.getElem?_set_ne z] at e ⊢
    exact R.dk j ks e
  · obtain ⟨⟨c', h1, h2⟩, h3⟩ := R.on j p e
    have z : i ≠ j := fun z => by rw [← z, o] at e; cases e
    exact ⟨⟨c', by rw [List.getElem?_set_ne z]; exact h1, h2⟩, h3⟩
theorem Rp.forget (R : Rp K F O G (σ.set i none) H r) (o : O i = none) : Rp K F O G σ H (r.set i .un) := by
  have P := R.put (i := i) o (v := none) (c := .un) (.inl rfl)
  rw [List.set_set] at P
  refine ⟨P.sub, by have := P.len; rw [List.length_set] at this; exact this, fun j d e => ?_, fun j ds e => ?_, fun j ds e => ?_, fun j ks e => ?_, P.on, P.inj, P.old, P.nf, P.g0, P.gn⟩
  · have z : i ≠ j := fun z => by
      subst z
      have li := (List.getElem?_eq_some_iff.mp e).1
      rw [List.length_set] at li
      rw [List.getElem?_set_self li] at e
      cases e
    have := P.pl j d e
    rw [List.getElem?_set_ne z] at this
    exact this
  · have z : i ≠ j := fun z => by
      subst z
      have li := (List.getElem?_eq_some_iff.mp e).1
      rw [List.length_set] at li
      rw [List.getElem?_set_self li] at e
      cases e
    have := P.ow j ds e
    rw [List.getElem?_set_ne z] at this
    exact this
  · have z : i ≠ j := fun z => by
      subst z
      have li := (List.getElem?_eq_some_iff.mp e).1
      rw [List.length_set] at li
      rw [List.getElem?_set_self li] at e
      cases e
    have := P.io j ds e
    rw [List.getElem?_set_ne z] at this
    exact this
  · have z : i ≠ j := fun z => by
      subst z
      have li := (List.getElem?_eq_some_iff.mp e).1
      rw [List.length_set] at li
      rw [List.getElem?_set_self li] at e
      cases e
    have := P.dk j ks e
    rw [List.getElem?_set_ne z] at this
    exact this
/-- slot i is given a cell that its value bears -/
theorem Rp.tell (R : Rp K F O G σ H r) (o : O i = none) {c : Cel} (hc : c = .un ∨ ∃ d x, c = .pl d ∧ σ[i]? = some (some x) ∧ Dq K G x d) : Rp K F O G σ H (r.set i c) := by
  rcases hc with rfl | ⟨d, x, rfl, hx, hd⟩
  · have P := R.put o (v := none) (c := .un) (.inl rfl)
    have Q := Rp.forget P o
    rw [List.set_set] at Q
    exact Q
  · have P := R.put o (v := some x) (c := .pl d) (.inr ⟨d, x, rfl, rfl, hd⟩)
    rw [show σ.set i (some x) = σ from ?_] at P
    · exact P
    · have li := (List.getElem?_eq_some_iff.mp hx).1
      have e := (List.getElem?_eq_some_iff.mp hx).2
      rw [← e, List.set_getElem_self]
def wipeE (r : En) : List Nat → En
  | [] => r
  | v :: vs => (wipeE r vs).set v .un
theorem Rp.wipe : ∀ {vs : List Nat}, Rp K F O G σ H r → (∀ v ∈ vs, O v = none) → Rp K F O G (L2.wipe σ vs) H (wipeE r vs)
  | [], R, _ => R
  | _ :: _, R, o => (Rp.wipe R fun w hw => o w (List.mem_cons_of_mem _ hw)).put (o _ (List.mem_cons_self ..)) (.inl rfl)
def restE (r : En) : En → List Nat → En
  | r', [] => r'
  | r', v :: vs => (restE r (r'.set v .un) vs).set v ((r[v]?).getD .un)
theorem Rp.rest {r0 : En} : ∀ {vs : List Nat} {r' : En}, (∀ v ∈ vs, ∀ d, r0[v]? = some (Cel.pl d) → ∃ x, σ[v]? = some (some x) ∧ Dq K G x d) → (∀ v ∈ vs, ∀ ds, r0[v]? ≠ some (Cel.ow ds) ∧ r0[v]? ≠ some (Cel.io ds) ∧ r0[v]? ≠ some (Cel.dk ds)) →
    Rp K F O G (L2.wipe σ vs) H r' → (∀ v ∈ vs, O v = none) → Rp K F O G σ H (restE r0 r' vs)
  | [], _, _, _, R, _ => R
  | v :: vs, r', h1, h2, R, o => by
    have ov := o v (List.mem_cons_self ..)
    have R1 : Rp K F O G (L2.wipe σ vs) H (r'.set v .un) := Rp.forget R ov
    refine (Rp.rest (fun w hw => h1 w (List.mem_cons_of_mem _ hw)) (fun w hw => h2 w (List.mem_cons_of_mem _ hw)) R1 fun w hw => o w (List.mem_cons_of_mem _ hw)).tell ov ?_
    cases e : r0[v]? with
    | none => exact .inl rfl
    | some c =>
      cases c with
      | un => exact .inl rfl
      | pl d =>
        obtain ⟨x, hx, hd⟩ := h1 v (List.mem_cons_self ..) d e
        exact .inr ⟨d, x, rfl, hx, hd⟩
      | ow ds => exact absurd e (h2 v (List.mem_cons_self ..) ds).1
      | io ds => exact absurd e (h2 v (List.mem_cons_self ..) ds).2.1
      | dk ds => exact absurd e (h2 v (List.mem_cons_self ..) ds).2.2
/-- an object that nobody sees is written -/
theorem Rp.wr (R : Rp K F O G σ H r) {D : Addr} {o : HO} (g : G D = none) (h0 : F.H0 D = none) (ho : ∀ i, O i ≠ some D) : Rp K F O G σ (upd H D o) r where
  sub := fun c x e => by
    rw [upd_ne (ne_of_none e g)]
    exact R.sub _ _ e
  len := R.len
  pl := R.pl
  ow := fun i ds e => by
    obtain ⟨p, xs, h1, h2, h3, h4, h5⟩ := R.ow i ds e
    exact ⟨p, xs, h1, h2, h3, by rw [upd_ne fun z => ho i (by rw [h1, z])]; exact h4, h5⟩
  io := fun i ds e => by
    obtain ⟨p, xs, h0, h1, h2, h4, h5⟩ := R.io i ds e
    exact ⟨p, xs, h0, h1, h2, by rw [upd_ne fun z => ho i (by rw [h1, z])]; exact h4, h5⟩
  dk := R.dk
  on := fun i p e => by
    obtain ⟨h1, h2, h3, h4⟩ := R.on i p e
    exact ⟨h1, h2, by rw [upd_ne fun z => ho i (by rw [e, z])]; exact h3, h4⟩
  inj := R.inj
  old := fun c x e n => by
    rw [upd_ne (ne_of_none e h0)]
    exact R.old c x e n
  nf := fun c e => by
    by_cases z : c = D
    · rw [z]
      exact h0
    · rw [upd_ne z] at e
      exact R.nf c e
  g0 := R.g0
  gn := R.gn
theorem Go.wr {G1 H1 : Hp} (g : Go O G1 H1 G H) {D : Addr} {o : HO} (n : H1 D = none) : Go O G1 H1 G (upd H D o) := by
  refine ⟨g.gg, fun c x e no => ?_, g.gn, fun c e => ?_⟩
  · rw [upd_ne (ne_of_none e n)]
    exact g.keep c x e no
  · by_cases z : c = D
    · rw [z]
      exact n
    · rw [upd_ne z] at e
      exact g.nf c e
end
def gN (i : Nat) : PyData → En → Option En := fun d r => match r[i]? with
  | some c => if c.own then none else some (r.set i (.pl d))
  | none => none
def tG (K : PySem.W.Frag) (ts : List Nat) (g : PyData → En → Option En) : TG := fun x σ H Q => ∃ F O G r r' d, Rp K F O G σ H r ∧ Dq K G x d ∧ g d r = some r' ∧
  ∀ σ', Rp K F O G σ' H r' → σ'.length = σ.length → (∀ j, j ∉ ts → σ'[j]? = σ[j]?) → Q σ' H
structure DG (K : PySem.W.Frag) (X : Cx) (tg : Expr) (ts : List Nat) (g : PyData → En → Option En) : Prop where
  pg : X.K = K → PG X tg (tG K ts g)
theorem PG.imp {X : Cx} {tg : Expr} {t t' : TG} (h : PG X tg t) (i : ∀ v σ H Q, t' v σ H Q → t v σ H Q) : PG X tg t' := ⟨fun pins s σ H v u Q I r q => h.run pins s σ H v u Q I r (i _ _ _ _ q)⟩
theorem PGs.imp {X : Cx} {tg : List Expr} {t t' : TGs} (h : PGs X tg t) (i : ∀ v σ H Q, t' v σ H Q → t v σ H Q) : PGs X tg t' := ⟨fun pins s σ H v u Q I r q => h.run pins s σ H v u Q I r (i _ _ _ _ q)⟩
def gNilD : List PyData → En → Option En := fun ds r => if ds.isEmpty then some r else none
def gConsD (g : PyData → En → Option En) (h : List PyData → En → Option En) : List PyData → En → Option En := fun ds r => match ds with
  | [] => none
  | d :: ds => (g d r).bind (h ds)
def tGs (K : PySem.W.Frag) (ts : List Nat) (g : List PyData → En → Option En) : TGs := fun xs σ H Q => ∃ F O G r r' ds, Rp K F O G σ H r ∧ DqAll K G xs ds ∧ g ds r = some r' ∧
  ∀ σ', Rp K F O G σ' H r' → σ'.length = σ.length → (∀ j, j ∉ ts → σ'[j]? = σ[j]?) → Q σ' H
structure DGs (K : PySem.W.Frag) (X : Cx) (tg : List Expr) (ts : List Nat) (g : List PyData → En → Option En) : Prop where
  pg : X.K = K → PGs X tg (tGs K ts g)
def gTupD (n : Nat) (g : List PyData → En → Option En) : PyData → En → Option En := fun d r => match d with
  | .tuple ds => if ds.length = n then g ds r else none
  | _ => none
section
variable {K : PySem.W.Frag} {X : Cx} {pos : Pos}
theorem Rp.not_own {F : Fm} {O : Ow} {G H : Hp} {σ : L2.St} {r : En} (R : Rp K F O G σ H r) {i : Nat} {c : Cel} (e : r[i]? = some c) (n : ¬ c.own = true) : O i = none := by
  cases q : O i with
  | none => rfl
  | some p =>
    obtain ⟨⟨c', h1, h2⟩, _⟩ := R.on i p q
    rw [e] at h1
    cases h1
    exact absurd h2 n
theorem dg_name (i : Nat) {x : Str} (hN : X.N.Nodup) (hi : X.N[i]? = some x) (hx : Loc X.env.scope x) (hf : X.fn x = true ∨ X.env.scope.names.lookup x = some .local := by first | exact .inl rfl | exact .inr rfl | assumption) : DG K X (.Name x pos) [i] (gN i) :=
  ⟨fun hK => PG.imp (pg_name hN hi hx hf) fun v σ H Q ⟨F, O, G, r, r', d, P, hd, hg, q⟩ => by
  unfold gN at hg
  split at hg
  · rename_i c e
    split at hg
    · cases hg
    · rename_i n
      cases hg
      refine q _ (P.put (P.not_own e n) (.inr ⟨d, v, rfl, rfl, hd⟩)) (List.length_set ..) fun j hj => ?_
      rw [List.getElem?_set_ne]
      intro z
      exact hj (by rw [z]; exact List.mem_cons_self ..)
  · cases hg⟩
end
def lcGo (vs : List Nat) (g : PyData → En → Option En) (mt : M Bool) (me : M PyData) : List PyData → En → Option (List PyData × En)
  | [], r => some ([], wipeE r vs)
  | x :: xs, r => (g x (wipeE r vs)).bind fun r1 => match mt r1 with
    | some (.ok true r2) => (match me r2 with
      | some (.ok d r3) => (lcGo vs g mt me xs r3).map fun z => (d :: z.1, z.2)
      | _ => none)
    | some (.ok false r2) => lcGo vs g mt me xs r2
    | _ => none
def freeAt (r : En) (vs : List Nat) : Bool := vs.all fun v => match r[v]? with
  | some c => !c.own
  | none => true
def mLc (vs : List Nat) (mi : M (List PyData)) (g : PyData → En → Option En) (mt : M Bool) (me : M PyData) : M (List PyData) := mi.bind fun items r =>
  if freeAt r vs && decide (items.length ≤ 1000000) then (lcGo vs g mt me items r).map fun z => .ok z.1 (restE r z.2 vs) else none
abbrev mYes : M Bool := M.ret true
structure DTs (K : PySem.W.Frag) (X : Cx) (ifs : List Expr) (m : M Bool) : Prop where
  pt : X.K = K → PTs X ifs (tM K XN rB m)
theorem PTs.imp {X : Cx} {es : List Expr} {t t' : TT} (h : PTs X es t) (i : ∀ σ H Q, t' σ H Q → t σ H Q) : PTs X es t' := ⟨fun pins s σ H Q I q => h.run pins s σ H Q I (i _ _ _ q)⟩
section
variable {K : PySem.W.Frag} {E : XE} {X : Cx} {pos : Pos}
theorem dts_nil : DTs K X [] mYes := ⟨fun _ => PTs.imp pts_nil fun σ H Q ⟨F, O, G, r, out, P, em, f⟩ => by
  cases em
  exact f.ok (Ps.refl P.sub) P rfl⟩
theorem dts_one {c : Expr} {m : M Bool} (h : DT K XN X c m) : DTs K X [c] m := ⟨fun hK => pts_one (h.pt hK)⟩
theorem free_own {F : Fm} {O : Ow} {G H : Hp} {σ : L2.St} {r : En} {vs : List Nat} (R : Rp K F O G σ H r) (h : freeAt r vs = true) : ∀ v ∈ vs, O v = none := fun v hv => by
  have q := List.all_eq_true.mp h v hv
  cases z : O v with
  | none => rfl
  | some p =>
    obtain ⟨⟨c, h1, h2⟩, _⟩ := R.on v p z
    rw [h1] at q
    simp only [h2] at q
    cases q
theorem wipe_eq {σ σ' : L2.St} (hl : σ'.length = σ.length) : ∀ {vs : List Nat}, (∀ j, j ∉ vs → σ'[j]? = σ[j]?) → L2.wipe σ' vs = L2.wipe σ vs := fun {vs} h => by
  refine List.ext_getElem? fun j => ?_
  by_cases hj : j ∈ vs
  · have w : ∀ {σ : L2.St} {vs : List Nat}, j ∈ vs → (L2.wipe σ vs)[j]? = if j < σ.length then some none else none := fun {σ vs} => by
      induction vs with
      | nil => intro h; cases h
      | cons v vs ih =>
        intro h
        show ((L2.wipe σ vs).set v none)[j]? = _
        by_cases e : v = j
        · subst e
          rw [List.getElem?_set]
          simp only [if_true, wipe_length]
        · rw [List.getElem?_set_ne e]
          rcases List.mem_cons.mp h with z | z
          · exact absurd z.symm e
          · exact ih z
    rw [w hj, w hj, hl]
  · rw [wipe_out hj, wipe_out hj, h j hj]
theorem wipe_wipe {σ : L2.St} {vs : List Nat} : L2.wipe (L2.wipe σ vs) vs = L2.wipe σ vs := wipe_eq (wipe_length _ _) fun j hj => by rw [wipe_out hj]
theorem lc_run {vs ts : List Nat} {mi : M (List PyData)} {g : PyData → En → Option En} {mt : M Bool} {me : M PyData} (hts : ∀ t ∈ ts, t ∈ vs) {σ : L2.St} {H : Hp} {Q : VK} (h : tM K E (rF K) (mLc vs mi g mt me) σ H Q) :
    tLc (tM K E (rIt K) mi) (tG K ts g) (tM K XN rB mt) (tM K XN (rD K) me) vs σ H Q := by
  obtain ⟨F, O, G, r, out, P, em, f⟩ := h
  refine tM.run P f em fun items r1 J G1 H1 P1 g1 q1 e1 f1 => ?_
  split at e1
  · rename_i hcond
    rw [Bool.and_eq_true, decide_eq_true_eq] at hcond
    obtain ⟨hfree, hlen⟩ := hcond
    obtain ⟨⟨ds, r'⟩, hgo, rfl⟩ := Option.map_eq_some_iff.mp e1
    have ov := free_own P1 hfree
    intro D nD
    have hD0 : F.H0 D = none := P1.nf _ nD
    have hDo : ∀ i, O i ≠ some D := fun i z => (P1.on i D z).2.2.1 nD
    have hDG : G1 D = none := P1.sub.free nD
    refine ⟨fun i m H' => m = items.length - i ∧ i ≤ items.length ∧ ∃ G' r2 xs ds0 ds1, Rp K F O G' (L2.wipe σ vs) H' (wipeE r2 vs) ∧ Go O G1 H1 G' H' ∧ G' D = none ∧ H' D = some (.lst xs) ∧ DqAll K G' xs ds0 ∧ xs.length ≤ i ∧ lcGo vs g mt me (items.drop i) r2 = some (ds1, r') ∧ ds = ds0 ++ ds1,
      ⟨items.length, by simp, Nat.zero_le _, G1, r1, [], [], ds, ?_, ?_, hDG, upd_same, .nil, Nat.zero_le _, hgo, rfl⟩, ?_⟩
    · exact (P1.wr hDG hD0 hDo).wipe ov
    · exact Go.refl.wr nD
    rintro i m H' ⟨rfl, hi, G', r2, xs, ds0, ds1, P2, g2, gD, hD, hx, lx, hgo2, rfl⟩
    by_cases hlt : i < items.length
    · refine .inr ?_
      have e3 := List.getElem?_eq_getElem hlt
      rw [List.drop_eq_getElem_cons hlt] at hgo2
      obtain ⟨jgo, jy⟩ := (q1 i H' G' g2.gg P2.sub).1 _ e3
      refine ⟨jgo, _, fun H4 p => ⟨_, (by omega : items.length - (i + 1) < items.length - i), p⟩, fun x H'' y => ?_⟩
      obtain ⟨G2, ps, hd⟩ := jy x H'' y
      obtain ⟨r3, e4, e5⟩ := Option.bind_eq_some_iff.mp hgo2
      have g2D : G2 D = none := by
        cases z : G2 D with
        | none => rfl
        | some o =>
          rcases ps.gn D (some_ne z) with w | w
          · exact absurd gD w
          · rw [hD] at w
            cases w
      refine ⟨F, O, G2, _, r3, _, P2.ps ps, hd, e4, fun σ2 P3 l3 k3 => ⟨?_, ?_⟩⟩
      · have := wipe_eq l3 (vs := vs) fun j hj => k3 j fun z => hj (hts j z)
        rw [this, wipe_wipe]
      have w3 : L2.wipe σ2 vs = L2.wipe σ vs := by
        have := wipe_eq l3 (vs := vs) fun j hj => k3 j fun z => hj (hts j z)
        rw [this, wipe_wipe]
      have gg3 := g2.trans (ps.go (O := O))
      have hD3 := ps.hh _ _ hD
      cases em3 : mt r3 with
      | none => rw [em3] at e5; cases e5
      | some o3 =>
        rw [em3] at e5
        cases o3 with
        | ex c p => cases e5
        | ok b r4 =>
          refine ⟨F, O, G2, r3, _, P3, em3, fun b' G4 H4 P4 g4 hb => ?_⟩
          cases hb
          have hD4 := g4.keep _ _ hD3 hDo
          have gD4 : G4 D = none := by
            cases z : G4 D with
            | none => rfl
            | some o =>
              rcases g4.gn D (some_ne z) with w | w
              · exact absurd g2D w
              · rw [hD3] at w
                cases w
          have gg4 := gg3.trans g4
          cases b with
          | false =>
            refine iteF ⟨rfl, hlt, G4, r4, xs, ds0, ds1, ?_, gg4, gD4, hD4, hx.sm (ps.gg.trans g4.gg), by omega, e5, rfl⟩
            have := P4.wipe ov
            rw [w3] at this
            exact this
          | true =>
            refine iteT ?_
            cases em5 : me r4 with
            | none =>
              simp only [em5] at e5
              cases e5
            | some o5 =>
              cases o5 with
              | ex c p =>
                simp only [em5] at e5
                cases e5
              | ok d r5 =>
                simp only [em5] at e5
                obtain ⟨⟨ds2, r6⟩, hgo6, e6⟩ := Option.map_eq_some_iff.mp e5
                cases e6
                refine ⟨F, O, G4, r4, _, P4, em5, fun y G5 H5 P5 g5 hy => ?_⟩
                have hD5 := g5.keep _ _ hD4 hDo
                have gD5 : G5 D = none := by
                  cases z : G5 D with
                  | none => rfl
                  | some o =>
                    rcases g5.gn D (some_ne z) with w | w
                    · exact absurd gD4 w
                    · rw [hD4] at w
                      cases w
                refine ⟨xs, hD5, line_lt (by omega), rfl, hlt, G5, r5, xs ++ [y], ds0 ++ [d], ds2, ?_, (gg4.trans g5).wr nD, gD5, upd_same, (hx.sm ((ps.gg.trans g4.gg).trans g5.gg)).append (.cons hy .nil), by rw [List.length_append]; simp; omega, hgo6, by rw [List.append_assoc]; rfl⟩
                have := (P5.wr (o := .lst (xs ++ [y])) gD5 hD0 hDo).wipe ov
                rw [w3] at this
                exact this
    · refine .inl ?_
      have e3 : i = items.length := by omega
      subst e3
      rw [List.drop_length] at hgo2
      cases hgo2
      rw [List.append_nil] at f1
      refine ⟨(q1 _ H' G' g2.gg P2.sub).2 (Nat.le_refl _), f1 _ G' H' (Rp.rest (fun v hv d e => ?_) (fun v hv ds => ?_) P2 ov) g2 ⟨D, xs, rfl, nD, gD, hD0, hDo, hD, hx⟩⟩
      · obtain ⟨x, h1, h2⟩ := P1.pl v d e
        exact ⟨x, h1, h2.sm g2.gg⟩
      · have q := List.all_eq_true.mp hfree v hv
        refine ⟨fun e => ?_, fun e => ?_, fun e => ?_⟩ <;>
        · rw [e] at q
          cases q
  · cases e1
theorem df_lc {elt tg iter : Expr} {ifs : List Expr} {scope : Scope} {own : List (Str × Nat)} {ts : List Nat} {mi : M (List PyData)} {g : PyData → En → Option En} {mt : M Bool} {me : M PyData} (hc : X.calm = true) (hN : X.N.Nodup) (hi : DI K E X tg iter mi) (ok : BlkOk X.N X.env.scope scope own)
    (hg : ∀ (s : Shared) (H : Hp) (C : Addr) (cl : List (Str × Addr)) (fp : List Addr), DG K (X.blk s H scope (compEnvC scope cl C X.env) fp) tg ts g) (ht : ∀ (s : Shared) (H : Hp) (C : Addr) (cl : List (Str × Addr)) (fp : List Addr), DTs K (X.blk s H scope (compEnvC scope cl C X.env) fp) ifs mt)
    (he : ∀ (s : Shared) (H : Hp) (C : Addr) (cl : List (Str × Addr)) (fp : List Addr), DE K XN (X.blk s H scope (compEnvC scope cl C X.env) fp) elt me) (hts : ∀ t ∈ ts, t ∈ own.map (·.2) := by decide) (hs : ∀ x, foldedSetIterable iter X.env x = pure x := by intro _; rfl) :
    DF K E X (.ListComp elt [⟨tg, iter, ifs, 0⟩] scope pos) (mLc (own.map (·.2)) mi g mt me) :=
  ⟨fun hK => PE.imp (pe_lc hc hN (hi.pi hK) ok (fun s H C cl fp => (hg s H C cl fp).pg hK) (fun s H C cl fp => (ht s H C cl fp).pt hK) (fun s H C cl fp => (he s H C cl fp).pe hK) hs) fun _ _ _ h => lc_run hts h⟩
end
end DL
namespace DL
open PySem PySem.Spec PyProof.Rows L2 Lk
inductive Fl where
  | nx (r : En) | rt (d : PyData) (r : En) | bk (r : En) | ct (r : En) | ex (c : Str) (p : List PyData) | rf (ds : List PyData) (r : En)
abbrev SM := En → Option Fl
def FinS (K : PySem.W.Frag) (E : XE) (F : Fm) (G : Hp) (D : Ends) : Fl → Prop
  | .nx r' => ∀ O' G' σ' H', Rp K F O' G' σ' H' r' → Same G G' → D.nx σ' H'
  | .bk r' => ∀ O' G' σ' H', Rp K F O' G' σ' H' r' → Same G G' → D.bk σ' H'
  | .ct r' => ∀ O' G' σ' H', Rp K F O' G' σ' H' r' → Same G G' → D.ct σ' H'
  | .rt d r' => ∀ O' G' σ' H' v, Rp K F O' G' σ' H' r' → Same G G' → Dq K G' v d → D.rt v H'
  | .ex c p => ∀ H', (∀ c o, F.H0 c = some o → (∀ i, F.ios i ≠ some c) → H' c = some o) → E c p H'
  | .rf ds r' => ∀ O' G' σ' H' p xs, Rp K F O' G' σ' H' r' → Same G G' → G' p = none → F.H0 p = none → H' p = some (.lst xs) → DqAll K G' xs ds → D.rt (.ref p) H'
def tS (K : PySem.W.Frag) (E : XE) (m : SM) : TS := fun D σ H => ∃ F O G r fl, Rp K F O G σ H r ∧ m r = some fl ∧ FinS K E F G D fl
structure DS (K : PySem.W.Frag) (E : XE) (X : Cx) (st : Stmt) (m : SM) : Prop where
  ps : X.K = K → PS X st (tS K E m)
structure DSs (K : PySem.W.Frag) (E : XE) (X : Cx) (st : List Stmt) (m : SM) : Prop where
  ps : X.K = K → PSs X st (tS K E m)
def sBind {α : Type} (m : M α) (k : α → SM) : SM := fun r => match m r with
  | some (.ok a r') => k a r'
  | some (.ex c p) => some (.ex c p)
  | none => none
def sNil : SM := fun r => some (.nx r)
def sSeq (a b : SM) : SM := fun r => match a r with
  | some (.nx r') => b r'
  | o => o
section
variable {X : Cx} {st : Stmt} {sts : List Stmt}
theorem PS.imp {t t' : TS} (h : PS X st t) (i : ∀ D σ H, t' D σ H → t D σ H) : PS X st t' := ⟨fun pins s σ H D I q => h.run pins s σ H D I (i _ _ _ q)⟩
theorem PSs.imp {t t' : TS} (h : PSs X sts t) (i : ∀ D σ H, t' D σ H → t D σ H) : PSs X sts t' := ⟨fun pins s σ H D I q => h.run pins s σ H D I (i _ _ _ q)⟩
end
section
variable {K : PySem.W.Frag} {E : XE} {F : Fm} {O : Ow} {G G1 H H1 : Hp} {σ : L2.St} {r : En} {α β : Type} {D : Ends} {fl : Fl}
theorem FinS.via (g : Same G G1) (f : FinS K E F G D fl) : FinS K E F G1 D fl := by
  cases fl with
  | nx r' => exact fun O' G' σ' H' p q => f O' G' σ' H' p (g.trans q)
  | bk r' => exact fun O' G' σ' H' p q => f O' G' σ' H' p (g.trans q)
  | ct r' => exact fun O' G' σ' H' p q => f O' G' σ' H' p (g.trans q)
  | rt d r' => exact fun O' G' σ' H' v p q => f O' G' σ' H' v p (g.trans q)
  | ex c p => exact f
  | rf ds r' => exact fun O' G' σ' H' p xs q s => f O' G' σ' H' p xs q (g.trans s)
theorem tS.run {R1 : RR β α} {Q1 : β → Hp → Prop} {m : M α} {k : α → SM} (P : Rp K F O G σ H r) (f : FinS K E F G D fl) (e : sBind m k r = some fl)
    (h : ∀ a r1 b G1 H1, Rp K F O G1 σ H1 r1 → Go O G H G1 H1 → R1 H O F G1 H1 b a → k a r1 = some fl → FinS K E F G1 D fl → Q1 b H1) : tM K E R1 m σ H Q1 := by
  cases em : m r with
  | none =>
    rw [sBind, em] at e
    cases e
  | some o =>
    cases o with
    | ok a r1 =>
      rw [sBind, em] at e
      exact ⟨F, O, G, r, _, P, em, fun b G1 H1 P1 g1 q => h a r1 b G1 H1 P1 g1 q e (f.via g1.gg)⟩
    | ex c p =>
      rw [sBind, em] at e
      cases e
      exact ⟨F, O, G, r, _, P, em, f⟩
end
def sExpr (m : M PyData) : SM := sBind m fun _ => sNil
def sRet (m : M PyData) : SM := sBind m fun d r => some (.rt d r)
def sRetN : SM := fun r => some (.rt .none r)
def sIf (c : M Bool) (a b : SM) : SM := sBind c fun k => if k then a else b
/-- slot i holds d from now on -/
def sPut (i : Nat) (d : PyData) : SM := fun r => match r[i]? with
  | some (.io _) => none
  | some _ => some (.nx (r.set i (.pl d)))
  | none => none
def sSet (i : Nat) (m : M PyData) : SM := sBind m (sPut i)
def sPutO (i : Nat) (ds : List PyData) : SM := fun r => match r[i]? with
  | some (.io _) => none
  | some _ => some (.nx (r.set i (.ow ds)))
  | none => none
/-- slot i owns a new list -/
def sOwn (i : Nat) (m : M (List PyData)) : SM := sBind m (sPutO i)
/-- the list in slot i is never changed again -/
def sFrz (i : Nat) (m : SM) : SM := fun r => match r[i]? with
  | some (.ow ds) => m (r.set i (.pl (.list ds)))
  | _ => m r
def ownOf : Option Cel → Option (List PyData)
  | some (.ow ds) => some ds
  | some (.io ds) => some ds
  | _ => none
def reOwn (ds : List PyData) : Cel → Cel
  | .io _ => .io ds
  | _ => .ow ds
/-- what is in the list in slot i -/
def upO (i : Nat) (ds : List PyData) (r : En) : En := match r[i]? with
  | some c => r.set i (reOwn ds c)
  | none => r
section
variable {K : PySem.W.Frag} {F : Fm} {O : Ow} {G H : Hp} {σ : L2.St} {r : En}
theorem dropO (R : Rp K F O G σ H r) {i : Nat} (hio : ∀ ds, r[i]? ≠ some (Cel.io ds)) : Rp K F (fun j => if j = i then none else O j) G σ H (r.set i .un) := by
  have ne : ∀ (j : Nat) (c : Cel), (r.set i .un)[j]? = some c → c ≠ .un → j ≠ i ∧ r[j]? = some c := fun j c e n => by
    by_cases z : i = j
    · subst z
      rw [List.getElem?_set] at e
      simp only [if_true] at e
      split at e
      · exact absurd (Option.some.inj e).symm n
      · cases e
    · rw [List.getElem?_set_ne z] at e
      exact ⟨Ne.symm z, e⟩
  refine ⟨R.sub, by rw [List.length_set]; exact R.len, fun j d e => ?_, fun j ds e => ?_, fun j ds e => ?_, fun j ks e => R.dk j ks (ne j _ e fun z => Cel.noConfusion z).2, fun j p e => ?_, fun a b p e1 e2 => ?_, R.old, R.nf, R.g0, R.gn⟩
  · exact R.pl j d (ne j _ e fun z => Cel.noConfusion z).2
  · obtain ⟨z, e'⟩ := ne j _ e fun z => Cel.noConfusion z
    obtain ⟨p, xs, h1, h2⟩ := R.ow j ds e'
    exact ⟨p, xs, by rw [if_neg z]; exact h1, h2⟩
  · obtain ⟨z, e'⟩ := ne j _ e fun z => Cel.noConfusion z
    obtain ⟨p, xs, h0, h1, h2⟩ := R.io j ds e'
    exact ⟨p, xs, h0, by rw [if_neg z]; exact h1, h2⟩
  · split at e
    · cases e
    · rename_i z
      obtain ⟨⟨c, h1, h2⟩, h3⟩ := R.on j p e
      exact ⟨⟨c, by rw [List.getElem?_set_ne (Ne.symm z)]; exact h1, h2⟩, h3⟩
  · split at e1
    · cases e1
    · split at e2
      · cases e2
      · exact R.inj a b p e1 e2
theorem Rp.put0 (R : Rp K F O G σ H r) {i : Nat} (hio : ∀ ds, r[i]? ≠ some (Cel.io ds)) {v : V} {d : PyData} (hd : Dq K G v d) : Rp K F (fun j => if j = i then none else O j) G (σ.set i (some v)) H (r.set i (.pl d)) := by
  have P := (dropO R hio).put (i := i) (by show (if i = i then none else O i) = none; rw [if_pos rfl]) (v := some v) (c := .pl d) (.inr ⟨d, v, rfl, rfl, hd⟩)
  rw [List.set_set] at P
  exact P
theorem Rp.own0 (R : Rp K F O G σ H r) {i : Nat} (hi : i < r.length) (hio : ∀ ds, r[i]? ≠ some (Cel.io ds)) {p : Addr} {xs : List V} {ds : List PyData} (g : G p = none) (h0 : F.H0 p = none) (ho : ∀ j, O j ≠ some p) (hp : H p = some (.lst xs)) (ha : DqAll K G xs ds) :
    Rp K F (fun j => if j = i then some p else O j) G (σ.set i (some (.ref p))) H (r.set i (.ow ds)) := by
  have P := dropO R hio
  have ne : ∀ (j : Nat) (c : Cel), (r.set i (.ow ds))[j]? = some c → j ≠ i → (r.set i .un)[j]? = some c := fun j c e z => by
    rw [List.getElem?_set_ne (Ne.symm z)] at e ⊢
    exact e
  have li : i < σ.length := by rw [R.len]; exact hi
  refine ⟨P.sub, by rw [List.length_set, List.length_set]; exact R.len, fun j d e => ?_, fun j ds' e => ?_, fun j ds' e => ?_, fun j ks e => by
    by_cases z : j = i
    · subst z
      rw [List.getElem?_set_self hi] at e
      cases e
    · obtain ⟨q, nks, as, h1, h2⟩ := P.dk j ks (ne j _ e z)
      exact ⟨q, nks, as, by rw [List.getElem?_set_ne (Ne.symm z)]; exact h1, h2⟩, fun j q e => ?_, fun a b q e1 e2 => ?_, R.old, R.nf, R.g0, R.gn⟩
  · by_cases z : j = i
    · subst z
      rw [List.getElem?_set_self hi] at e
      cases e
    · obtain ⟨v, h1, h2⟩ := P.pl j d (ne j _ e z)
      exact ⟨v, by rw [List.getElem?_set_ne (Ne.symm z)]; exact h1, h2⟩
  · by_cases z : j = i
    · subst z
      rw [List.getElem?_set_self hi] at e
      cases e
      exact ⟨p, xs, by rw [if_pos rfl], by rw [List.getElem?_set_self li], h0, hp, ha⟩
    · obtain ⟨q, ys, h1, h2, h3⟩ := P.ow j ds' (ne j _ e z)
      rw [if_neg z] at h1
      exact ⟨q, ys, by rw [if_neg z]; exact h1, by rw [List.getElem?_set_ne (Ne.symm z)]; exact h2, h3⟩
  · by_cases z : j = i
    · subst z
      rw [List.getElem?_set_self hi] at e
      cases e
    · obtain ⟨q, ys, h0, h1, h2, h3⟩ := P.io j ds' (ne j _ e z)
      rw [if_neg z] at h1
      exact ⟨q, ys, h0, by rw [if_neg z]; exact h1, by rw [List.getElem?_set_ne (Ne.symm z)]; exact h2, h3⟩
  · split at e
    · rename_i z
      subst z
      cases e
      exact ⟨⟨_, List.getElem?_set_self hi, rfl⟩, g, some_ne hp, .inl h0⟩
    · rename_i z
      obtain ⟨⟨c, h1, h2⟩, h3⟩ := R.on j q e
      exact ⟨⟨c, by rw [List.getElem?_set_ne (Ne.symm z)]; exact h1, h2⟩, h3⟩
  · split at e1
    · rename_i z1
      split at e2
      · rename_i z2
        rw [z1, z2]
      · cases e1
        exact absurd e2 (ho b)
    · split at e2
      · cases e2
        exact absurd e1 (ho a)
      · exact R.inj a b q e1 e2
theorem Rp.frz (R : Rp K F O G σ H r) {i : Nat} {ds : List PyData} (e : r[i]? = some (Cel.ow ds)) : ∃ O' G', Same G G' ∧ Rp K F O' G' σ H (r.set i (.pl (.list ds))) := by
  obtain ⟨p, xs, h1, h2, h0, h3, h4⟩ := R.ow i ds e
  have hio : ∀ ds', r[i]? ≠ some (Cel.io ds') := fun ds' z => by rw [e] at z; cases z
  have gp : G p = none := (R.on i p h1).2.1
  have P := dropO R hio
  have no : ∀ j, (fun j => if j = i then none else O j) j ≠ some p := fun j z => by
    dsimp only at z
    split at z
    · cases z
    · rename_i n
      exact n (R.inj j i p z h1)
  have Q := P.see h3 gp h0 no
  have S := Q.tell (i := i) (c := .pl (.list ds)) (by show (if i = i then none else O i) = none; rw [if_pos rfl]) (.inr ⟨_, .ref p, rfl, h2, .lst (.inl (.inl upd_same)) (h4.sm (same_new gp))⟩)
  rw [List.set_set] at S
  exact ⟨_, _, same_new gp, S⟩
/-- the list of slot i -/
theorem Rp.own_at (R : Rp K F O G σ H r) {i : Nat} {ds : List PyData} (e : ownOf r[i]? = some ds) : ∃ p xs, O i = some p ∧ σ[i]? = some (some (.ref p)) ∧ H p = some (.lst xs) ∧ DqAll K G xs ds := by
  cases h : r[i]? with
  | none => rw [h] at e; cases e
  | some c =>
    rw [h] at e
    cases c with
    | ow ds' =>
      cases e
      obtain ⟨p, xs, h1, h2, _, h3, h4⟩ := R.ow i _ h
      exact ⟨p, xs, h1, h2, h3, h4⟩
    | io ds' =>
      cases e
      obtain ⟨p, xs, _, h1, h2, h3, h4⟩ := R.io i _ h
      exact ⟨p, xs, h1, h2, h3, h4⟩
    | _ => cases e
/-- the list of slot i changes -/
theorem Rp.chg (R : Rp K F O G σ H r) {i : Nat} {ds ds' : List PyData} (e : ownOf r[i]? = some ds) {p : Addr} (hp : O i = some p) {H' G' : Hp} {xs : List V} (gg : Same G G') (gh : Same G' H') (gp : G' p = none) (k : ∀ c o, c ≠ p → H c = some o → H' c = some o) (gn : ∀ c, G' c ≠ none → G c ≠ none ∨ H c = none)
    (hx : H' p = some (.lst xs)) (ha : DqAll K G' xs ds') : Rp K F O G' σ H' (upO i ds' r) ∧ Go O G H G' H' := by
  obtain ⟨c, hc, hown⟩ : ∃ c, r[i]? = some c ∧ c.own = true := by
    obtain ⟨h1, _⟩ := R.on i p hp
    exact h1
  have hnd : ∀ ks, c ≠ .dk ks := fun ks z => by
    rw [hc, z] at e
    cases e
  have li := (List.getElem?_eq_some_iff.mp hc).1
  have eu : upO i ds' r = r.set i (reOwn ds' c) := by unfold upO; rw [hc]
  have hpn : H p ≠ none := (R.on i p hp).2.2.1
  have nf : ∀ c, H' c = none → H c = none := fun c e => by
    by_cases z : c = p
    · rw [z, hx] at e
      cases e
    · cases q : H c with
      | none => rfl
      | some o => rw [k c o z q] at e; cases e
  refine ⟨?_, gg, fun c o e n => k c o (fun z => n i (by rw [z]; exact hp)) e, gn, nf⟩
  rw [eu]
  have ne : ∀ (j : Nat) (c' : Cel), (r.set i (reOwn ds' c))[j]? = some c' → j ≠ i → r[j]? = some c' := fun j c' e z => by
    rw [List.getElem?_set_ne (Ne.symm z)] at e
    exact e
  refine ⟨gh, by rw [List.length_set]; exact R.len, fun j d e => ?_, fun j es e => ?_, fun j es e => ?_, fun j ks e => ?_, fun j q e => ?_, R.inj, fun c o e n => ?_, fun c e => R.nf c (nf c e), R.g0.trans gg, fun c e => ?_⟩
  · by_cases z : j = i
    · subst z
      rw [List.getElem?_set_self li] at e
      cases c <;> cases e
    · obtain ⟨v, h1, h2⟩ := R.pl j d (ne j _ e z)
      exact ⟨v, h1, h2.sm gg⟩
  · by_cases z : j = i
    · subst z
      rw [List.getElem?_set_self li] at e
      cases c with
      | ow es' =>
        cases e
        obtain ⟨q, ys, h1, h2, h3, _⟩ := R.ow j es' hc
        rw [hp] at h1
        cases h1
        exact ⟨p, xs, hp, h2, h3, hx, ha⟩
      | io _ => cases e
      | dk _ => exact absurd rfl (hnd _)
      | _ => cases hown
    · obtain ⟨q, ys, h1, h2, h3, h4, h5⟩ := R.ow j es (ne j _ e z)
      exact ⟨q, ys, h1, h2, h3, k q _ (fun w => z (R.inj j i p (by rw [h1, w]) hp)) h4, h5.sm gg⟩
  · by_cases z : j = i
    · subst z
      rw [List.getElem?_set_self li] at e
      cases c with
      | io es' =>
        cases e
        obtain ⟨q, ys, h0, h1, h2, _⟩ := R.io j es' hc
        rw [hp] at h1
        cases h1
        exact ⟨p, xs, h0, hp, h2, hx, ha⟩
      | ow _ => cases e
      | dk _ => cases e
      | _ => cases hown
    · obtain ⟨q, ys, h0, h1, h2, h4, h5⟩ := R.io j es (ne j _ e z)
      exact ⟨q, ys, h0, h1, h2, k q _ (fun w => z (R.inj j i p (by rw [h1, w]) hp)) h4, h5.sm gg⟩
  · by_cases z : j = i
    · subst z
      rw [List.getElem?_set_self li] at e
      cases c <;> cases e
    · obtain ⟨q, nks, as, h1, h2, h3, h4⟩ := R.dk j ks (ne j _ e z)
      exact ⟨q, nks, as, h1, gg _ _ h2, h3, h4.sm gg⟩
  · obtain ⟨⟨c', h1, h2⟩, h3, h4, h5⟩ := R.on j q e
    refine ⟨?_, ?_, ?_, h5⟩
    · by_cases z : j = i
      · subst z
        refine ⟨_, List.getElem?_set_self li, ?_⟩
        cases c <;> first | rfl | cases hown | exact absurd rfl (hnd _)
      · exact ⟨c', by rw [List.getElem?_set_ne (Ne.symm z)]; exact h1, h2⟩
    · cases w : G' q with
      | none => rfl
      | some o =>
        rcases gn q (some_ne w) with y | y
        · exact absurd h3 y
        · exact absurd y h4
    · intro w
      exact h4 (nf q w)
  · refine k c o (fun z => ?_) (R.old c o e n)
    subst z
    rcases (R.on i _ hp).2.2.2 with w | ⟨j, w⟩
    · rw [w] at e
      cases e
    · exact n j w
  · rcases gn c e with z | z
    · exact R.gn c z
    · exact .inr (R.nf c z)
end
section
variable {K : PySem.W.Frag} {E : XE} {X : Cx} {st : Stmt} {sts : List Stmt} {a b : SM} {m : M PyData} {mc : M Bool} {ml : M (List PyData)} {e c : Expr} {pos : Pos}
theorem dss_nil : DSs K E X [] sNil := ⟨fun _ => PSs.imp pss_nil fun D σ H ⟨F, O, G, r, fl, P, em, f⟩ => by
  cases em
  exact f O G σ H P (Same.refl _)⟩
theorem dss_cons (h1 : DS K E X st a) (h2 : DSs K E X sts b) : DSs K E X (st :: sts) (sSeq a b) := ⟨fun hK => PSs.imp (pss_cons (h1.ps hK) (h2.ps hK)) fun D σ H ⟨F, O, G, r, fl, P, em, f⟩ => by
  unfold sSeq at em
  cases ea : a r with
  | none => rw [ea] at em; cases em
  | some fa =>
    rw [ea] at em
    refine ⟨F, O, G, r, fa, P, ea, ?_⟩
    cases fa with
    | nx r' => exact fun O' G' σ' H' P' g => ⟨F, O', G', r', fl, P', em, f.via g⟩
    | rt d r' => cases em; exact f
    | bk r' => cases em; exact f
    | ct r' => cases em; exact f
    | ex c p => cases em; exact f
    | rf ds r' => cases em; exact f⟩
theorem dss_one (h : DS K E X st a) : DSs K E X [st] a := ⟨fun hK => pss_one (h.ps hK)⟩
theorem ds_ret (he : DE K E X e m) : DS K E X (.Return (some e) pos) (sRet m) := ⟨fun hK => PS.imp (ps_ret (he.pe hK)) fun D σ H ⟨F, O, G, r, fl, P, em, f⟩ => by
  refine tS.run P f em fun d r1 x G1 H1 P1 g1 q1 e1 f1 => ?_
  cases e1
  exact f1 O G1 σ H1 x P1 (Same.refl _) q1⟩
theorem ds_if {sa sb : List Stmt} (hc : DT K E X c mc) (ha : DSs K E X sa a) (hb : DSs K E X sb b) : DS K E X (.If c sa sb pos) (sIf mc a b) := ⟨fun hK => PS.imp (ps_if (hc.pt hK) (ha.ps hK) (hb.ps hK)) fun D σ H ⟨F, O, G, r, fl, P, em, f⟩ => by
  refine tS.run P f em fun d r1 x G1 H1 P1 g1 q1 e1 f1 => ?_
  cases q1
  cases d with
  | true => exact iteT ⟨F, O, G1, r1, fl, P1, e1, f1⟩
  | false => exact iteF ⟨F, O, G1, r1, fl, P1, e1, f1⟩⟩
theorem ds_never : DS K E X st (fun _ => none) := ⟨fun _ => PS.imp ps_never fun D σ H ⟨F, O, G, r, fl, P, em, f⟩ => by cases em⟩
/-- name = e, the name from now on a datum -/
theorem ds_set_t {te : TE} {i : Nat} (h : PS X st (tAsg te (gName i))) (ht : ∀ σ H Q, tM K E (rD K) m σ H Q → te σ H Q) : PS X st (tS K E (sSet i m)) := PS.imp h fun D σ H ⟨F, O, G, r, fl, P, em, f⟩ => by
  refine ht _ _ _ (tS.run P f em fun d r1 x G1 H1 P1 g1 q1 e1 f1 => ?_)
  unfold sPut at e1
  split at e1
  · cases e1
  · rename_i cel hne hc
    cases e1
    exact f1 _ G1 _ H1 (P1.put0 (fun ds z => hne ds (Option.some.inj (hc.symm.trans z))) q1) (Same.refl _)
  · cases e1
theorem ds_own_t {te : TE} {i : Nat} (h : PS X st (tAsg te (gName i))) (ht : ∀ σ H Q, tM K E (rF K) ml σ H Q → te σ H Q) : PS X st (tS K E (sOwn i ml)) := PS.imp h fun D σ H ⟨F, O, G, r, fl, P, em, f⟩ => by
  refine ht _ _ _ (tS.run P f em fun ds r1 x G1 H1 P1 g1 q1 e1 f1 => ?_)
  obtain ⟨p, xs, rfl, _, hg, h0, ho, hp, ha⟩ := q1
  unfold sPutO at e1
  split at e1
  · cases e1
  · rename_i cel hne hc
    cases e1
    exact f1 _ G1 _ H1 (P1.own0 (List.getElem?_eq_some_iff.mp hc).1 (fun ds z => hne ds (Option.some.inj (hc.symm.trans z))) hg h0 ho hp ha) (Same.refl _)
  · cases e1
theorem ds_set {i : Nat} {x : Str} {pos' : Pos} (hN : X.N.Nodup) (hi : X.N[i]? = some x) (hx : Loc X.env.scope x) (he : DE K E X e m) (hs : swapsWith e (some (.Name x pos')) pos.line X.env = pure false := by rfl) (hf : X.fn x = true ∨ X.env.scope.names.lookup x = some .local := by first | exact .inl rfl | exact .inr rfl | assumption) :
    DS K E X (.Assign [.Name x pos'] e pos) (sSet i m) := ⟨fun hK => ds_set_t (ps_set hN hi hx (he.pe hK) hs hf) fun _ _ _ h => h⟩
theorem ds_own {i : Nat} {x : Str} {pos' : Pos} (hN : X.N.Nodup) (hi : X.N[i]? = some x) (hx : Loc X.env.scope x) (he : DF K E X e ml) (hs : swapsWith e (some (.Name x pos')) pos.line X.env = pure false := by rfl) (hf : X.fn x = true ∨ X.env.scope.names.lookup x = some .local := by first | exact .inl rfl | exact .inr rfl | assumption) :
    DS K E X (.Assign [.Name x pos'] e pos) (sOwn i ml) := ⟨fun hK => ds_own_t (ps_set hN hi hx (he.pe hK) hs hf) fun _ _ _ h => h⟩
/-- what a new list gives as a datum -/
theorem fr_t {σ : L2.St} {H : Hp} {Q : VK} (h : tM K E (rD K) (ml.map PyData.list) σ H Q) : tM K E (rF K) ml σ H Q := by
  obtain ⟨F, O, G, r, out, P, em, f⟩ := h
  refine tM.run P f em fun ds r1 v G1 H1 P1 g1 q1 e1 f1 => ?_
  cases e1
  obtain ⟨p, xs, rfl, hs, hg, h0, ho, hp, ha⟩ := q1
  cases em2 : ml r with
  | none =>
    rw [M.map, M.bind, em2] at em
    cases em
  | some o =>
    cases o with
    | ex c z =>
      rw [M.map, M.bind, em2] at em
      cases em
    | ok ds' r' =>
      rw [M.map, M.bind, em2] at em
      cases em
      refine f _ _ _ (P1.see hp hg h0 ho) ?_ (.lst (.inl (.inl upd_same)) (ha.sm (same_new hg)))
      refine ⟨g1.gg.trans (same_new hg), g1.keep, fun c e => ?_, g1.nf⟩
      by_cases z : c = p
      · rw [z]
        exact .inr hs
      · rw [upd_ne z] at e
        exact g1.gn c e
section
variable {i : Nat} {y : Str} {py : Pos} {elt tg iter : Expr} {ifs : List Expr} {scope : Scope} {own : List (Str × Nat)} {ts : List Nat} {spos : Pos} {mi : M (List PyData)} {g : PyData → En → Option En} {mt : M Bool} {me : M PyData}
/-- name = [..] on one line -/
theorem ds_setLc (hc : X.calm = true) (hN : X.N.Nodup) (hy : X.N[i]? = some y) (hyl : X.env.scope.names.lookup y = some .local)
    (hsw : swapsWith (.ListComp elt [⟨tg, iter, ifs, 0⟩] scope pos) (some (.Name y py)) spos.line X.env = pure true) (hi : DI K E X tg iter mi) (ok : BlkOk X.N X.env.scope scope own)
    (hg : ∀ (s : Shared) (H : Hp) (C : Addr) (cl : List (Str × Addr)) (fp : List Addr), DG K (X.blk s H scope (compEnvC scope cl C X.env) fp) tg ts g) (ht : ∀ (s : Shared) (H : Hp) (C : Addr) (cl : List (Str × Addr)) (fp : List Addr), DTs K (X.blk s H scope (compEnvC scope cl C X.env) fp) ifs mt)
    (he : ∀ (s : Shared) (H : Hp) (C : Addr) (cl : List (Str × Addr)) (fp : List Addr), DE K XN (X.blk s H scope (compEnvC scope cl C X.env) fp) elt me) (hts : ∀ t ∈ ts, t ∈ own.map (·.2) := by decide) (hs : ∀ x, foldedSetIterable iter X.env x = pure x := by intro _; rfl) :
    DS K E X (.Assign [.Name y py] (.ListComp elt [⟨tg, iter, ifs, 0⟩] scope pos) spos) (sSet i ((mLc (own.map (·.2)) mi g mt me).map PyData.list)) :=
  ⟨fun hK => ds_set_t (ps_setLc hc hN hy hyl hsw (hi.pi hK) ok (fun s H C cl fp => (hg s H C cl fp).pg hK) (fun s H C cl fp => (ht s H C cl fp).pt hK) (fun s H C cl fp => (he s H C cl fp).pe hK) hs) fun _ _ _ h => lc_run hts (fr_t h)⟩
end
theorem ds_frz (i : Nat) (h : DS K E X st a) : DS K E X st (sFrz i a) := ⟨fun hK => PS.imp (h.ps hK) fun D σ H ⟨F, O, G, r, fl, P, em, f⟩ => by
  unfold sFrz at em
  split at em
  · rename_i ds e
    obtain ⟨O', G', g, P'⟩ := P.frz e
    exact ⟨F, O', G', _, fl, P', em, f.via g⟩
  · exact ⟨F, O, G, r, fl, P, em, f⟩⟩
end
def forGo (g : PyData → En → Option En) (b : SM) : List PyData → SM
  | [] => sNil
  | x :: xs => fun r => (g x r).bind fun r1 => match b r1 with
    | some (.nx r2) => forGo g b xs r2
    | some (.ct r2) => forGo g b xs r2
    | some (.bk r2) => some (.nx r2)
    | o => o
def sFor (mi : M (List PyData)) (g : PyData → En → Option En) (b : SM) : SM := sBind mi fun items => forGo g b items
section
variable {K : PySem.W.Frag} {E : XE} {X : Cx} {st : Stmt} {body : List Stmt} {b : SM} {mc : M Bool} {c iter tg : Expr} {pos : Pos}
theorem ds_for {mi : M (List PyData)} {ts : List Nat} {g : PyData → En → Option En} (hp : PassesOwn (model X.prog X.w) X.A X.env X.xe) (hc : X.calm = true) (hi : DI K E X tg iter mi) (hg : DG K X tg ts g) (hb : DSs K E X body b)
    (hs : ∀ x, foldedSetIterable iter X.env x = pure x := by intro _; rfl) : DS K E X (.For tg iter body [] pos) (sFor mi g b) := ⟨fun hK => PS.imp (ps_for hp hc (hi.pi hK) (hg.pg hK) (hb.ps hK) hs) fun D σ H ⟨F, O, G, r, fl, P, em, f⟩ => by
  refine tS.run P f em fun items r1 J G1 H1 P1 g1 q1 e1 f1 => ?_
  refine ⟨fun i n σ H => n = items.length - i ∧ i ≤ items.length ∧ ∃ O' G' r', Rp K F O' G' σ H r' ∧ Same G1 G' ∧ forGo g b (items.drop i) r' = some fl, ⟨items.length, by simp, Nat.zero_le _, O, G1, r1, P1, Same.refl _, e1⟩, ?_⟩
  rintro i n σ H ⟨rfl, hi, O', G', r', P2, g2, e2⟩
  by_cases hlt : i < items.length
  · have e3 := List.getElem?_eq_getElem hlt
    obtain ⟨jgo, jy⟩ := (q1 i H G' g2 P2.sub).1 _ e3
    rw [List.drop_eq_getElem_cons hlt] at e2
    refine .inr ⟨jgo, _, fun σ' H' p => ⟨_, (by omega : items.length - (i + 1) < items.length - i), p⟩, fun x H' y => ?_⟩
    obtain ⟨G2, ps, hd⟩ := jy x H' y
    obtain ⟨r3, e4, e5⟩ := Option.bind_eq_some_iff.mp e2
    refine ⟨F, O', G2, r', r3, _, P2.ps ps, hd, e4, fun σ2 P3 _ _ => ?_⟩
    have g3 := g2.trans ps.gg
    cases eb : b r3 with
    | none => rw [eb] at e5; cases e5
    | some fb =>
      rw [eb] at e5
      refine ⟨F, O', G2, r3, fb, P3, eb, ?_⟩
      cases fb with
      | nx r4 => exact fun O4 G4 σ4 H4 P4 g4 => ⟨rfl, hlt, O4, G4, r4, P4, g3.trans g4, e5⟩
      | ct r4 => exact fun O4 G4 σ4 H4 P4 g4 => ⟨rfl, hlt, O4, G4, r4, P4, g3.trans g4, e5⟩
      | bk r4 =>
        cases e5
        exact fun O4 G4 σ4 H4 P4 g4 => f1 O4 G4 σ4 H4 P4 (g3.trans g4)
      | rt d r4 =>
        cases e5
        exact fun O4 G4 σ4 H4 v P4 g4 => f1 O4 G4 σ4 H4 v P4 (g3.trans g4)
      | ex c p =>
        cases e5
        exact f1
      | rf ds r4 =>
        cases e5
        exact fun O4 G4 σ4 H4 p ys P4 g4 => f1 O4 G4 σ4 H4 p ys P4 (g3.trans g4)
  · have e3 : i = items.length := by omega
    subst e3
    rw [List.drop_length] at e2
    cases e2
    exact .inl ⟨(q1 _ H G' g2 P2.sub).2 (Nat.le_refl _), f1 O' G' σ H P2 g2⟩⟩
/-- return a new list, return the list that a slot owns -/
def sRetF (m : M (List PyData)) : SM := sBind m fun ds r => some (.rf ds r)
end
end DL
namespace DL
open PySem PySem.Spec PyProof.Rows L2 Lk
def Has (P : Program) (w : World) (K : PySem.W.Frag) (mg : Str → Option Value) (base : Heap) (k : Nat) (x : Str) (ps : List Str) (sp : Sp) : Prop :=
  ∃ (f : Addr) (fd : FuncData), FnOk P w K mg base CX0 k f fd ps sp ∧ Binds K fd ps [] ∧ mg x = some (.ref f) ∧ PySem.W.keepIn K (.ref f) = true
theorem Has.mono {P : Program} {w : World} {K : PySem.W.Frag} {mg : Str → Option Value} {base : Heap} {k j : Nat} {x : Str} {ps : List Str} {sp : Sp} (h : Has P w K mg base k x ps sp) (l : k ≤ j) : Has P w K mg base j x ps sp := by
  obtain ⟨f, fd, F, r⟩ := h
  exact ⟨f, fd, F.mono l, r⟩
section
variable {K : PySem.W.Frag} {E : XE} {X : Cx} {e : Expr} {es : List Expr} {m : M (List PyData)} {pos : Pos}
theorem dc {x : Str} {p : Pos} {k : Nat} {ps : List Str} {g : List PyData → Option PyData} (G : Has X.prog X.w K X.mg X.base k x ps (spD K g)) (hr : Room k X.A) (hg : Gl X x)
    (ha : DA K E X (e :: es) m) (hdb : (x == ("__debug__" : Str)) = false := by decide) (he : starEach (e :: es) X.env = (false, eval e X.env) :: starEach es X.env := by rfl)
    (hpl : (backTo pos (starEach es X.env)).any (·.1) = false := by rfl) : DE K E X (.Call (.Name x p) (e :: es) [] pos) (m.bind fun ds => M.lift (g ds)) := by
  obtain ⟨f, fd, F, b, gm, kp⟩ := G
  exact de_call F b gm kp hr hg ha hdb he hpl
/-- f(xs, ..), f changes the list of slot i -/
def mCallM (i : Nat) (m : M (List PyData)) (g : List PyData → List PyData → Option (PyData × List PyData)) : M PyData := fun r0 => if (ownOf r0[i]?).isSome then (m.bind fun ds r => match ownOf r[i]? with
  | some bs => (g bs ds).map fun z => .ok z.1 (upO i z.2 r)
  | none => none) r0 else none
theorem isSome_ex {α : Type} {o : Option α} (h : o.isSome = true) : ∃ a, o = some a := by
  cases o with
  | none => cases h
  | some a => exact ⟨a, rfl⟩
def mLenO (i : Nat) : M PyData := fun r => match ownOf r[i]? with
  | some ds => some (.ok (.int ds.length) r)
  | none => none
def mIxO (i : Nat) (m : M PyData) : M PyData := fun r0 => if (ownOf r0[i]?).isSome then (m.bind fun d r => match ownOf r[i]?, asInt d with
  | some ds, some j => (atI ds j).map fun z => .ok z r
  | _, _ => none) r0 else none
def mTruO (i : Nat) : M Bool := fun r => match ownOf r[i]? with
  | some ds => some (.ok (!ds.isEmpty) r)
  | none => none
/-- a datum as a test: a list, a tuple, a text, a whole number, a bool, None -/
def truD : PyData → Option Bool
  | .none => some false
  | .bool b => some b
  | .int i => some (i != 0)
  | .str x => if x.length ≤ 1000000 then some ((x.length : Int) != 0) else none
  | .list ds => some (!ds.isEmpty)
  | .tuple ds => some (!ds.isEmpty)
  | .dict _ => none
theorem dq_empty {G : Hp} {xs : List V} {ds : List PyData} (h : DqAll K G xs ds) : xs.isEmpty = ds.isEmpty := by
  cases h <;> rfl
theorem dt_tru {ma : M PyData} (ha : DE K E X e ma) (he : ∀ whole, isTrue e X.env whole = (do let v ← whole; standAt e.pos; holding [v] (truthy v)) := by intro _; rfl) : DT K E X e (ma.bind fun d => M.lift (truD d)) := ⟨fun hK => by
  subst hK
  refine PT.imp (pt_truth (ha.pe rfl) he) fun σ H Q ⟨F, O, G, r, out, P, em, f⟩ => ?_
  refine tM.run P f em fun d r1 x G1 H1 P1 g1 q1 e1 f1 => ?_
  obtain ⟨b, hb, rfl⟩ := lift_ok e1
  have fin : Q b H1 := f1.ok (Ps.refl P1.sub) P1 rfl
  refine ⟨b, ?_, fin⟩
  cases q1 with
  | non => cases hb; rfl
  | bl b => cases hb; rfl
  | int i => cases hb; rfl
  | str x =>
    simp only [truD] at hb
    split at hb
    · rename_i hl
      cases hb
      exact ⟨line_le hl, rfl⟩
    · cases hb
  | lst hs ha =>
    cases hb
    exact .inl ⟨_, (P1.sub.seq hs), by rw [dq_empty ha]⟩
  | tup hs ha =>
    cases hb
    exact .inr (.inl ⟨_, Lk.Same.tup P1.sub hs, by rw [dq_empty ha]⟩)⟩
/-- xs.pop() -/
def mPop (i : Nat) : M PyData := fun r => match ownOf r[i]? with
  | some ds => (ds[ds.length - 1]?).map fun z => .ok z (upO i ds.dropLast r)
  | none => none
/-- xs.append(e) as a statement -/
def sApp (i : Nat) (m : M PyData) : SM := fun r0 => if (ownOf r0[i]?).isSome then sBind m (fun d r => match ownOf r[i]? with
  | some ds => if ds.length ≤ 1000000 then some (.nx (upO i (ds ++ [d]) r)) else none
  | none => none) r0 else none
theorem ds_app (i : Nat) {st : Stmt} {te : TE} {ma : M PyData} (ha : X.K = K → ∀ σ H Q, tM K E (rD K) ma σ H Q → te σ H Q) (hp : PS X st (tDrop (tBM X.K "list" rAppend (tVar i) (tCons te tNil)))) : DS K E X st (sApp i ma) := ⟨fun hK => by
  subst hK
  refine PS.imp hp fun D σ H ⟨F, O, G, r, fl, P, em, ff⟩ => ?_
  unfold sApp at em
  split at em
  · rename_i hs
    obtain ⟨bs0, e0⟩ := isSome_ex hs
    obtain ⟨q, xs0, hq, hσ, hx0, _⟩ := P.own_at e0
    refine ⟨_, hσ, .inl ⟨rfl, _, .inl (.inl hx0)⟩, ha rfl _ _ _ (tS.run P ff em fun d r1 x G1 H1 P1 g1 q1 e1 f1 => ?_)⟩
    split at e1
    · rename_i ds e2
      split at e1
      · rename_i hl
        cases e1
        obtain ⟨q', xs1, hq', hσ', hx, hb⟩ := P1.own_at e2
        rw [hq] at hq'
        cases hq'
        refine ⟨q, xs1, x, rfl, rfl, hx, line_lt (by rw [hb.length]; exact hl), ?_⟩
        have gp := (P1.on i q hq).2.1
        obtain ⟨P2, g2⟩ := P1.chg e2 hq (Same.refl G1) (fun c o e => by rw [upd_ne (ne_of_none e gp)]; exact P1.sub _ _ e) gp (fun c o n e => by rw [upd_ne n]; exact e) (fun c e => .inl e) (upd_same (o := .lst (xs1 ++ [x]))) (hb.append (.cons q1 .nil))
        exact f1 O G1 σ _ P2 (Same.refl _)
      · cases e1
    · cases e1
  · cases em⟩
/-- xs[a] = b -/
def sPutIx (i : Nat) (ma mb : M PyData) : SM := sBind mb fun d r1 => if (ownOf r1[i]?).isSome then sBind ma (fun j r => match ownOf r[i]?, asInt j with
  | some ds, some j => (ixN ds.length j).map fun n => .nx (upO i (ds.set n d) r)
  | _, _ => none) r1 else none
end
def ini (N : List Str) (ds : List PyData) : En := ds.map Cel.pl ++ List.replicate (N.length - ds.length) .un
section
variable {P : Program} {w : World} {K : PySem.W.Frag} {mg : Str → Option Value} {base : Heap}
theorem start_rp {N : List Str} {G H : Hp} {vs : List V} {ds : List PyData} (sg : Same G H) (hd : DqAll K G vs ds) : Rp K ⟨H, G, fun _ => none⟩ (fun _ => none) G (L2.start N vs) H (ini N ds) := by
  have hl := hd.length
  refine ⟨sg, by simp [L2.start, ini, hl], fun i d e => ?_, fun i ds' e => ?_, fun i ds' e => ?_, fun i ds' e => ?_, fun i p e => (by cases e), fun i j p e => (by cases e), fun c o e _ => e, fun c e => e, Same.refl _, fun c e => .inl e⟩
  all_goals
    unfold ini at e
    rw [List.getElem?_append] at e
    split at e
    · rename_i hi
      rw [List.length_map] at hi
      rw [List.getElem?_map] at e
      obtain ⟨d', h1, h2⟩ := Option.map_eq_some_iff.mp e
      first
      | (cases h2
         obtain ⟨v, h3, h4⟩ := hd.get h1
         refine ⟨v, ?_, h4⟩
         unfold L2.start
         rw [List.getElem?_append_left (by rw [List.length_map, hl]; exact hi), List.getElem?_map, h3]
         rfl)
      | cases h2
    · rw [List.getElem?_replicate] at e
      split at e
      · cases e
      · cases e
theorem def_D {x qual : Str} {st : Stmt} {f : Addr} {fd : FuncData} {N ps : List Str} {k : Nat} {g : List PyData → Option PyData} {sv : SM} (F : Fun K x qual st f fd) (S : FnScope N ps (defScope st))
    (h : ∀ (cdv : Value) (A : Around) (outer : List Env) (s : Shared) (H : Hp) (E : XK), Room k (A.deeper (envOfC qual (defScope st) s.heap.objs.size f cdv)) → DSs K XN (cxOf CX0 P w K mg base N qual (defScope st) f cdv A outer s H E).nox (defBody st) sv)
    (sp : ∀ ds z, g ds = some z → ds.length = ps.length ∧ ∃ r', sv (ini N ds) = some (.rt z r') ∨ z = .none ∧ sv (ini N ds) = some (.nx r')) : FnOk P w K mg base CX0 (k + 1) f fd ps (spD K g) := by
  refine F.ok S (fun vs H Q E ⟨G, ds, z, sg, hd, hz, q⟩ => by rw [hd.length]; exact (sp ds z hz).1) fun cdv A outer s H vs Q E hr ⟨G, ds, z, sg, hd, hz, q⟩ => ?_
  refine ⟨_, (h cdv A outer s H E hr).ps rfl, ?_⟩
  obtain ⟨_, r', e | ⟨rfl, e⟩⟩ := sp ds z hz
  · exact ⟨_, _, G, _, _, start_rp sg hd, e, fun O' G' σ' H' v R g hv => q v G' H' ⟨R.g0, R.sub, fun c o e => R.old c o e fun i z => (nomatch z), R.gn⟩ hv⟩
  · exact ⟨_, _, G, _, _, start_rp sg hd, e, fun O' G' σ' H' R g => q .non G' H' ⟨R.g0, R.sub, fun c o e => R.old c o e fun i z => (nomatch z), R.gn⟩ .non⟩
end
end DL
namespace DL
open PySem PySem.Spec PyProof.Rows L2 Lk
def mOp2 (g : PyData → PyData → Option PyData) (ma mb : M PyData) : M PyData := ma.bind fun d => mb.bind fun e => M.lift (g d e)
def mOpT (g : PyData → PyData → Option PyData) (ma mb : M PyData) : M Bool := ma.bind fun d => mb.bind fun e => M.lift ((g d e).bind asBool)
def mCons (ma : M PyData) (m : M (List PyData)) : M (List PyData) := ma.bind fun d => m.bind fun ds => M.ret (d :: ds)
def mNil : M (List PyData) := M.ret []
def mCall (g : List PyData → Option PyData) (m : M (List PyData)) : M PyData := m.bind fun ds => M.lift (g ds)
def mCallF (g : List PyData → Option (List PyData)) (m : M (List PyData)) : M (List PyData) := m.bind fun ds => M.lift (g ds)
def mTup (m : M (List PyData)) : M PyData := m.bind fun ds => M.lift (tupM ds)
def mLst (m : M (List PyData)) : M (List PyData) := m.bind fun ds => M.lift (lstM ds)
def mNew (m : M (List PyData)) : M PyData := m.map PyData.list
def mVal (m : M PyData) : M Bool := m.bind fun d => M.lift (asBool d)
def mTru (m : M PyData) : M Bool := m.bind fun d => M.lift (truD d)
def mNotT (m : M Bool) : M Bool := m.bind fun b => M.ret (!b)
def mNotV (m : M PyData) : M PyData := m.bind fun d => (M.lift (asBool d)).bind fun b => M.ret (.bool (!b))
def mIsi (n : String) (m : M PyData) : M PyData := m.bind fun d => M.ret (.bool (isTy n d))
def mNeg (m : M PyData) : M PyData := m.bind fun d => M.lift (negM d)
def mSeq (m : M PyData) : M (List PyData) := m.bind fun d => M.lift (asSeq d)
def mRng1 (m : M (List PyData)) : M (List PyData) := m.bind fun ds => M.lift (if ds.length = 1 then rngM ds else none)
def mRng2 (m : M (List PyData)) : M (List PyData) := m.bind fun ds => M.lift (if ds.length = 2 then rngM ds else none)
def mPart (m : M PyData) : M (Option Int) := m.bind fun d => M.lift ((asInt d).map some)
def mNoPart : M (Option Int) := M.ret none
def mSlice (m : M PyData) (ml mh : M (Option Int)) : M (List PyData) := m.bind fun d => ml.bind fun l => mh.bind fun h => M.lift ((asList d).map fun ds => cutD ds l h)
def sAsg (m : M PyData) (g : PyData → En → Option En) : SM := sBind m fun d r => (g d r).map .nx
def sBrk : SM := fun r => some (.bk r)
def sCont : SM := fun r => some (.ct r)
def sNo : SM := fun _ => none
def outD : Option Fl → Option PyData
  | some (.rt z _) => some z
  | some (.nx _) => some .none
  | _ => none
def runD (N : List Str) (n : Nat) (sv : SM) (ds : List PyData) : Option PyData := if ds.length = n then outD (sv (ini N ds)) else none
def ioAt (r : En) : Option (List PyData) := match r[0]? with
  | some (Cel.io bs) => some bs
  | _ => none
def outM : Option Fl → Option (PyData × List PyData)
  | some (.rt z r) => (ioAt r).map fun bs => (z, bs)
  | some (.nx r) => (ioAt r).map fun bs => (.none, bs)
  | _ => none
section
variable {P : Program} {w : World} {K : PySem.W.Frag} {mg : Str → Option Value} {base : Heap}
end
end DL
namespace DL
open PySem PySem.Spec PyProof.Rows L2 Lk
def shrM : PyData → PyData → Option PyData
  | .int a, .int b => if 0 ≤ b then some (.int (a / 2 ^ b.toNat)) else none
  | _, _ => none
section
variable {K : PySem.W.Frag} {E : XE} {X : Cx} {a b e : Expr} {es : List Expr} {ma mb : M PyData} {m : M (List PyData)} {pos : Pos}
theorem opd_shr : OpD K X (binaryOp .RShift) shrM := fun hK => by
  intro pins s σ H x y v u Q I rx ry h
  obtain ⟨G, d, e, z, sg, hd, he, hz, q⟩ := h
  unfold shrM at hz
  split at hz
  · split at hz
    · rename_i hl
      cases hz; cases hd; cases he
      exact op_shr pins s σ H _ _ v u Q I rx ry ⟨_, _, rfl, rfl, hl, q _ G H (Ps.refl sg) (.int _)⟩
    · cases hz
  · cases hz
/-- [*xs, a, ..] -/
def mStar (ma : M PyData) (m : M (List PyData)) : M (List PyData) := ma.bind fun d => (M.lift (asSeq d)).bind fun xs => m.bind fun ds => M.ret (xs ++ ds)
/-- list(range(n)) -/
def mLRng1 (ma : M PyData) : M (List PyData) := ma.bind fun d => M.lift ((asInt d).bind fun n => if n.natAbs ≤ 1000000 then some (rngL 0 n.toNat) else none)
/-- a, b = x, y -/
def sPar (i j : Nat) (m : M (List PyData)) : SM := sBind m fun ds r => match ds with
  | [d, e] => sSeq (sPut i d) (sPut j e) r
  | _ => none
/-- of that built-in type, one that bears methods here -/
def hasT (T : String) : PyData → Bool
  | .str _ => T == "str"
  | .int _ => T == "int"
  | .list _ => T == "list"
  | _ => false
def mMt (T : String) (g : PyData → List PyData → Option PyData) (ma : M PyData) (m : M (List PyData)) : M PyData := ma.bind fun d => if hasT T d then m.bind fun ds => M.lift (g d ds) else fun _ => none
def sExt (i : Nat) (m : M PyData) : SM := fun r0 => if (ownOf r0[i]?).isSome then sBind m (fun d r => match ownOf r[i]?, asTup d with
  | some ds, some es => if ds.length + es.length ≤ 1000000 then some (.nx (upO i (ds ++ es) r)) else none
  | _, _ => none) r0 else none
end
end DL
namespace DL
open PySem PySem.Spec PyProof.Rows L2 Lk
section
variable {K : PySem.W.Frag} {E : XE} {X : Cx} {pos : Pos} {F : Fm} {O : Ow} {G H : Hp} {σ : L2.St} {r : En}
/-- the new list at D, unseen, so far -/
structure Acc (K : PySem.W.Frag) (F : Fm) (O : Ow) (G1 H1 : Hp) (D : Addr) (σ : L2.St) (G H : Hp) (r : En) (xs : List V) (ds : List PyData) : Prop where
  rp : Rp K F O G σ H r
  go : Go O G1 H1 G H
  gD : G D = none
  hD : H D = some (.lst xs)
  hx : DqAll K G xs ds
theorem Acc.step {G1 H1 G2 H2 : Hp} {D : Addr} {xs : List V} {ds : List PyData} {r2 : En} {σ2 : L2.St} (A : Acc K F O G1 H1 D σ G H r xs ds) (hDo : ∀ i, O i ≠ some D) (g : Go O G H G2 H2) (P : Rp K F O G2 σ2 H2 r2) : Acc K F O G1 H1 D σ2 G2 H2 r2 xs ds := by
  have hD2 := g.keep _ _ A.hD hDo
  refine ⟨P, A.go.trans g, ?_, hD2, A.hx.sm g.gg⟩
  cases z : G2 D with
  | none => rfl
  | some o =>
    rcases g.gn D (some_ne z) with w | w
    · exact absurd A.gD w
    · rw [A.hD] at w
      cases w
section
variable {elt tg iter tg1 iter1 : Expr} {ifs ifs1 : List Expr} {scope : Scope} {own : List (Str × Nat)} {vs1 ts ts1 : List Nat} {mi mi1 : M (List PyData)} {g g1 : PyData → En → Option En} {mt mt1 : M Bool} {me : M PyData}
variable {i : Nat} {y : Str} {py spos : Pos}
end
end
end DL
namespace DL
open PySem PySem.Spec PyProof.Rows L2 Lk
section
variable {K : PySem.W.Frag} {E : XE} {X : Cx} {a b c e : Expr} {es : List Expr} {ma mb mc : M PyData} {m : M (List PyData)} {mt : M Bool} {pos : Pos}
theorem xe_op {op : Operator} {g : PyData → PyData → Option PyData} (ho : OpD K X (binaryOp op) g) (ha : DE K E X a ma) (hb : DE K E X b mb) : DE K E X (.BinOp a op b pos) (mOp2 g ma mb) := de_op ho ha hb
theorem xe_cmp {op : CmpOp} {g : PyData → PyData → Option PyData} (ho : OpD K X (compareOp op) g) (ha : DE K E X a ma) (hb : DE K E X b mb) (hm : behindInMarks op b = false) : DE K E X (.Compare a [op] [b] pos) (mOp2 g ma mb) := de_cmp ho ha hb hm
theorem xt_cmp {op : CmpOp} {g : PyData → PyData → Option PyData} (ho : OpD K X (compareOp op) g) (ha : DE K E X a ma) (hb : DE K E X b mb) (hm : behindInMarks op b = false) : DT K E X (.Compare a [op] [b] pos) (mOpT g ma mb) := dt_cmp ho ha hb hm
theorem xa_nil : DA K E X [] mNil := da_nil
theorem xa_cons (ha : DE K E X e ma) (hr : DA K E X es m) (hs : starEach (e :: es) X.env = (false, eval e X.env) :: starEach es X.env := by rfl) : DA K E X (e :: es) (mCons ma m) := da_cons ha hr hs
theorem xe_tup {x1} (h : DA K E X es m) : DE K E X (.Tuple es x1 pos) (mTup m) := de_tup h
theorem xf_lst (h : DA K E X es m) : DF K E X (.List es pos) (mLst m) := df_lst h
theorem xe_fr (h : DF K E X e m) : DE K E X e (mNew m) := de_fr h
theorem xt_tru (ha : DE K E X e ma) (he : ∀ whole, isTrue e X.env whole = (do let v ← whole; standAt e.pos; holding [v] (truthy v)) := by intro _; rfl) : DT K E X e (mTru ma) := dt_tru ha he
theorem xt_not (ha : DT K E X a mt) : DT K E X (.UnaryOp .Not a pos) (mNotT mt) := dt_not ha
theorem xe_not (ha : DE K E X a ma) : DE K E X (.UnaryOp .Not a pos) (mNotV ma) := de_not ha
theorem xe_isi {T : Str} {n : String} {p p2 : Pos} (hT : n ∈ ["int", "bool", "list", "tuple", "str"]) (hg : Gl X "isinstance") (hm : X.mg "isinstance" = none) (hgT : Gl X T) (hmT : X.mg T = none) (hvT : bootBuiltins T = some (.type n)) (ha : DE K E X e ma) (hn : T ≠ "__name__" := by decide) (hdb : (T == ("__debug__" : Str)) = false := by decide)
    (hs1 : starEach [e, .Name T p2] X.env = (false, eval e X.env) :: starEach [.Name T p2] X.env := by rfl) (hs2 : starEach [.Name T p2] X.env = (false, eval (.Name T p2) X.env) :: starEach [] X.env := by rfl) (hpl : (backTo pos (starEach [.Name T p2] X.env)).any (·.1) = false := by rfl) :
    DE K E X (.Call (.Name "isinstance" p) [e, .Name T p2] [] pos) (mIsi n ma) := de_isi hT hg hm hgT hmT hvT ha hn hdb hs1 hs2 hpl
theorem xi_seq {tg : Expr} (hl : DE K E X e ma) : DI K E X tg e (mSeq ma) := di_seq hl
theorem xi_range1 {tg : Expr} {p : Pos} (hg : Gl X "range") (hm : X.mg "range" = none) (ha : DA K E X [a] m) (hs : starEach [a] X.env = [(false, eval a X.env)] := by rfl) : DI K E X tg (.Call (.Name "range" p) [a] [] pos) (mRng1 m) := di_range1 hg hm ha hs
theorem xo_some (ha : DE K E X e ma) : DO K E X (some e) (mPart ma) := do_some ha
theorem xf_slice {lo hi : Option Expr} {ml mh : M (Option Int)} {p2 : Pos} (ha : DE K E X e ma) (hl : DO K E X lo ml) (hh : DO K E X hi mh) : DF K E X (.Subscript e (.Slice lo hi none p2) pos) (mSlice ma ml mh) := df_slice ha hl hh
theorem xe_ix (ha : DE K E X a ma) (hb : DE K E X b mb) (hs : PlainIx b) : DE K E X (.Subscript a b pos) (mOp2 ixM ma mb) := de_ix ixd ha hb hs
def mRep (ml : M (List PyData)) (mb : M PyData) : M (List PyData) := ml.bind fun xs => mb.bind fun d => M.lift (repM xs d)
theorem xc {x : Str} {p : Pos} {k : Nat} {ps : List Str} {g : List PyData → Option PyData} (G : Has X.prog X.w K X.mg X.base k x ps (spD K g)) (hr : Room k X.A) (hg : Gl X x)
    (ha : DA K E X (e :: es) m) (hdb : (x == ("__debug__" : Str)) = false := by decide) (he : starEach (e :: es) X.env = (false, eval e X.env) :: starEach es X.env := by rfl)
    (hpl : (backTo pos (starEach es X.env)).any (·.1) = false := by rfl) : DE K E X (.Call (.Name x p) (e :: es) [] pos) (mCall g m) := dc G hr hg ha hdb he hpl
theorem xcB {x : Str} {p : Pos} {id : String} {g : List PyData → Option PyData} (hc : CallD K X (.builtin id) g) (hg : Gl X x) (hm : X.mg x = none) (hv : bootBuiltins x = some (.builtin id)) (ha : DA K E X (e :: es) m) (hn : x ≠ "__name__" := by decide) (hdb : (x == ("__debug__" : Str)) = false := by decide)
    (he : starEach (e :: es) X.env = (false, eval e X.env) :: starEach es X.env := by rfl) (hpl : (backTo pos (starEach es X.env)).any (·.1) = false := by rfl) : DE K E X (.Call (.Name x p) (e :: es) [] pos) (mCall g m) := de_callB hc hg hm hv ha hn hdb he hpl
theorem xcT {x : Str} {p : Pos} {T : String} {g : List PyData → Option PyData} (hc : CallD K X (.type T) g) (hg : Gl X x) (hm : X.mg x = none) (hv : bootBuiltins x = some (.type T)) (ha : DA K E X (e :: es) m) (hn : x ≠ "__name__" := by decide) (hdb : (x == ("__debug__" : Str)) = false := by decide)
    (he : starEach (e :: es) X.env = (false, eval e X.env) :: starEach es X.env := by rfl) (hpl : (backTo pos (starEach es X.env)).any (·.1) = false := by rfl) : DE K E X (.Call (.Name x p) (e :: es) [] pos) (mCall g m) := de_callTy hc hg hm hv ha hn hdb he hpl
theorem xcBF {x : Str} {p : Pos} {id : String} {g : List PyData → Option (List PyData)} (hc : CallF K X (.builtin id) g) (hg : Gl X x) (hm : X.mg x = none) (hv : bootBuiltins x = some (.builtin id)) (ha : DA K E X (e :: es) m) (hn : x ≠ "__name__" := by decide) (hdb : (x == ("__debug__" : Str)) = false := by decide)
    (he : starEach (e :: es) X.env = (false, eval e X.env) :: starEach es X.env := by rfl) (hpl : (backTo pos (starEach es X.env)).any (·.1) = false := by rfl) : DF K E X (.Call (.Name x p) (e :: es) [] pos) (mCallF g m) := df_callB hc hg hm hv ha hn hdb he hpl
theorem xcTF {x : Str} {p : Pos} {T : String} {g : List PyData → Option (List PyData)} (hc : CallF K X (.type T) g) (hg : Gl X x) (hm : X.mg x = none) (hv : bootBuiltins x = some (.type T)) (ha : DA K E X (e :: es) m) (hn : x ≠ "__name__" := by decide) (hdb : (x == ("__debug__" : Str)) = false := by decide)
    (he : starEach (e :: es) X.env = (false, eval e X.env) :: starEach es X.env := by rfl) (hpl : (backTo pos (starEach es X.env)).any (·.1) = false := by rfl) : DF K E X (.Call (.Name x p) (e :: es) [] pos) (mCallF g m) := df_callTy hc hg hm hv ha hn hdb he hpl
theorem xs_no {st : Stmt} : DS K E X st sNo := ds_never
end
/-- the same order of the places, of values and of data -/
structure Perm3 (gB : List V → List V → List V) (gD : List PyData → List PyData) : Prop where
  all : ∀ {K : PySem.W.Frag} {G : Hp} {zs : List V} {ds : List PyData}, DqAll K G zs ds → DqAll K G (gB [] zs) (gD ds)
structure DK (K : PySem.W.Frag) (E : XE) (X : Cx) (kws : List Keyword) (m : M (List PyData)) : Prop where
  pk : X.K = K → PK X kws (tM K E (rA K) m)
section
variable {K : PySem.W.Frag} {E : XE} {X : Cx} {e : Expr} {kws : List Keyword} {ma : M PyData} {m : M (List PyData)} {pos : Pos}
theorem PK.imp {t t' : TA} (h : PK X kws t) (i : ∀ σ H Q, t' σ H Q → t σ H Q) : PK X kws t' := ⟨fun pos pins s σ H Q I q => h.run pos pins s σ H Q I (i _ _ _ q)⟩
def mCallK (gD : List PyData → List PyData) (g : List PyData → Option PyData) (m : M (List PyData)) : M PyData := m.bind fun ds => M.lift (g (gD ds))
end
def spLaw (K : PySem.W.Frag) (g : List PyData → Option PyData) : Sp := fun vs H Q _ => ∃ (a : Addr) (ns : List Int), vs = [.ref a] ∧ SqL K H a (ns.map V.int) ∧ g [.list (ns.map PyData.int)] = some (.bool true) ∧ ∀ H', Q (.bl true) H'
theorem law_fn {P : Program} {w : World} {K : PySem.W.Frag} {mg : Str → Option Value} {base : Heap} {k : Nat} {f : Addr} {fd : FuncData} {ps : List Str} {g : List PyData → Option PyData} (F : FnOk P w K mg base CX0 k f fd ps (spD K g)) : FnOk P w K mg base CX0 k f fd ps (spLaw K g) :=
  F.imp fun vs H Q E ⟨a, ns, e, hs, hg, q⟩ => ⟨H, _, _, Same.refl H, by rw [e]; exact .cons (.lst hs (DqAll.ints ns)) .nil, hg, fun v G' H' _ hv => by
    rw [dp_bool hv]
    exact q H'⟩
end DL
namespace DL
open PySem PySem.Spec PyProof.Rows L2 Lk
section
variable {P : Program} {w : World} {K : PySem.W.Frag} {mg : Str → Option Value} {base : Heap}
theorem fn_d {x qual : Str} {st : Stmt} {f : Addr} {fd : FuncData} {N ps : List Str} {k n : Nat} {sv : SM} (F : Fun K x qual st f fd) (S : FnScope N ps (defScope st))
    (h : ∀ (cdv : Value) (A : Around) (outer : List Env) (s : Shared) (H : Hp) (E : XK), Room k (A.deeper (envOfC qual (defScope st) s.heap.objs.size f cdv)) → DSs K XN (cxOf CX0 P w K mg base N qual (defScope st) f cdv A outer s H E).nox (defBody st) sv)
    (hn : ps.length = n := by rfl) : FnOk P w K mg base CX0 (k + 1) f fd ps (spD K (runD N n sv)) := by
  refine def_D F S h fun ds z e => ?_
  unfold runD at e
  split at e
  · rename_i hl
    refine ⟨hl.trans hn.symm, ?_⟩
    cases q : sv (ini N ds) with
    | none => rw [q] at e; cases e
    | some fl =>
      rw [q] at e
      cases fl with
      | rt d r => cases e; exact ⟨r, .inl rfl⟩
      | nx r => cases e; exact ⟨r, .inr ⟨rfl, rfl⟩⟩
      | _ => cases e
  · cases e
end
end DL
namespace Lk
open PySem PySem.Spec PyProof.Rows L2
theorem walk_ofGB {l : PySem.W.OpenLaw} {n k : Nat} {q : Program} {loose : List Str} {XP : (Str → Option Value) → Heap → Prop} {YP : World → Heap → Prop} {d : DefRec}
    {K : Params → PySem.W.Frag} {sp : World → Sp} {x : Str} (hn : l.most = some n) (hn2 : n ≤ sizeLine) (hdf : d.params.defaults = []) (hr : Room k callerA)
    (hY : ∀ (w : World) (h : Heap), YP w h → (K w.params).In h)
    (F : ∀ (w : World) (mg : Str → Option Value) (fa : Addr) (h : Heap), (K w.params).In h → h.Ns mainGlobals mg → mg d.name = some (.ref fa) →
      ∃ fd : FuncData, (∀ (s : Shared) (u : Value), BindsTo s fd ⟨[u], []⟩ [(x, u)]) ∧
        ∀ base : Heap, (K w.params).In base → base.Ns mainGlobals mg → FnG l.prog w (K w.params) mg base CX0 k fa fd [x] (sp w))
    (hsp : ∀ (w : World) (H : Hp) (a : Addr) (ns : List Int), ns.length ≤ n → (∀ z ∈ ns, Builtin.Int.intBits z ≤ 1048576) → Only H → SqL (K w.params) H a (ns.map V.int) → sp w [.ref a] H (fun v _ => v = .bl true) fun _ _ _ => False) :
    PySem.W.WalkO q loose XP YP l.row.toRowW d [] (fun f vs => PySem.call f vs) := by
  refine Att.attach_callB hn hdf ?_
  intro w s₀ s₁ mg mb fa o pm cd doc a vs ns G Y _ _ _ hmg hobj hints hlen hbits hg
  have KX := hY w _ Y
  obtain ⟨fd, hb, hF⟩ := F w mg fa _ KX G.T.g hmg
  exact law_callG KX G.T.g G.T.b G.T.builtins G.T.nolimit hg hobj hints (Nat.le_trans hlen hn2) hr hF hb fun H hO hS => hsp w H a ns hlen hbits hO hS
end Lk
namespace DL
open PySem PySem.Spec PyProof.Rows L2 Lk
section
variable {K : PySem.W.Frag} {E : XE} {X : Cx} {tg a : Expr} {ma : M PyData} {pos : Pos}
end
end DL
namespace DL
open PySem PySem.Spec PyProof.Rows L2 Lk
section
variable {K : PySem.W.Frag} {E : XE} {X : Cx} {a b e : Expr} {ma mb : M PyData} {pos : Pos}
end
end DL
namespace DL
open PySem PySem.Spec PyProof.Rows L2 Lk
section
variable {K : PySem.W.Frag} {E : XE} {X : Cx} {tg a b c e : Expr} {ma mb : M PyData} {m : M (List PyData)} {pos : Pos}
def mRevL (m : M PyData) : M (List PyData) := m.bind fun d => M.lift ((asList d).map List.reverse)
theorem df_revL {k : Nat} {p1 p2 p3 : Pos} (ha : DE K E X e ma) : DF K E X (.Subscript e (.Slice none none (some (.UnaryOp .USub (.Constant (.int 1) k p1) p2)) p3) pos) (mRevL ma) := ⟨fun hK => by
  subst hK
  refine PE.imp (pe_revL (ha.pe rfl)) fun σ H Q ⟨F, O, G, r, out, P, em, f⟩ => ?_
  refine tM.run P f em fun d r1 x G1 H1 P1 g1 q1 e1 f1 => ?_
  obtain ⟨z, hz, rfl⟩ := lift_ok e1
  obtain ⟨ds, hd, rfl⟩ := Option.map_eq_some_iff.mp hz
  cases asList_some hd
  cases q1 with
  | lst hs hq =>
    exact ⟨_, _, rfl, P1.sub.seq hs, fun q nq => f1.ok (Ps.of_same P1.sub (same_new nq)) P1 ⟨q, _, rfl, nq, P1.sub.free nq, P1.nf _ nq, fun i z => (P1.on i q z).2.2.1 nq, upd_same, hq.reverse⟩⟩⟩
def andM : PyData → PyData → Option PyData
  | .int a, .int b => some (.int (Builtin.bitAnd a b))
  | _, _ => none
def orM : PyData → PyData → Option PyData
  | .int a, .int b => some (.int (Builtin.bitOr a b))
  | _, _ => none
theorem opd_and : OpD K X (binaryOp .BitAnd) andM := fun hK => by
  intro pins s σ H x y v u Q I rx ry h
  obtain ⟨G, d, e, z, sg, hd, he, hz, q⟩ := h
  unfold andM at hz
  split at hz
  · cases hz; cases hd; cases he
    exact op_and pins s σ H _ _ v u Q I rx ry ⟨_, _, rfl, rfl, q _ G H (Ps.refl sg) (.int _)⟩
  · cases hz
theorem opd_or : OpD K X (binaryOp .BitOr) orM := fun hK => by
  intro pins s σ H x y v u Q I rx ry h
  obtain ⟨G, d, e, z, sg, hd, he, hz, q⟩ := h
  unfold orM at hz
  split at hz
  · cases hz; cases hd; cases he
    exact op_or pins s σ H _ _ v u Q I rx ry ⟨_, _, rfl, rfl, q _ G H (Ps.refl sg) (.int _)⟩
  · cases hz
def shlM : PyData → PyData → Option PyData
  | .int a, .int b => if 0 ≤ b ∧ (Builtin.Int.intBits a : Int) + b ≤ 2 ^ 27 then some (.int (a * 2 ^ b.toNat)) else none
  | _, _ => none
theorem opd_shl : OpD K X (binaryOp .LShift) shlM := fun hK => by
  intro pins s σ H x y v u Q I rx ry h
  obtain ⟨G, d, e, z, sg, hd, he, hz, q⟩ := h
  unfold shlM at hz
  split at hz
  · split at hz
    · rename_i hl
      cases hz; cases hd; cases he
      exact op_shlW pins s σ H _ _ v u Q I rx ry ⟨_, _, rfl, rfl, hl, q _ G H (Ps.refl sg) (.int _)⟩
    · cases hz
  · cases hz
/-- n.bit_length() -/
def mBits (m : M PyData) : M PyData := m.bind fun d => M.lift ((asInt d).map fun i => .int (Builtin.Int.intBits i : Nat))
end
end DL
namespace DL
open PySem PySem.Spec PyProof.Rows L2 Lk
abbrev PQ := PyData ⊕ List PyData
def rQ (K : PySem.W.Frag) : RR V PQ := fun S O F G H v z => match z with
  | .inl d => rD K S O F G H v d
  | .inr ds => rF K S O F G H v ds
instance {K : PySem.W.Frag} : Anti (rQ K) := ⟨fun {S S' O F G H b a} k h => by
  cases a with
  | inl d => exact h
  | inr ds => exact Anti.anti (R := rF K) (O := O) (F := F) (H := H) k h⟩
structure DQ (K : PySem.W.Frag) (E : XE) (X : Cx) (e : Expr) (m : M PQ) : Prop where
  pe : X.K = K → PE X e (tM K E (rQ K) m)
section
variable {K : PySem.W.Frag} {E : XE} {X : Cx} {a b e : Expr} {es : List Expr} {m : M (List PyData)} {mq : M PQ} {pos : Pos}
def mCallQ (g : List PyData → Option PQ) (m : M (List PyData)) : M PQ := m.bind fun ds => M.lift (g ds)
/-- x = f(..) -/
def sSetQ (i : Nat) (m : M PQ) : SM := sBind m fun z => match z with
  | .inl d => sPut i d
  | .inr ds => sPutO i ds
/-- return f(..) -/
def sRetQ (m : M PQ) : SM := sBind m fun z r => match z with
  | .inl d => some (.rt d r)
  | .inr ds => some (.rf ds r)
/-- return the list that a slot owns -/
def sRetO (i : Nat) : SM := fun r => match r[i]? with
  | some (.ow ds) => some (.rf ds r)
  | _ => none
end
def outQ : Option Fl → Option PQ
  | some (.rt z _) => some (.inl z)
  | some (.nx _) => some (.inl .none)
  | some (.rf ds _) => some (.inr ds)
  | _ => none
section
variable {P : Program} {w : World} {K : PySem.W.Frag} {mg : Str → Option Value} {base : Heap}
end
end DL
namespace DL
open PySem PySem.Spec PyProof.Rows L2 Lk
section
variable {K : PySem.W.Frag} {E : XE} {F : Fm} {O : Ow} {G H : Hp} {σ : L2.St} {r : En}
theorem Rp.frz2 (R : Rp K F O G σ H r) {i : Nat} {ds : List PyData} (e : r[i]? = some (Cel.ow ds)) : ∃ p xs, O i = some p ∧ H p = some (.lst xs) ∧ G p = none ∧ Rp K F (fun j => if j = i then none else O j) (upd G p (.lst xs)) σ H (r.set i (.pl (.list ds))) := by
  obtain ⟨p, xs, h1, h2, h0, h3, h4⟩ := R.ow i ds e
  have hio : ∀ ds', r[i]? ≠ some (Cel.io ds') := fun ds' z => by rw [e] at z; cases z
  have gp : G p = none := (R.on i p h1).2.1
  have P := dropO R hio
  have no : ∀ j, (fun j => if j = i then none else O j) j ≠ some p := fun j z => by
    dsimp only at z
    split at z
    · cases z
    · rename_i n
      exact n (R.inj j i p z h1)
  have Q := P.see h3 gp h0 no
  have S := Q.tell (i := i) (c := .pl (.list ds)) (by show (if i = i then none else O i) = none; rw [if_pos rfl]) (.inr ⟨_, .ref p, rfl, h2, .lst (.inl (.inl upd_same)) (h4.sm (same_new gp))⟩)
  rw [List.set_set] at S
  exact ⟨p, xs, h1, h3, gp, S⟩
def fzTo : Nat → En → En
  | 0, r => r
  | n + 1, r => match (fzTo n r)[n]? with
    | some (.ow ds) => (fzTo n r).set n (.pl (.list ds))
    | _ => fzTo n r
def fz (r : En) : En := fzTo r.length r
theorem fzTo_ge {r : En} : ∀ {n j : Nat}, n ≤ j → (fzTo n r)[j]? = r[j]?
  | 0, _, _ => rfl
  | n + 1, j, h => by
    have ih := fzTo_ge (r := r) (n := n) (j := j) (by omega)
    rw [fzTo]
    split
    · rw [List.getElem?_set_ne (by omega)]
      exact ih
    · exact ih
theorem frz_to (R : Rp K F O G σ H r) : ∀ n, ∃ O' G', Same G G' ∧ (∀ j c, O' j = some c → O j = some c) ∧ (∀ j ds p, j < n → r[j]? = some (.ow ds) → O j = some p → G' p = H p) ∧ (∀ j, n ≤ j → O' j = O j) ∧ Rp K F O' G' σ H (fzTo n r)
  | 0 => ⟨O, G, Same.refl _, fun _ _ e => e, fun j ds p h => absurd h (Nat.not_lt_zero _), fun _ _ => rfl, R⟩
  | n + 1 => by
    obtain ⟨O', G', h1, h2, h3, h4, h5⟩ := frz_to R n
    rw [fzTo]
    split
    · rename_i ds e
      obtain ⟨p, xs, o1, o2, gp, S⟩ := h5.frz2 e
      refine ⟨_, _, h1.trans (same_new gp), fun j c e => ?_, fun j ds' q hj er eo => ?_, fun j hj => ?_, S⟩
      · have e' : (if j = n then none else O' j) = some c := e
        split at e'
        · cases e'
        · exact h2 j c e'
      · by_cases z : j = n
        · subst z
          rw [← h4 j (Nat.le_refl _), o1] at eo
          cases eo
          rw [upd_same, o2]
        · have := h3 j ds' q (by omega) er eo
          by_cases y : q = p
          · subst y
            rw [upd_same, o2]
          · rw [upd_ne y]
            exact this
      · show (if j = n then none else O' j) = O j
        rw [if_neg (by omega)]
        exact h4 j (by omega)
    · rename_i hno
      refine ⟨O', G', h1, h2, fun j ds' q hj er eo => ?_, fun j hj => h4 j (by omega), h5⟩
      by_cases z : j = n
      · subst z
        rw [← fzTo_ge (Nat.le_refl j)] at er
        exact absurd er (hno ds')
      · exact h3 j ds' q (by omega) er eo
end
section
variable {α β : Type}
end
def noIo : Cel → Bool
  | .io _ => false
  | .dk _ => false
  | _ => true
def mPeek (m : M Bool) : M Bool := fun r => if r.all noIo then (match m (fz r) with
  | some (.ok b _) => some (.ok b r)
  | some (.ex c p) => some (.ex c p)
  | none => none) else none
section
variable {K : PySem.W.Frag} {E : XE} {F : Fm} {O : Ow} {G H : Hp} {σ : L2.St} {r : En}
theorem frz_run (P : Rp K F O G σ H r) (hio : r.all noIo = true) : ∃ O' G', Same G G' ∧ Rp K F O' G' σ H (fz r) ∧ ∀ (G2 H2 : Hp) (r1 : En), Rp K F O' G2 σ H2 r1 → Go O' G' H G2 H2 → Rp K F O G σ H2 r ∧ Go O G H G H2 ∧ Same G G2 := by
  obtain ⟨O', G', h1, h2, h3, h4, R⟩ := frz_to P r.length
  refine ⟨O', G', h1, R, fun G2 H2 r1 R2 g2 => ?_⟩
  have keep : ∀ (j : Nat) (ds : List PyData), r[j]? = some (.ow ds) → ∀ p, O j = some p → ∀ o, H p = some o → H2 p = some o := fun j ds e p ho o hh => by
    have lj : j < r.length := (List.getElem?_eq_some_iff.mp e).1
    have := h3 j ds p lj e ho
    rw [hh] at this
    exact R2.sub _ _ (g2.gg _ _ this)
  have noio : ∀ (j : Nat) (ds : List PyData), r[j]? ≠ some (.io ds) := fun j ds e => by
    have := List.all_eq_true.mp hio _ (List.mem_of_getElem? e)
    cases this
  refine ⟨⟨fun c o e => R2.sub _ _ (g2.gg _ _ (h1 _ _ e)), P.len, P.pl, fun i ds e => ?_, fun i ds e => absurd e (noio i ds), P.dk, fun i p e => ?_, P.inj, R2.old, R2.nf, P.g0, P.gn⟩, ⟨Same.refl _, fun c o e n => g2.keep c o e fun i z => n i (h2 i c z), fun c e => .inl e, g2.nf⟩, h1.trans g2.gg⟩
  · obtain ⟨p, xs, o1, o2, o3, o4, o5⟩ := P.ow i ds e
    exact ⟨p, xs, o1, o2, o3, keep i ds e p o1 _ o4, o5⟩
  · obtain ⟨⟨c, c1, c2⟩, n1, n2, n3⟩ := P.on i p e
    refine ⟨⟨c, c1, c2⟩, n1, ?_, n3⟩
    cases c with
    | ow ds =>
      obtain ⟨p', xs, o1, o2, o3, o4, o5⟩ := P.ow i ds c1
      rw [e] at o1
      cases o1
      rw [keep i ds c1 p e _ o4]
      simp
    | io ds => exact absurd c1 (noio i ds)
    | dk ks =>
      have := List.all_eq_true.mp hio _ (List.mem_of_getElem? c1)
      cases this
    | un => cases c2
    | pl d => cases c2
theorem dt_peek {X : Cx} {e : Expr} {m : M Bool} (h : DT K E X e m) : DT K E X e (mPeek m) := ⟨fun hK => PT.imp (h.pt hK) fun σ H Q ⟨F, O, G, r, out, P, em, f⟩ => by
  unfold mPeek at em
  split at em
  · rename_i hio
    obtain ⟨O', G', _, R, k⟩ := frz_run P hio
    cases e0 : m (fz r) with
    | none => rw [e0] at em; cases em
    | some o =>
      rw [e0] at em
      refine ⟨F, O', G', fz r, o, R, e0, ?_⟩
      cases o with
      | ex c p => cases em; exact f
      | ok b r1 =>
        cases em
        intro b' G2 H2 R2 g2 q
        obtain ⟨k1, k2, _⟩ := k G2 H2 r1 R2 g2
        exact f b' G H2 k1 k2 q
  · cases em⟩
/-- no list, no tuple -/
def atomD : PyData → Bool
  | .int _ => true
  | .bool _ => true
  | .none => true
  | .str _ => true
  | _ => false
def mPeekV (m : M PyData) : M PyData := fun r => if r.all noIo then (match m (fz r) with
  | some (.ok d _) => if atomD d then some (.ok d r) else none
  | some (.ex c p) => some (.ex c p)
  | none => none) else none
/-- a new list of plain values -/
def mPeekF (m : M (List PyData)) : M (List PyData) := fun r => if r.all noIo then (match m (fz r) with
  | some (.ok ds _) => if ds.all atomD then some (.ok ds r) else none
  | some (.ex c p) => some (.ex c p)
  | none => none) else none
end
end DL
namespace DL
open PySem PySem.Spec PyProof.Rows L2 Lk
section
variable {P : Program} {w : World} {K : PySem.W.Frag} {mg : Str → Option Value} {base : Heap}
end
end DL
namespace DL
open PySem PySem.Spec PyProof.Rows L2 Lk
/-- what a call gives: a value, or the class of the error that it raises -/
abbrev PX := PyData ⊕ Str
/-- a class of errors -/
structure ErrC (K : PySem.W.Frag) (C : Addr) : Prop where
  ex : PySem.W.excIn K C [.type "ValueError", .type "Exception", .type "BaseException", .type "object"] "ValueError.__new__" = true
  kp : PySem.W.keepIn K (.ref C) = true
  ty : PySem.W.typeIn K (.ref C) = some (.type "type")
  sb : PySem.W.subIn K (.ref C) (.type "BaseException") = some true
def Kls (K : PySem.W.Frag) (mg : Str → Option Value) (c : Str) : Prop := ∃ C, mg c = some (.ref C) ∧ ErrC K C
def catches (h c : Str) : Bool := h == c || h == "ReasonError"
/-- whether a clause of h takes an error of c -/
def Exo (K : PySem.W.Frag) (mg : Str → Option Value) (c h : Str) : Prop := ∀ C CH, mg c = some (.ref C) → mg h = some (.ref CH) → PySem.W.exmOne K (.ref C) (.ref CH) = some (catches h c)
def HasX (P : Program) (w : World) (K : PySem.W.Frag) (mg : Str → Option Value) (base : Heap) (k : Nat) (x : Str) (ps : List Str) (sp : Sp) : Prop :=
  ∃ (f : Addr) (fd : FuncData), FnOk P w K mg base (L2.CX P w) k f fd ps sp ∧ Binds K fd ps [] ∧ mg x = some (.ref f) ∧ PySem.W.keepIn K (.ref f) = true
theorem HasX.mono {P : Program} {w : World} {K : PySem.W.Frag} {mg : Str → Option Value} {base : Heap} {k j : Nat} {x : Str} {ps : List Str} {sp : Sp} (h : HasX P w K mg base k x ps sp) (l : k ≤ j) : HasX P w K mg base j x ps sp := by
  obtain ⟨f, fd, F, r⟩ := h
  exact ⟨f, fd, F.mono l, r⟩
def mCallX (g : List PyData → Option PX) (m : M (List PyData)) : M PyData := m.bind fun ds r => match g ds with
  | some (.inl z) => some (.ok z r)
  | some (.inr c) => some (.ex c [])
  | none => none
section
variable {K : PySem.W.Frag} {E : XE} {X : Cx} {e : Expr} {es : List Expr} {m : M (List PyData)} {pos : Pos}
end
def sRaise (c : Str) : SM := fun _ => some (.ex c [])
def outX : Option Fl → Option PX
  | some (.rt z _) => some (.inl z)
  | some (.nx _) => some (.inl .none)
  | some (.ex c []) => some (.inr c)
  | _ => none
section
variable {P : Program} {w : World} {K : PySem.W.Frag} {mg : Str → Option Value} {base : Heap}
end
def pick (c : Str) : List (Str × SM) → Option SM
  | [] => none
  | (h, sv) :: t => if catches h c then some sv else pick c t
def sTry (L : List Str) (g : List PyData → Option PX) (m : M (List PyData)) (hs : List (Str × SM)) (ok : PyData → SM) : SM := fun r => match m r with
  | some (.ok ds r') => match g ds with
    | some (.inl z) => ok z r'
    | some (.inr c) => if L.contains c then (match pick c hs with
      | some sv => sv r'
      | none => none) else none
    | none => none
  | _ => none
def okNx (_ : PyData) : SM := fun r => some (.nx r)
/-- the clauses, and for each its suite -/
inductive Hds (K : PySem.W.Frag) (E : XE) (X : Cx) (L : List Str) : List ExceptHandler → List (Str × SM) → Prop
  | nil : Hds K E X L [] []
  | cons {x : Str} {b₀ : Stmt} {suite : List Stmt} {np pos' : Pos} {hds : List ExceptHandler} {sv : SM} {l : List (Str × SM)} (kl : Kls K X.mg x) (hg : Gl X x) (hdb : (x == ("__debug__" : Str)) = false)
      (ex : ∀ c ∈ L, Exo K X.mg c x) (hsu : ∀ (a : Addr) (pn : List (Addr × Obj)), DSs K E (X.suite a pn) (b₀ :: suite) sv) (r : Hds K E X L hds l) :
      Hds K E X L (.ExceptHandler (some (.Name x np)) none (b₀ :: suite) pos' :: hds) ((x, sv) :: l)
section
variable {K : PySem.W.Frag} {E : XE} {X : Cx} {e : Expr} {es : List Expr} {m : M (List PyData)} {pos : Pos}
end
section
variable {K : PySem.W.Frag} {E : XE} {X : Cx} {a b c e : Expr} {ma mb mc : M PyData} {pos : Pos}
end
end DL
namespace DL
open PySem PySem.Spec PyProof.Rows L2 Lk
section
variable {K : PySem.W.Frag} {E : XE} {X : Cx} {a b e : Expr} {es : List Expr} {ma mb : M PyData} {pos : Pos}
variable {kn : L2.St → Hp → Prop}
end
section
variable {P : Program} {w : World} {K : PySem.W.Frag} {mg : Str → Option Value} {base : Heap}
end
section
variable {K : PySem.W.Frag} {E : XE} {X : Cx} {a b e : Expr} {pos : Pos} {ma mb : M PyData}
end
section
variable {K : PySem.W.Frag} {E : XE} {X : Cx} {a b c e : Expr} {pos : Pos} {m : M PyData} {mc : M Bool} {ml : M (List PyData)} {ma mb : M PQ}
end
end DL
namespace DL
open PySem PySem.Spec PyProof.Rows L2 Lk
theorem Vals.at2 : ∀ {xs : List V} {us : List Value} (j : Nat), Vals xs us → (xs[j]? = none ∧ us[j]? = none) ∨ ∃ x u, xs[j]? = some x ∧ us[j]? = some u ∧ RelV x u
  | _, _, j, .nil => .inl ⟨rfl, rfl⟩
  | _, _, 0, .cons r _ => .inr ⟨_, _, rfl, rfl, r⟩
  | _, _, j + 1, .cons _ t => Vals.at2 j t
theorem Vals.pick {xs : List V} {us : List Value} (r : Vals xs us) : ∀ (ix : List Nat), Vals (ix.filterMap fun j => xs[j]?) (ix.filterMap fun j => us[j]?)
  | [] => .nil
  | j :: ix => by
    rcases Vals.at2 j r with ⟨h1, h2⟩ | ⟨x, u, h1, h2, h3⟩
    · rw [List.filterMap_cons, List.filterMap_cons, h1, h2]
      exact Vals.pick r ix
    · rw [List.filterMap_cons, List.filterMap_cons, h1, h2]
      exact .cons h3 (Vals.pick r ix)
section
variable {K : PySem.W.Frag} {E : XE} {X : Cx} {e : Expr} {te : TE} {lo hi : Option Expr} {es : Expr} {tl th ts : TO} {p2 pos : Pos}
theorem DqAll.at2 {G : Hp} : ∀ {xs : List V} {ds : List PyData} (j : Nat), DqAll K G xs ds → (xs[j]? = none ∧ ds[j]? = none) ∨ ∃ x d, xs[j]? = some x ∧ ds[j]? = some d ∧ Dq K G x d
  | _, _, j, .nil => .inl ⟨rfl, rfl⟩
  | _, _, 0, .cons r _ => .inr ⟨_, _, rfl, rfl, r⟩
  | _, _, j + 1, .cons _ t => DqAll.at2 j t
theorem DqAll.pick {G : Hp} {xs : List V} {ds : List PyData} (r : DqAll K G xs ds) : ∀ (ix : List Nat), DqAll K G (ix.filterMap fun j => xs[j]?) (ix.filterMap fun j => ds[j]?)
  | [] => .nil
  | j :: ix => by
    rcases DqAll.at2 j r with ⟨h1, h2⟩ | ⟨x, u, h1, h2, h3⟩
    · rw [List.filterMap_cons, List.filterMap_cons, h1, h2]
      exact DqAll.pick r ix
    · rw [List.filterMap_cons, List.filterMap_cons, h1, h2]
      exact .cons h3 (DqAll.pick r ix)
end
end DL
namespace DL
open PySem PySem.Spec PyProof.Rows L2 Lk
def asInts : List PyData → Option (List Int)
  | [] => some []
  | .int i :: r => (asInts r).map (i :: ·)
  | _ => none
theorem depth_ints : ∀ ns : List Int, PyData.depthAll (ns.map PyData.int) = 0
  | [] => by simp [PyData.depthAll]
  | n :: ns => by
    rw [List.map_cons, PyData.depthAll, PyData.depth, depth_ints ns]
    rfl
section
variable {K : PySem.W.Frag} {E : XE} {X : Cx} {e : Expr} {ma : M PyData} {pos : Pos}
end
end DL
namespace DL
open PySem PySem.Spec PyProof.Rows L2 Lk
section
variable {K : PySem.W.Frag} {X : Cx}
end
end DL
namespace DL
open PySem PySem.Spec PyProof.Rows L2 Lk
def insU (k : Int) : List Int → List Int
  | [] => [k]
  | x :: xs => if k < x then k :: x :: xs else if k = x then x :: xs else x :: insU k xs
def sortU (l : List Int) : List Int := l.foldl (fun a k => insU k a) []
section
variable {prog : Program} {w : World} {A : Around} {E : Value → Shared → Prop} {s : Shared}
theorem code_set_one (a : Value) {Q : Value → Shared → Prop}
    (h : Q (.ref s.heap.objs.size) { s with heap := s.heap.push { cls := .type "set", dict := none, data := .set #[] 0 (.fresh 0 0 (!w.params.followText "set-order")) } }) :
    codeAny (model prog w) A (.call (.builtin "set.__new__") ⟨[.type "set", a], []⟩) (wants Q E) s := by
  refine codeAny_of_tree ?_
  show wpAny _ A.in1 (do checkBuiltinCall "set.__new__" ⟨[.type "set", a], []⟩; again (.builtin "set.__new__" ⟨[.type "set", a], []⟩)) _ _ s
  refine wpAny_bind (wpAny_of_eq (F.newCall_set_1 a) (wpAny_pure ⟨plainId_quiet F.plain_set_new _, codeAny_builtin F.entry_set_new ?_⟩))
  rw [Around.under_plainId F.plain_set_new _]
  unfold Builtin.«set.__new__» Builtin.Frozenset.newClass
  have sb := sub_set_self
  obtain ⟨hp, g, d, tk, os⟩ := s
  dsimp only
  wp_walk
  refine wpAny_askSetting (wpAny_pure ?_)
  dsimp only
  simp only [newObj]
  refine wpAny_bind (wpAny_alloc (wpAny_pure ?_))
  exact wpAny_pure h
end
section
variable {K : PySem.W.Frag} {E : XE} {X : Cx} {a : Expr} {ma : M PyData} {ta : TE} {p p2 q pos : Pos}
end
end DL
namespace DL
open PySem PySem.Spec PyProof.Rows L2 Lk
section
variable {K : PySem.W.Frag} {E : XE} {X : Cx} {pos : Pos}
end
end DL
namespace DL
open PySem PySem.Spec PyProof.Rows L2 Lk
section
variable {K : PySem.W.Frag} {E : XE} {X : Cx} {ma : M PyData} {pos : Pos}
def sExtL (i : Nat) (m : M PyData) : SM := fun r0 => if (ownOf r0[i]?).isSome then sBind m (fun d r => match ownOf r[i]?, asList d with
  | some ds, some es => if ds.length + es.length ≤ 1000000 then some (.nx (upO i (ds ++ es) r)) else none
  | _, _ => none) r0 else none
@[simp] theorem s_extL {i : Nat} {r : En} : sExtL i ma r = if (ownOf r[i]?).isSome then sBind ma (fun d r => match ownOf r[i]?, asList d with
  | some ds, some es => if ds.length + es.length ≤ 1000000 then some (.nx (upO i (ds ++ es) r)) else none
  | _, _ => none) r else none := rfl
end
end DL
namespace DL
open PySem PySem.Spec PyProof.Rows L2 Lk
def lenOf : PyData → Nat
  | .list ds => ds.length
  | .tuple ds => ds.length
  | _ => 0
def isLst : PyData → Bool
  | .list _ => true
  | .tuple _ => true
  | _ => false
def leLen (a b : PyData) : Bool := decide ((lenOf a : Int) ≤ (lenOf b : Int))
def sortLenM : PyData → Option (List PyData)
  | .list ds => if ds.all isLst then some (ds.mergeSort leLen) else none
  | _ => none
def mSortLen (m : M PyData) : M (List PyData) := m.bind fun d => M.lift (sortLenM d)
@[simp] theorem e_sortLen {m : M PyData} {r : En} : mSortLen m r = M.bind m (fun d => M.lift (sortLenM d)) r := rfl
def tSortLen (K : PySem.W.Frag) (ta : TE) : TE := fun σ H Q => ta σ H fun x H1 => ∃ (l : Addr) (bs : List (V × PyData)), [x] = [V.ref l] ∧ SqL K H1 l (bs.map (·.1)) ∧ (∀ b ∈ bs, ∃ p zs, b.1 = .ref p ∧ (SqL K H1 p zs ∨ SqT K H1 p zs) ∧ zs.length = lenOf b.2) ∧
  ∀ p, H1 p = none → Q (.ref p) (upd H1 p (.lst ((bs.mergeSort fun a b => leLen a.2 b.2).map (·.1))))
section
variable {K : PySem.W.Frag} {E : XE} {X : Cx} {a : Expr} {ma : M PyData} {ta : TE} {p p1 p2 pos : Pos}
theorem vals_each : ∀ {bs : List (V × PyData)} {us : List Value}, Vals (bs.map (·.1)) us → PySem.W.EachIs (fun (v : Value) (b : V × PyData) => RelV b.1 v) us bs
  | [], _, .nil => .nil
  | _ :: _, _, .cons r t => .cons r (vals_each t)
theorem each_vals : ∀ {bs : List (V × PyData)} {us : List Value}, PySem.W.EachIs (fun (v : Value) (b : V × PyData) => RelV b.1 v) us bs → Vals (bs.map (·.1)) us
  | [], _, .nil => .nil
  | _ :: _, _, .cons r t => .cons r (each_vals t)
theorem pe_sortLen {k : Nat} (hr : Room k X.A) (hc : X.calm = true) (hg : Gl X "sorted") (hm : X.mg "sorted" = none) (hg2 : Gl X "len") (hm2 : X.mg "len" = none) (ha : PE X a ta)
    (na : starEach [a] X.env = (false, eval a X.env) :: starEach [] X.env := by rfl)
    (he : backTo pos (starEach [a] X.env) = (false, eval a X.env) :: backTo pos (starEach [] X.env) := by rfl) (hpl : (backTo pos (starEach [a] X.env)).any (·.1) = false := by rfl)
    (hall : (backToKw pos (keywordEach [⟨some "key", .Name "len" p1, p2⟩] X.env)).all (·.1.isSome) = true := by rfl) (hnone : (backToKw pos (keywordEach [⟨some "key", .Name "len" p1, p2⟩] X.env)).any (·.1.isNone) = false := by rfl)
    (hks : (backToKw pos (keywordEach [⟨some "key", .Name "len" p1, p2⟩] X.env)).filterMap (·.1) = [Str.ofString "key"] := by rfl) : PE X (.Call (.Name "sorted" p) [a] [⟨some "key", .Name "len" p1, p2⟩] pos) (tSortLen X.K ta) := by
  refine ⟨fun pins s σ H Q I h => ?_⟩
  refine wpAny_Call_Name_kw (ld_blt I hg hm PyProof.Rows.boot_sorted ?_)
  refine PyProof.Rows.callWith_kw (thn ((pa_cons ha pa_nil na).run pos pins s σ H (fun vs H1 => ∃ (l : Addr) (bs : List (V × PyData)), vs = [V.ref l] ∧ SqL X.K H1 l (bs.map (·.1)) ∧ (∀ b ∈ bs, ∃ p zs, b.1 = .ref p ∧ (SqL X.K H1 p zs ∨ SqT X.K H1 p zs) ∧ zs.length = lenOf b.2) ∧
    ∀ p, H1 p = none → Q (.ref p) (upd H1 p (.lst ((bs.mergeSort fun a b => leLen a.2 b.2).map (·.1))))) I ?_) fun us s1 ⟨vs, H1, I1, r1, q1⟩ => ?_) he hpl hall hnone
  · exact h
  · obtain ⟨l, bs, rfl, hs, hb, q⟩ := q1
    obtain rfl := Vals.ref1 r1
    show wpAny _ _ (evalAll ((do let v ← eval (.Name "len" p1) X.env; standAt pos; pure v) :: [])) _ _ s1
    refine wpAny_evalAll_cons (wpAny_bind (ld_blt I1 hg2 hm2 PySem.boot_len (wpAny_bind (wpAny_standAt (wpAny_pure ?_)))))
    refine wpAny_evalAll_nil ?_
    rw [hks]
    obtain ⟨its, rv, hl, hz⟩ := I1.list hs
    have ev := vals_each rv
    refine PySem.W.sorted_key_data (b := false) (vs := its) (bs := bs) (f := .builtin "len") (fun b => .int (lenOf b.2 : Int)) hl.isList ev (fun d hd d' hd' => ?_) (.inr fun d hd => ?_) (by rw [← List.length_map (f := (·.1)) (as := bs)]; exact hz) (fun b _ => ?_) (ksk_s1 _ _) (fun _ => ksk_l1 _ _) (fun _ => rfl) (fun v b hv hm h tk kp => ?_) fun out c h' tk kp fr hD hl2 eo => ?_
    · obtain ⟨b, _, rfl⟩ := List.mem_map.mp hd
      obtain ⟨b', _, rfl⟩ := List.mem_map.mp hd'
      rfl
    · obtain ⟨b, _, rfl⟩ := List.mem_map.mp hd
      exact ⟨fun z => (by cases z), fun xs z => (by cases z)⟩
    · have := hr.un
      rw [PyData.depth]
      omega
    · obtain ⟨p, zs, e, hq, hn⟩ := hb b hm
      rw [e] at hv
      obtain rfl : v = Value.ref p := hv
      rcases hq with hq | hq
      · obtain ⟨its2, rv2, hl3, hz2⟩ := I1.list hq
        have il : h.IsList p its2.toArray := by
          obtain ⟨o, ho, r⟩ := hl3.isList
          exact ⟨o, kp p o ho, r⟩
        have ln : its2.toArray.size = lenOf b.2 := by rw [List.size_toArray, ← rv2.length, hn]
        refine Calls.call_len_list (s := { s1 with heap := h, toks := tk }) il (by have := hz2; rw [rv2.length] at this; rw [List.size_toArray]; rw [sizeLine_eq] at this; omega) ⟨h, tk + 1 + 1, rfl, fun _ _ e => e, ?_⟩
        rw [ln]
        exact .int _ _
      · obtain ⟨its2, rv2, hl3, hz2⟩ := I1.tuple hq
        have il : IsTup h p its2.toArray := by
          obtain ⟨o, ho, r⟩ := hl3
          exact ⟨o, kp p o ho, r⟩
        have ln : its2.toArray.size = lenOf b.2 := by rw [List.size_toArray, ← rv2.length, hn]
        refine len_tuple (s := { s1 with heap := h, toks := tk }) il (by have := hz2; rw [rv2.length] at this; rw [List.size_toArray]; rw [sizeLine_eq] at this; omega) ⟨h, tk + 1 + 1, rfl, fun _ _ e => e, ?_⟩
        rw [ln]
        exact .int _ _
    · rw [PySem.W.dataLe_int (fun b : V × PyData => (lenOf b.2 : Int))] at eo
      have ve := each_vals eo
      have hlen : ((bs.mergeSort fun a b => leLen a.2 b.2).map (·.1)).length ≤ sizeLine := by
        rw [List.length_map, (List.mergeSort_perm _ _).length_eq, ← List.length_map (f := (·.1)) (as := bs)]
        exact hz
      have hp : H1 (s1.heap.objs.size + 1) = none := I1.hok.fresh (Nat.le_succ _)
      exact ⟨.ref _, upd H1 (s1.heap.objs.size + 1) (.lst ((bs.mergeSort fun a b => leLen a.2 b.2).map (·.1))), I1.laid (t' := tk) kp (Nat.le_succ _) ⟨hlen, out, c, ve, hD⟩, rfl, q _ hp⟩
theorem dq_pairs {G : Hp} : ∀ {xs : List V} {ds : List PyData}, DqAll K G xs ds → (∀ b ∈ xs.zip ds, Dq K G b.1 b.2) ∧ (xs.zip ds).map (·.1) = xs ∧ (xs.zip ds).map (·.2) = ds
  | _, _, .nil => ⟨fun b h => by simp at h, rfl, rfl⟩
  | _, _, .cons h t => by
    obtain ⟨h1, h2, h3⟩ := dq_pairs t
    refine ⟨fun b hb => ?_, by rw [List.zip_cons_cons, List.map_cons, h2], by rw [List.zip_cons_cons, List.map_cons, h3]⟩
    rw [List.zip_cons_cons] at hb
    rcases List.mem_cons.mp hb with e | hb
    · rw [e]; exact h
    · exact h1 b hb
theorem pairs_dq {G : Hp} : ∀ {bs : List (V × PyData)}, (∀ b ∈ bs, Dq K G b.1 b.2) → DqAll K G (bs.map (·.1)) (bs.map (·.2))
  | [], _ => .nil
  | b :: bs, h => .cons (h b List.mem_cons_self) (pairs_dq fun c hc => h c (List.mem_cons_of_mem _ hc))
theorem df_sortLen {k : Nat} (hr : Room k X.A) (hc : X.calm = true) (hg : Gl X "sorted") (hm : X.mg "sorted" = none) (hg2 : Gl X "len") (hm2 : X.mg "len" = none) (ha : DE K E X a ma)
    (na : starEach [a] X.env = (false, eval a X.env) :: starEach [] X.env := by rfl)
    (he : backTo pos (starEach [a] X.env) = (false, eval a X.env) :: backTo pos (starEach [] X.env) := by rfl) (hpl : (backTo pos (starEach [a] X.env)).any (·.1) = false := by rfl)
    (hall : (backToKw pos (keywordEach [⟨some "key", .Name "len" p1, p2⟩] X.env)).all (·.1.isSome) = true := by rfl) (hnone : (backToKw pos (keywordEach [⟨some "key", .Name "len" p1, p2⟩] X.env)).any (·.1.isNone) = false := by rfl)
    (hks : (backToKw pos (keywordEach [⟨some "key", .Name "len" p1, p2⟩] X.env)).filterMap (·.1) = [Str.ofString "key"] := by rfl) : DF K E X (.Call (.Name "sorted" p) [a] [⟨some "key", .Name "len" p1, p2⟩] pos) (mSortLen ma) := ⟨fun hK => by
  subst hK
  refine PE.imp (pe_sortLen hr hc hg hm hg2 hm2 (ha.pe rfl) na he hpl hall hnone hks) fun σ H Q ⟨F, O, G, r, out, P, em, f⟩ => ?_
  refine tM.run P f em fun d r1 x G1 H1 P1 g1 q1 e1 f1 => ?_
  obtain ⟨z, hz, rfl⟩ := lift_ok e1
  cases d with
  | list ds =>
    have hz : (if ds.all isLst = true then some (ds.mergeSort leLen) else none) = some z := hz
    by_cases hall : ds.all isLst = true
    · rw [if_pos hall] at hz
      cases hz
      cases q1 with
      | @lst l xs _ hs hd =>
        obtain ⟨h1, h2, h3⟩ := dq_pairs hd
        refine ⟨l, xs.zip ds, rfl, by rw [h2]; exact P1.sub.seq hs, fun b hb => ?_, fun p hp => ?_⟩
        · have m : b.2 ∈ ds := by rw [← h3]; exact List.mem_map.mpr ⟨b, hb, rfl⟩
          have il := List.all_eq_true.mp hall b.2 m
          have dq := h1 b hb
          obtain ⟨v, d⟩ := b
          dsimp only at il dq ⊢
          cases d with
          | list es =>
            cases dq with
            | lst hs2 hd2 => exact ⟨_, _, rfl, .inl (P1.sub.seq hs2), hd2.length⟩
          | tuple es =>
            cases dq with
            | tup hs2 hd2 => exact ⟨_, _, rfl, .inr (Lk.Same.tup P1.sub hs2), hd2.length⟩
          | _ => cases il
        · have ez : ds.mergeSort leLen = ((xs.zip ds).mergeSort fun a b => leLen a.2 b.2).map (·.2) := by
            rw [List.map_mergeSort (s := leLen) fun a _ b _ => rfl, h3]
          rw [ez] at f1
          exact f1.ok (Ps.of_same P1.sub (same_new hp)) P1 ⟨p, _, rfl, hp, P1.sub.free hp, P1.nf _ hp, fun i z => (P1.on i p z).2.2.1 hp, upd_same, pairs_dq fun b hb => h1 b ((List.mergeSort_perm _ _).mem_iff.mp hb)⟩
    · rw [if_neg hall] at hz
      cases hz
  | _ => cases hz⟩
end
end DL
namespace DL
open PySem PySem.Spec PyProof.Rows L2 Lk
section
variable {K : PySem.W.Frag} {E : XE} {X : Cx} {e : Expr} {ma : M PyData} {pos : Pos}
def popAt (ds : List PyData) (j : Int) : Option (PyData × List PyData) := if ds.length ≤ 1000000 then (ixN ds.length j).bind fun k => (ds[k]?).map fun z => (z, ds.eraseIdx k) else none
def mPopAt (i : Nat) (m : M PyData) : M PyData := fun r0 => if (ownOf r0[i]?).isSome then (m.bind fun d r => match ownOf r[i]?, asInt d with
  | some ds, some j => (popAt ds j).map fun z => .ok z.1 (upO i z.2 r)
  | _, _ => none) r0 else none
@[simp] theorem e_popAt {i : Nat} {r : En} : mPopAt i ma r = if (ownOf r[i]?).isSome then (ma.bind fun d r => match ownOf r[i]?, asInt d with
  | some ds, some j => (popAt ds j).map fun z => .ok z.1 (upO i z.2 r)
  | _, _ => none) r else none := rfl
end
end DL
namespace DL
open PySem PySem.Spec PyProof.Rows L2 Lk
def isBM : PyData → PyData → Option PyData
  | .bool a, .bool b => some (.bool (decide (a = b)))
  | _, _ => none
def isNotBM : PyData → PyData → Option PyData
  | .bool a, .bool b => some (.bool (!decide (a = b)))
  | _, _ => none
@[simp] theorem e_isB {a b : Bool} : isBM (.bool a) (.bool b) = some (.bool (decide (a = b))) := rfl
@[simp] theorem e_isNotB {a b : Bool} : isNotBM (.bool a) (.bool b) = some (.bool (!decide (a = b))) := rfl
section
variable {K : PySem.W.Frag} {X : Cx}
end
def catM : PyData → PyData → Option (List PyData)
  | .list xs, .list ys => if xs.length + ys.length ≤ 1000000 then some (xs ++ ys) else none
  | _, _ => none
def mCat (ma mb : M PyData) : M (List PyData) := ma.bind fun d => mb.bind fun e => M.lift (catM d e)
@[simp] theorem e_cat {ma mb : M PyData} {r : En} : mCat ma mb r = M.bind ma (fun d => mb.bind fun e => M.lift (catM d e)) r := rfl
section
variable {K : PySem.W.Frag} {E : XE} {X : Cx} {a b : Expr} {ma mb : M PyData} {pos : Pos}
end
end DL
namespace DL
open PySem PySem.Spec PyProof.Rows
abbrev ZipO (h : Heap) (z TI TO : Addr) (f0 f1 : Value) : Prop :=
  h.get? z = some { cls := .type "zip", dict := none, data := .fields #[f0, f1, .bool false, .ref TI, .ref TO], slots := #[] }
abbrev TupO (h : Heap) (T : Addr) (vs : List Value) : Prop := h.get? T = some { cls := .type "tuple", data := .seq vs.toArray }
section
variable {prog : Program} {w : World} {A : Around} {E : Value → Shared → Prop} {s : Shared}
/-- the iterators before the place k have been asked, the others not -/
structure ZTurn (h : Heap) (z TI TO : Addr) (its ls : List Addr) (i k : Nat) : Prop where
  len : its.length = ls.length
  gone : ∀ (j : Nat) (it l : Addr), j < k → its[j]? = some it → ls[j]? = some l → h.IsListIter it l (i + 1)
  here : ∀ (j : Nat) (it l : Addr), k ≤ j → its[j]? = some it → ls[j]? = some l → h.IsListIter it l i
structure ZApart (z TI TO : Addr) (its ls : List Addr) : Prop where
  nd : (z :: TI :: TO :: its).Nodup
  ne : ∀ l ∈ ls, l ≠ z ∧ l ≠ TI ∧ l ≠ TO ∧ l ∉ its
theorem ZTurn.step {h h' : Heap} {z TI TO : Addr} {its ls : List Addr} {i k : Nat} {it l : Addr} (t : ZTurn h z TI TO its ls i k) (nd : its.Nodup) (e1 : its[k]? = some it) (e2 : ls[k]? = some l) (hit : h'.IsListIter it l (i + 1)) (sb : Heap.SameBut it h h') : ZTurn h' z TI TO its ls i (k + 1) := by
  have ne : ∀ (j : Nat) (b : Addr), j ≠ k → its[j]? = some b → b ≠ it := fun j b hj e q => by
    subst q
    exact hj ((List.getElem?_inj (by exact (List.getElem?_eq_some_iff.mp e).1) nd).mp (e.trans e1.symm))
  refine ⟨t.len, fun j b c hj h1 h2 => ?_, fun j b c hj h1 h2 => ?_⟩
  · by_cases q : j = k
    · subst q
      rw [e1] at h1
      rw [e2] at h2
      cases h1; cases h2
      exact hit
    · exact (t.gone j b c (by omega) h1 h2).extBut sb.extBut (ne j b q h1)
  · exact (t.here j b c (by omega) h1 h2).extBut sb.extBut (ne j b (by omega) h1)
theorem ZTurn.but {h h' : Heap} {z TI TO a : Addr} {its ls : List Addr} {i k : Nat} (t : ZTurn h z TI TO its ls i k) (ha : a ∉ its) (sb : Heap.SameBut a h h') : ZTurn h' z TI TO its ls i k :=
  ⟨t.len, fun j b c hj h1 h2 => (t.gone j b c hj h1 h2).extBut sb.extBut fun q => ha (by rw [← q]; exact List.mem_of_getElem? h1), fun j b c hj h1 h2 => (t.here j b c hj h1 h2).extBut sb.extBut fun q => ha (by rw [← q]; exact List.mem_of_getElem? h1)⟩
theorem ZTurn.at {h h' : Heap} {z TI TO : Addr} {its ls : List Addr} {i k : Nat} (t : ZTurn h z TI TO its ls i k) (ha : ∀ b ∈ its, ∀ o, h.get? b = some o → h'.get? b = some o) : ZTurn h' z TI TO its ls i k :=
  ⟨t.len, fun j b c hj h1 h2 => (t.gone j b c hj h1 h2).at fun o e => ha b (List.mem_of_getElem? h1) o e, fun j b c hj h1 h2 => (t.here j b c hj h1 h2).at fun o e => ha b (List.mem_of_getElem? h1) o e⟩
theorem ZTurn.all {h : Heap} {z TI TO : Addr} {its ls : List Addr} {i : Nat} (t : ZTurn h z TI TO its ls i its.length) : ZTurn h z TI TO its ls (i + 1) 0 :=
  ⟨t.len, fun j b c hj => by omega, fun j b c _ h1 h2 => t.gone j b c (List.getElem?_eq_some_iff.mp h1).1 h1 h2⟩
def zIts (n len : Nat) : List Nat := (List.range len).map fun j => n + j
structure ZMade (h h' : Heap) (ls : List Addr) : Prop where
  its : ∀ (j : Nat) (l : Addr), ls[j]? = some l → h'.IsListIter (h.objs.size + j) l 0
  ti : TupO h' (h.objs.size + ls.length) ((zIts h.objs.size ls.length).map Value.ref)
  to_ : TupO h' (h.objs.size + ls.length + 1) (((zIts h.objs.size ls.length).map Value.ref).map fun _ => Value.none)
  z : ZipO h' (h.objs.size + ls.length + 2) (h.objs.size + ls.length) (h.objs.size + ls.length + 1) .none (.bool false)
  sz : h'.objs.size = h.objs.size + ls.length + 3
  old : ∀ c o, h.get? c = some o → h'.get? c = some o
end
end DL
namespace DL
open PySem PySem.Spec PyProof.Rows L2
end DL
namespace DL
open PySem PySem.Spec PyProof.Rows L2 Lk
def asLists : List PyData → Option (List (List PyData))
  | [] => some []
  | .list r :: ds => (asLists ds).map fun L => r :: L
  | _ :: _ => none
def zipRow (L : List (List PyData)) (k : Nat) : PyData := .tuple (L.map fun r => r.getD k .none)
def zipM : PyData → Option (List PyData)
  | .list ds => (asLists ds).bind fun L => if 1 ≤ L.length ∧ L.length ≤ 6 ∧ L.all (fun r => r.length == (L.headD []).length) = true then some ((List.range (L.headD []).length).map (zipRow L)) else none
  | _ => none
def mZip (m : M PyData) : M (List PyData) := m.bind fun d => M.lift (zipM d)
@[simp] theorem e_zip {m : M PyData} {r : En} : mZip m r = M.bind m (fun d => M.lift (zipM d)) r := rfl
section
variable {K : PySem.W.Frag} {E : XE} {X : Cx} {G : Hp}
end
end DL
namespace DL
open PySem PySem.Spec PyProof.Rows L2 Lk
section
variable {X : Cx} {pins : List (Addr × Obj)} {σ : L2.St} {H : Hp} {s : Shared}
mutual
theorem dq_nested (I : Inv X pins σ H s) : ∀ {d : PyData} {k : NestedKey} {v : V} {u : Value}, Dq X.K H v d → keyN d = some k → RelV v u → NestedIs s.heap k u
  | .int i, k, v, u, h, hk, r => by
    rw [keyN] at hk
    cases hk
    cases h
    obtain ⟨t, rfl⟩ := r
    exact .int i t
  | .tuple ds, k, v, u, h, hk, r => by
    rw [keyN] at hk
    obtain ⟨ks, h1, rfl⟩ := Option.map_eq_some_iff.mp hk
    cases h with
    | tup hs ha =>
      cases r
      obtain ⟨its, rv, ⟨o, ho, hc, n, hd⟩, _⟩ := I.tuple hs
      exact .tup ho hc hd (by simpa using dq_nesteds I ha h1 rv)
  | .none, k, v, u, h, hk, r => by simp [keyN] at hk
  | .bool _, k, v, u, h, hk, r => by simp [keyN] at hk
  | .str _, k, v, u, h, hk, r => by simp [keyN] at hk
  | .list _, k, v, u, h, hk, r => by simp [keyN] at hk
  | .dict _, k, v, u, h, hk, r => by simp [keyN] at hk
theorem dq_nesteds (I : Inv X pins σ H s) : ∀ {ds : List PyData} {ks : List NestedKey} {vs : List V} {us : List Value}, DqAll X.K H vs ds → keyNs ds = some ks → Vals vs us → NestedAll s.heap ks us
  | [], ks, vs, us, h, hk, r => by
    rw [keyNs] at hk
    cases hk
    cases h
    cases r
    exact .nil
  | d :: ds, ks, vs, us, h, hk, r => by
    rw [keyNs] at hk
    obtain ⟨k, h1, h2⟩ := Option.bind_eq_some_iff.mp hk
    obtain ⟨ks', h3, rfl⟩ := Option.map_eq_some_iff.mp h2
    cases h with
    | cons ha hb =>
      cases r with
      | cons ra rb => exact .cons (dq_nested I ha h1 ra) (dq_nesteds I hb h3 rb)
end
end
end DL
namespace DL
open PySem PySem.Spec PyProof.Rows L2 Lk
section
variable {X : Cx}
end
end DL
namespace DL
open PySem PySem.Spec PyProof.Rows L2 Lk
def isTupD : PyData → Bool
  | .tuple _ => true
  | _ => false
def dkNs (ks : List PyData) : Option (List NestedKey) := (keyNs ks).bind fun nks => if nks.all (fun k => decide (k.depth ≤ 8)) then some nks else none
def keyT (d : PyData) : Option NestedKey := if isTupD d then (keyN d).bind fun k => if k.depth ≤ 8 then some k else none else none
def sDk (i : Nat) (m : M (List PyData)) : SM := sBind m fun ks r => match r[i]? with
  | some (.io _) => none
  | some _ => some (.nx (r.set i (.dk ks)))
  | none => none
def inDkM (neg : Bool) (ks : List PyData) (d : PyData) : Option PyData := (keyT d).bind fun k => (dkNs ks).map fun nks => .bool (if neg then !decide (k ∈ nks) else decide (k ∈ nks))
def mInDk (neg : Bool) (i : Nat) (m : M PyData) : M PyData := m.bind fun d r => match r[i]? with
  | some (.dk ks) => (inDkM neg ks d).map fun z => .ok z r
  | _ => none
@[simp] theorem e_inDk {neg : Bool} {i : Nat} {m : M PyData} {r : En} : mInDk neg i m r = M.bind m (fun d r => match r[i]? with
  | some (.dk ks) => (inDkM neg ks d).map fun z => .ok z r
  | _ => none) r := rfl
@[simp] theorem s_dk {i : Nat} {m : M (List PyData)} {r : En} : sDk i m r = sBind m (fun ks r => match r[i]? with
  | some (.io _) => none
  | some _ => some (.nx (r.set i (.dk ks)))
  | none => none) r := rfl
def rDk (K : PySem.W.Frag) : RR V (List PyData) := fun S O F G H v ks => ∃ p nks as, v = .ref p ∧ S p = none ∧ G p = none ∧ F.H0 p = none ∧ (∀ i, O i ≠ some p) ∧ H p = some (DkO p nks as) ∧ keyNs ks = some nks ∧ DqAll K G (as.map V.ref) ks
instance {K : PySem.W.Frag} : Anti (rDk K) := ⟨fun k ⟨p, nks, as, h1, h2, h⟩ => ⟨p, nks, as, h1, k _ h2, h⟩⟩
section
variable {K : PySem.W.Frag} {F : Fm} {O : Ow} {G G' H H' : Hp} {σ : L2.St} {r : En} {E : XE} {X : Cx}
end
end DL
namespace DL
open PySem PySem.Spec PyProof.Rows L2 Lk
section
variable {K : PySem.W.Frag} {E : XE} {X : Cx}
variable {kn : L2.St → Hp → Prop} {a b c e : Expr} {pos : Pos} {m ma mb : M PyData}
end
section
variable {P : Program} {w : World} {K : PySem.W.Frag} {mg : Str → Option Value} {base : Heap}
end
end DL
namespace DL
open PySem PySem.Spec PyProof.Rows L2 Lk
def c_JOINING_WORDS : PyData := .tuple [.str "and", .str "or", .str "odd"]
def v_is_integer : SM := (sRet (mAndV (mIsi "int" (mV 0)) (mNotV (mIsi "bool" (mV 0)))))
def g_is_integer : List PyData → Option PyData := runD ["value"] 1 v_is_integer
theorem r_is_integer (x0 : PyData) : g_is_integer [x0] = outD (v_is_integer [.pl x0]) := rfl
def v_is_integer_below : SM := (sRet (mAndV (mCall g_is_integer (mCons (mV 0) mNil)) (mChain leM ltM (M.ret (.int 0)) (mV 0) (mV 1))))
def g_is_integer_below : List PyData → Option PyData := runD ["value", "limit"] 2 v_is_integer_below
theorem r_is_integer_below (x0 : PyData) (x1 : PyData) : g_is_integer_below [x0, x1] = outD (v_is_integer_below [.pl x0, .pl x1]) := rfl
def v_are_ascending_below : SM := (sSeq (sSet 2 (M.ret (.int 0)))
  (sSeq (sFor (mSeq (mV 0)) (gN 3)
    (sSeq (sIf (mOr (mNotT (mTru (mCall g_is_integer_below (mCons (mV 3) (mCons (mV 1) mNil))))) (mOpT ltM (mV 3) (mV 2)))
    (sRet (M.ret (.bool false)))
    sNil)
  (sSet 2 (mOp2 addM (mV 3) (M.ret (.int 1))))))
  (sRet (M.ret (.bool true)))))
def g_are_ascending_below : List PyData → Option PyData := runD ["values", "limit", "least", "value"] 2 v_are_ascending_below
theorem r_are_ascending_below (x0 : PyData) (x1 : PyData) : g_are_ascending_below [x0, x1] = outD (v_are_ascending_below [.pl x0, .pl x1, .un, .un]) := rfl
def v_ascending_numbers : SM := (sRet (mNew (mCallF sortedM (mCons (mNew (mLc [1] (mSeq (mV 0)) (gN 1) mYes (mCall intM (mCons (mV 1) mNil)))) mNil))))
def g_ascending_numbers : List PyData → Option PyData := runD ["numbers", "number"] 1 v_ascending_numbers
theorem r_ascending_numbers (x0 : PyData) : g_ascending_numbers [x0] = outD (v_ascending_numbers [.pl x0, .un]) := rfl
end DL
namespace DL
open PySem PySem.Spec PyProof.Rows L2 Lk
end DL
namespace DL
open PySem PySem.Spec PyProof.Rows L2 Lk
end DL
namespace DL
open PySem PySem.Spec PyProof.Rows L2 Lk
end DL
namespace DL
open PySem PySem.Spec PyProof.Rows L2 Lk
def v_mask_of : SM := (sSeq (sSet 2 (M.ret (.int 0)))
  (sSeq (sFor (mSeq (mV 1)) (gN 3)
    (sSet 2 (mOp2 orM (mV 2) (mOp2 shlM (M.ret (.int 1)) (mOp2 subM (mOp2 subM (mV 0) (M.ret (.int 1))) (mV 3))))))
  (sRet (mV 2))))
def g_mask_of : List PyData → Option PyData := runD ["size", "members", "mask", "member"] 2 v_mask_of
theorem r_mask_of (x0 : PyData) (x1 : PyData) : g_mask_of [x0, x1] = outD (v_mask_of [.pl x0, .pl x1, .un, .un]) := rfl
def v_members_of : SM := (sRet (mNew (mLc [2] (mRng1 (mCons (mV 0) mNil)) (gN 2) (mTru (mOp2 andM (mOp2 shrM (mV 1) (mOp2 subM (mOp2 subM (mV 0) (M.ret (.int 1))) (mV 2))) (M.ret (.int 1)))) (mV 2))))
def g_members_of : List PyData → Option PyData := runD ["size", "mask", "member"] 2 v_members_of
theorem r_members_of (x0 : PyData) (x1 : PyData) : g_members_of [x0, x1] = outD (v_members_of [.pl x0, .pl x1, .un]) := rfl
def v_family_of : SM := (sRet (mNew (mSortLen (mNew (mLc [2] (mSeq (mNew (mRevL (mCall g_ascending_numbers (mCons (mV 1) mNil))))) (gN 2) mYes (mCall g_members_of (mCons (mV 0) (mCons (mV 2) mNil))))))))
def g_family_of : List PyData → Option PyData := runD ["size", "masks", "mask"] 2 v_family_of
theorem r_family_of (x0 : PyData) (x1 : PyData) : g_family_of [x0, x1] = outD (v_family_of [.pl x0, .pl x1, .un]) := rfl
def v_least_masks : SM := (sSeq (sOwn 1 (mLst mNil))
  (sSeq (sFor (mSeq (mCall g_ascending_numbers (mCons (mV 0) mNil))) (gN 2)
    (sIf (mPeek (mNotT (mTru (mCall anyM (mCons (mNew (mLc [3] (mSeq (mV 1)) (gN 3) mYes (mOp2 eqM (mOp2 andM (mV 3) (mV 2)) (mV 3)))) mNil)))))
    (sApp 1 (mV 2))
    sNil))
  (sFrz 1 (sRet (mV 1)))))
def g_least_masks : List PyData → Option PyData := runD ["masks", "least", "mask", "part"] 1 v_least_masks
theorem r_least_masks (x0 : PyData) : g_least_masks [x0] = outD (v_least_masks [.pl x0, .un, .un, .un]) := rfl
end DL
namespace DL
open PySem PySem.Spec PyProof.Rows L2 Lk
def v_p_is_set : SM := (sRet (mAndV (mIsi "list" (mV 1)) (mCall g_are_ascending_below (mCons (mV 1) (mCons (mV 0) mNil)))))
def g_p_is_set : List PyData → Option PyData := runD ["size", "value"] 2 v_p_is_set
theorem r_p_is_set (x0 : PyData) (x1 : PyData) : g_p_is_set [x0, x1] = outD (v_p_is_set [.pl x0, .pl x1]) := rfl
def v_p_read_family : SM := (sSeq (sIf (mNotT (mTru (mCall g_is_integer_below (mCons (mV 0) (mCons (mOp2 addM (M.ret (.int 10)) (M.ret (.int 1))) mNil)))))
    sNo
    sNil)
  (sSeq (sIf (mOr (mNotT (mTru (mIsi "list" (mV 1)))) (mOr (mOpT gtM (mCall lenM (mCons (mV 1) mNil)) (M.ret (.int 300))) (mNotT (mTru (mCall allM (mCons (mNew (mLc [2] (mSeq (mV 1)) (gN 2) mYes (mCall g_p_is_set (mCons (mV 0) (mCons (mV 2) mNil))))) mNil))))))
    sNo
    sNil)
  (sRet (mNew (mLc [2] (mSeq (mV 1)) (gN 2) mYes (mCall g_mask_of (mCons (mV 0) (mCons (mV 2) mNil))))))))
def g_p_read_family : List PyData → Option PyData := runD ["size", "family", "part"] 2 v_p_read_family
theorem r_p_read_family (x0 : PyData) (x1 : PyData) : g_p_read_family [x0, x1] = outD (v_p_read_family [.pl x0, .pl x1, .un]) := rfl
def v_p_read_members : SM := (sSeq (sIf (mNotT (mTru (mCall g_p_is_set (mCons (mV 0) (mCons (mV 1) mNil)))))
    sNo
    sNil)
  (sRet (mCall g_mask_of (mCons (mV 0) (mCons (mV 1) mNil)))))
def g_p_read_members : List PyData → Option PyData := runD ["size", "members"] 2 v_p_read_members
theorem r_p_read_members (x0 : PyData) (x1 : PyData) : g_p_read_members [x0, x1] = outD (v_p_read_members [.pl x0, .pl x1]) := rfl
def v_dropped : SM := (sSeq (sSet 3 (mCall g_p_read_family (mCons (mV 0) (mCons (mV 1) mNil))))
  (sSeq (sSet 4 (mCall g_p_read_members (mCons (mV 0) (mCons (mV 2) mNil))))
  (sRet (mCall g_family_of (mCons (mV 0) (mCons (mCall g_least_masks (mCons (mNew (mLc [5] (mSeq (mV 3)) (gN 5) (mOpT eqM (mOp2 andM (mV 5) (mV 4)) (M.ret (.int 0))) (mV 5))) mNil)) mNil))))))
def g_dropped : List PyData → Option PyData := runD ["size", "family", "members", "masks", "left_out", "mask"] 3 v_dropped
theorem r_dropped (x0 : PyData) (x1 : PyData) (x2 : PyData) : g_dropped [x0, x1, x2] = outD (v_dropped [.pl x0, .pl x1, .pl x2, .un, .un, .un]) := rfl
def v_taken : SM := (sSeq (sSet 3 (mCall g_p_read_family (mCons (mV 0) (mCons (mV 1) mNil))))
  (sSeq (sSet 4 (mCall g_p_read_members (mCons (mV 0) (mCons (mV 2) mNil))))
  (sRet (mCall g_family_of (mCons (mV 0) (mCons (mCall g_least_masks (mCons (mNew (mLc [5] (mSeq (mV 3)) (gN 5) mYes (mOp2 subM (mV 5) (mOp2 andM (mV 5) (mV 4))))) mNil)) mNil))))))
def g_taken : List PyData → Option PyData := runD ["size", "family", "members", "masks", "left_out", "mask"] 3 v_taken
theorem r_taken (x0 : PyData) (x1 : PyData) (x2 : PyData) : g_taken [x0, x1, x2] = outD (v_taken [.pl x0, .pl x1, .pl x2, .un, .un, .un]) := rfl
end DL
namespace DL
open PySem PySem.Spec PyProof.Rows L2 Lk
def nodupI : List Int → Bool
  | [] => true
  | x :: xs => !xs.contains x && nodupI xs
def lenSetM : PyData → Option PyData
  | .list ds => (asInts ds).bind fun ns => if ns.length < 64 && nodupI ns then some (.int ns.length) else none
  | _ => none
def mLenSet (m : M PyData) : M PyData := m.bind fun d => M.lift (lenSetM d)
@[simp] theorem e_lenSet {m : M PyData} {r : En} : mLenSet m r = M.bind m (fun d => M.lift (lenSetM d)) r := rfl
section
variable {K : PySem.W.Frag} {E : XE} {X : Cx} {a : Expr} {ma : M PyData} {p p2 q pos : Pos}
end
end DL
namespace DL
open PySem PySem.Spec PyProof.Rows L2 Lk
def asPair : PyData → Option (Int × Int)
  | .tuple [.int x, .int y] => if 0 ≤ x ∧ x < 64 ∧ 0 ≤ y ∧ y < 64 then some (x, y) else none
  | _ => none
def asPairs : List PyData → Option (List (Int × Int))
  | [] => some []
  | d :: ds => (asPair d).bind fun p => (asPairs ds).map fun ps => p :: ps
def prI (p : Int × Int) : PyData := .tuple [.int p.1, .int p.2]
def codP (p : Int × Int) : Int := p.1 * 64 + p.2
def decP (k : Int) : Int × Int := (k / 64, k % 64)
def sortPM : PyData → Option (List PyData)
  | .list ds => (asPairs ds).bind fun ps => if ps.length < 64 then some ((sortU (ps.map codP)).map fun k => prI (decP k)) else none
  | _ => none
def mSortP (m : M PyData) : M (List PyData) := m.bind fun d => M.lift (sortPM d)
@[simp] theorem e_sortP {m : M PyData} {r : En} : mSortP m r = M.bind m (fun d => M.lift (sortPM d)) r := rfl
section
variable {K : PySem.W.Frag} {E : XE} {X : Cx} {a : Expr} {ma : M PyData} {p p2 q pos : Pos} {G H : Hp}
end
end DL
namespace DL
open PySem PySem.Spec PyProof.Rows L2 Lk
mutual
/-- numbers and tuples alone -/
def numT : NestedKey → Bool
  | .none => false
  | .num _ => true
  | .text _ => false
  | .tup ks => numTs ks
def numTs : List NestedKey → Bool
  | [] => true
  | k :: ks => numT k && numTs ks
end
mutual
theorem keyN_numT : ∀ {d : PyData} {k : NestedKey}, keyN d = some k → numT k = true
  | .int i, k, h => by
    rw [keyN] at h
    cases h
    rw [numT]
  | .tuple ds, k, h => by
    rw [keyN] at h
    obtain ⟨ks, h1, rfl⟩ := Option.map_eq_some_iff.mp h
    rw [numT]
    exact keyNs_numT h1
  | .none, k, h => by simp [keyN] at h
  | .bool _, k, h => by simp [keyN] at h
  | .str _, k, h => by simp [keyN] at h
  | .list _, k, h => by simp [keyN] at h
  | .dict _, k, h => by simp [keyN] at h
theorem keyNs_numT : ∀ {ds : List PyData} {ks : List NestedKey}, keyNs ds = some ks → numTs ks = true
  | [], ks, h => by
    rw [keyNs] at h
    cases h
    rw [numTs]
  | d :: ds, ks, h => by
    rw [keyNs] at h
    obtain ⟨k, h1, h2⟩ := Option.bind_eq_some_iff.mp h
    obtain ⟨ks', h3, rfl⟩ := Option.map_eq_some_iff.mp h2
    rw [numTs, keyN_numT h1, keyNs_numT h3]
    rfl
end
/-- the element k stands at a -/
def EN (h : Heap) (k : NestedKey) (a : Addr) : Prop := NestedIs h k (.ref a) ∧ k.depth ≤ 8 ∧ numT k = true
theorem EN.obj {h : Heap} {k : NestedKey} {a : Addr} (x : EN h k a) : ∃ o, h.get? a = some o ∧ o.cls = .type "tuple" ∧ ∃ vs n, o.data = .seq vs n := by
  obtain ⟨x, _⟩ := x
  cases x with
  | tup h1 h2 h3 _ => exact ⟨_, h1, h2, _, _, h3⟩
theorem EN.inj {h : Heap} {k k' : NestedKey} {a : Addr} (x : EN h k a) (y : EN h k' a) : k = k' := NestedIs.inj _ _ _ x.1 y.1
theorem EN.keep {h h' : Heap} {k : NestedKey} {a : Addr} (x : EN h k a) (e : ∀ b o, h.get? b = some o → h'.get? b = some o) : EN h' k a :=
  ⟨NestedIs.at (fun b o _ _ ho _ => e b o ho) _ _ x.1, x.2⟩
theorem EN.but {h h' : Heap} {k : NestedKey} {a b : Addr} {o : Obj} {es : Array (Int × Value)} {ep : Nat} {t : SetTable} (x : EN h k b) (ho : h.get? a = some o) (hd : o.data = .set es ep t) (hs : Heap.SameBut a h h') : EN h' k b :=
  ⟨NestedIs.at (fun c u vs n hc hu => by
    refine (hs.2 c fun e => ?_).trans hc
    subst e
    rw [ho] at hc
    cases hc
    rw [hd] at hu
    cases hu) _ _ x.1, x.2⟩
section
variable {P : Program} {w : World} {E : Value → Shared → Prop}
/-- what v says of itself, n levels down -/
def Says (P : Program) (w : World) (f : Value → Sem Bool) (b : Bool) (s : Shared) (v : Value) : Prop := ∀ (A : Around) (E : Value → Shared → Prop) (Q : Bool → Shared → Prop), Q b s → wpAny (model P w) A (f v) Q E s
theorem Says.pure {f : Value → Sem Bool} {b : Bool} {s : Shared} {v : Value} (h : f v = Pure.pure b) : Says P w f b s v := fun A E Q hq => by
  rw [h]
  exact wpAny_pure hq
theorem class_tuple {n : Nat} {s : Shared} {a : Addr} {o : Obj} {vs : Array Value} {m : Nat} (ho : s.heap.get? a = some o) (hc : o.cls = .type "tuple") (hd : o.data = .seq vs m) (hq : ∀ v ∈ vs.toList, Says P w (ofAClassStatement n) false s v) : Says P w (ofAClassStatement (n + 1)) false s (.ref a) := fun A E Q h => by
  have hT : s.TypeIs (.ref a) "tuple" := ⟨o, ho, hc⟩
  unfold ofAClassStatement
  refine wpAny_bind (wpAny_typeOf hT ?_)
  dsimp only
  rw [show (("tuple" : String) == "tuple") = true by decide]
  simp only [if_true, Bool.not_true, Bool.false_eq_true, if_false]
  try refine wpAny_bind (wpAny_pure ?_)
  try simp only [Bool.not_true, Bool.false_eq_true, if_false]
  show wpAny _ _ (seqItems? (.ref a) >>= _) _ _ s
  refine wpAny_bind (wpAny_seqItems ho hd ?_)
  dsimp only
  refine wpAny_bind ?_
  show wpAny _ _ (forIn vs _ _) _ _ s
  rw [← Array.forIn_toList]
  refine wpAny_forIn_list _ (fun rest r s' => r.1 = none ∧ s' = s ∧ ∀ v ∈ rest, Says P w (ofAClassStatement n) false s v) _ ?_ ?_ _ _ ⟨rfl, rfl, hq⟩
  · rintro v rest r s' ⟨hr, rfl, hall⟩
    refine wpAny_bind (hall v List.mem_cons_self _ _ _ ?_)
    simp only [Bool.false_eq_true, if_false]
    exact wpAny_pure ⟨rfl, rfl, fun u hu => hall u (List.mem_cons_of_mem _ hu)⟩
  · rintro ⟨r1, r2⟩ s' ⟨hr, rfl, _⟩
    simp only at hr
    subst hr
    exact wpAny_pure h
theorem worth_tuple {n : Nat} {s : Shared} {a : Addr} {o : Obj} {vs : Array Value} {m : Nat} (ho : s.heap.get? a = some o) (hc : o.cls = .type "tuple") (hd : o.data = .seq vs m) (hq : ∀ v ∈ vs.toList, Says P w (hashByValue n) true s v) : Says P w (hashByValue (n + 1)) true s (.ref a) := fun A E Q h => by
  have hT : s.TypeIs (.ref a) "tuple" := ⟨o, ho, hc⟩
  unfold hashByValue
  refine wpAny_bind (wpAny_specialOf hT F.slot_tuple_hash.lookup ?_)
  show wpAny _ _ (seqItems? (.ref a) >>= _) _ _ s
  refine wpAny_bind (wpAny_seqItems ho hd ?_)
  refine wpAny_bind ?_
  show wpAny _ _ (forIn vs _ _) _ _ s
  rw [← Array.forIn_toList]
  refine wpAny_forIn_list _ (fun rest r s' => r.1 = none ∧ s' = s ∧ ∀ v ∈ rest, Says P w (hashByValue n) true s v) _ ?_ ?_ _ _ ⟨rfl, rfl, hq⟩
  · rintro v rest r s' ⟨hr, rfl, hall⟩
    refine wpAny_bind (hall v List.mem_cons_self _ _ _ ?_)
    simp only [Bool.not_true, Bool.false_eq_true, if_false]
    exact wpAny_pure ⟨rfl, rfl, fun u hu => hall u (List.mem_cons_of_mem _ hu)⟩
  · rintro ⟨r1, r2⟩ s' ⟨hr, rfl, _⟩
    simp only at hr
    subst hr
    exact wpAny_pure h
mutual
theorem class_key : ∀ (k : NestedKey) (v : Value) (n : Nat) (s : Shared), NestedIs s.heap k v → numT k = true → k.depth ≤ n → Says P w (ofAClassStatement n) false s v
  | .none, _, n, s, x, hk, _ => by simp [numT] at hk
  | .text y, _, n, s, x, hk, _ => by simp [numT] at hk
  | .num i, _, n, s, x, _, _ => by cases x <;> exact .pure (by cases n <;> rfl)
  | .tup ks, _, n, s, x, hk, hn => by
    cases x with
    | tup hg hc hd ha =>
      simp only [NestedKey.depth] at hn
      rw [numT] at hk
      cases n with
      | zero => omega
      | succ n => exact class_tuple hg hc hd (class_keys ks _ n s ha hk (by omega))
theorem class_keys : ∀ (ks : List NestedKey) (vs : List Value) (n : Nat) (s : Shared), NestedAll s.heap ks vs → numTs ks = true → NestedKey.depthAll ks ≤ n → ∀ v ∈ vs, Says P w (ofAClassStatement n) false s v
  | [], _, n, s, x, _, _, v, hv => by cases x; cases hv
  | k :: ks, _, n, s, x, hk, hn, v, hv => by
    cases x with
    | cons x1 x2 =>
      simp only [NestedKey.depthAll] at hn
      rw [numTs, Bool.and_eq_true] at hk
      rcases List.mem_cons.mp hv with e | hv
      · rw [e]; exact class_key k _ n s x1 hk.1 (by omega)
      · exact class_keys ks _ n s x2 hk.2 (by omega) v hv
end
mutual
theorem worth_key : ∀ (k : NestedKey) (v : Value) (n : Nat) (s : Shared), NestedIs s.heap k v → numT k = true → k.depth ≤ n → Says P w (hashByValue n) true s v
  | .none, _, n, s, x, hk, _ => by simp [numT] at hk
  | .text y, _, n, s, x, hk, _ => by simp [numT] at hk
  | .num i, _, n, s, x, _, _ => by cases x <;> exact .pure (by cases n <;> rfl)
  | .tup ks, _, n, s, x, hk, hn => by
    cases x with
    | tup hg hc hd ha =>
      simp only [NestedKey.depth] at hn
      rw [numT] at hk
      cases n with
      | zero => omega
      | succ n => exact worth_tuple hg hc hd (worth_keys ks _ n s ha hk (by omega))
theorem worth_keys : ∀ (ks : List NestedKey) (vs : List Value) (n : Nat) (s : Shared), NestedAll s.heap ks vs → numTs ks = true → NestedKey.depthAll ks ≤ n → ∀ v ∈ vs, Says P w (hashByValue n) true s v
  | [], _, n, s, x, _, _, v, hv => by cases x; cases hv
  | k :: ks, _, n, s, x, hk, hn, v, hv => by
    cases x with
    | cons x1 x2 =>
      simp only [NestedKey.depthAll] at hn
      rw [numTs, Bool.and_eq_true] at hk
      rcases List.mem_cons.mp hv with e | hv
      · rw [e]; exact worth_key k _ n s x1 hk.1 (by omega)
      · exact worth_keys ks _ n s x2 hk.2 (by omega) v hv
end
variable {A : Around} {s : Shared}
/-- no search among such elements shows the table -/
theorem en_unseen {k : NestedKey} {b : Addr} {Q : Bool → Shared → Prop} (hk : EN s.heap k b) {ys : List Value} (hy : ∀ y ∈ ys, ∃ k' c, y = Value.ref c ∧ EN s.heap k' c) (h : Q false s) :
    wpAny (model P w) A (searchCouldBeSeen (.ref b) ys) Q E s := by
  unfold searchCouldBeSeen
  refine wpAny_bind ?_
  refine wpAny_forIn_list _ (fun rest r s' => r.1 = none ∧ s' = s ∧ ∀ y ∈ rest, ∃ k' c, y = Value.ref c ∧ EN s.heap k' c) _ ?_ ?_ _ _ ⟨rfl, rfl, hy⟩
  · rintro v rest r s' ⟨hr, rfl, hall⟩
    obtain ⟨k', c, rfl, hc⟩ := hall v List.mem_cons_self
    have tl : ∀ y ∈ rest, ∃ k' c, y = Value.ref c ∧ EN s'.heap k' c := fun u hu => hall u (List.mem_cons_of_mem _ hu)
    dsimp only
    by_cases hv : (b == c || (carriedByValue (.ref b) && carriedByValue (.ref c))) = true
    · exact wp_if_pos hv (wpAny_pure ⟨rfl, rfl, tl⟩)
    · refine wp_if_neg hv ?_
      refine wpAny_bind (quiet_key k _ 8 s' hk.1 hk.2.1 _ _ _ ?_)
      simp only [Bool.not_true, Bool.false_eq_true, if_false]
      refine wpAny_bind (quiet_key k' _ 8 s' hc.1 hc.2.1 _ _ _ ?_)
      simp only [Bool.not_true, Bool.false_eq_true, if_false]
      refine wpAny_bind (class_key k _ 8 s' hk.1 hk.2.2 hk.2.1 _ _ _ ?_)
      simp only [Bool.false_eq_true, if_false]
      refine wpAny_bind (class_key k' _ 8 s' hc.1 hc.2.2 hc.2.1 _ _ _ ?_)
      simp only [Bool.false_eq_true, if_false]
      exact wpAny_pure ⟨rfl, rfl, tl⟩
  · rintro ⟨r1, r2⟩ s' ⟨hr, rfl, _⟩
    simp only at hr
    subst hr
    exact wpAny_pure h
theorem en_eq {x y : NestedKey} {a b : Addr} {Q : Bool → Shared → Prop} (hu : A.units + 8 < cLine) (hx : EN s.heap x a) (hy : EN s.heap y b) (h : Q (decide (x = y)) s) : wpAny (model P w) A (eqBool (.ref a) (.ref b)) Q E s :=
  eqAt_key x y A s _ _ hx.1 hy.1 (by have := hx.2.1; omega) _ _ _ _ (by rw [← NestedKey.decide_eq]; exact h)
end
end DL
namespace DL
open PySem PySem.Spec PyProof.Rows L2 Lk
abbrev Els := List (Addr × NestedKey)
def erow (w : World) (p : Addr × NestedKey) : Int × Value := (p.2.hash w, Value.ref p.1)
def ehs (w : World) (L : Els) : List Int := L.map fun p => p.2.hash w
structure SN (w : World) (h : Heap) (a : Addr) (L : Els) (es : Array (Int × Value)) (ep : Nat) (t : SetTable) : Prop where
  ob : ∃ o, h.get? a = some o ∧ o.ExactSet ∧ o.data = .set es ep t
  rows : es.toList = L.map (erow w)
  tab : TabOk t (ehs w L)
  nd : (L.map (·.2)).Nodup
  els : ∀ p ∈ L, EN h p.2 p.1
  plain : t.plain = true
  led : w.params.followText "set-order" = true ∨ t.led = true
  room : L.length * 5 < t.mask * 3
  few : L.length < 77
section
variable {P : Program} {w : World} {A : Around} {E : Value → Shared → Prop} {s : Shared} {a : Addr} {L : Els} {es : Array (Int × Value)} {ep : Nat} {t : SetTable}
theorem rows_size (h : es.toList = L.map (erow w)) : es.size = L.length := by
  have := congrArg List.length h
  rwa [Array.length_toList, List.length_map] at this
theorem rows_at (h : es.toList = L.map (erow w)) {i : Nat} {p : Addr × NestedKey} (e : L[i]? = some p) : es[i]? = some (erow w p) := by
  rw [← Array.getElem?_toList, h, List.getElem?_map, e]
  rfl
theorem SN.size {h : Heap} (R : SN w h a L es ep t) : es.size = L.length := rows_size R.rows
theorem place_size {h : Heap} (R : SN w h a L es ep t) : t.place.size = L.length := by
  have := R.tab.sz
  rwa [ehs, List.length_map] at this
theorem SN.fits {h : Heap} (R : SN w h a L es ep t) : t.fits es.size = true := by
  have h1 := place_size R
  have h2 := R.size
  have h3 := R.room
  unfold SetTable.fits SetTable.fill
  rw [R.tab.dm, Bool.and_eq_true, beq_iff_eq, decide_eq_true_eq]
  show t.place.size = es.size ∧ t.place.size + 0 ≤ t.mask
  omega
theorem SN.sound {h : Heap} (R : SN w h a L es ep t) : ¬ t.gaveWay = true := by
  unfold SetTable.gaveWay
  rw [mask_odd R.tab.mok]
  decide
/-- the probe at step c of the way of hash x -/
abbrev step (m : Nat) (x : Int) (c : Nat) : SetTable.Probe := nth m (runAt m (SetTable.bits x % (m + 1)) (SetTable.bits x)) c
theorem step_add (m : Nat) (x : Int) (c q : Nat) : nth m (step m x c) q = step m x (c + q) := (nth_add m c _ q).symm
theorem step_j (m : Nat) (x : Int) (c q : Nat) : (nth m (step m x c) q).j = way m x (c + q) := congrArg SetTable.Probe.j (step_add m x c q)
theorem adv_dummy {m : Nat} {p : SetTable.Probe} (h : p.dummy = none) : (adv m p).dummy = none := by
  unfold adv
  split <;> exact h
theorem nth_dummy (m : Nat) : ∀ (n : Nat) (p : SetTable.Probe), p.dummy = none → (nth m p n).dummy = none
  | 0, _, h => h
  | n + 1, p, h => nth_dummy m n (adv m p) (adv_dummy h)
/-- where the i-th element sits lies ahead: at step c or behind -/
def Ahead (w : World) (L : Els) (t : SetTable) (k : NestedKey) (K c : Nat) : Prop := ∀ (i : Nat) (p : Addr × NestedKey), L[i]? = some p → p.2 = k → ∃ c', c ≤ c' ∧ c' < K ∧ t.place.toList[i]? = some (way t.mask (k.hash w) c')
theorem look_from (R : SN w s.heap a L es ep t) {x : Addr} {k : NestedKey} (hx : EN s.heap k x) (hu : A.units + 8 < cLine) {K : Nat} (hf : K < 10 * SetTable.turns t.mask)
    (h1 : way t.mask (k.hash w) K ∉ t.place.toList) (h2 : ∀ c, c < K → way t.mask (k.hash w) c ∈ t.place.toList) {Q : SetFound → Shared → Prop}
    (yes : k ∈ L.map (·.2) → Q (.there none) s) (no : k ∉ L.map (·.2) → Q (.free (way t.mask (k.hash w) K) false) s) :
    ∀ (f c : Nat) (stand : Option SetTable.Probe), stand.getD (t.probeStart (k.hash w)) = step t.mask (k.hash w) c → c ≤ K → K - c < f → Ahead w L t k K c →
      wpAny (model P w) A (setSearchFrom a (.ref x) (k.hash w) true f stand) Q E s
  | 0, c, stand, _, _, hb, _ => absurd hb (Nat.not_lt_zero _)
  | f + 1, c, stand, hst, hc, hb, ahead => by
    obtain ⟨o, ho, hex, hd⟩ := R.ob
    rw [setSearchFrom_succ]
    refine wpAny_bind (wpAny_setState_of ho hd R.fits ?_)
    dsimp only
    refine wp_if_neg R.sound ?_
    try refine wpAny_bind (wpAny_pure ?_)
    have atI : ∀ {i : Nat} {p : Addr × NestedKey}, L[i]? = some p → (es[i]?.map (·.1)).getD 0 = p.2.hash w := fun {i p} e => by
      rw [rows_at R.rows e]
      rfl
    have ck : c + (K - c) = K := by omega
    rcases go_spec t R.tab.ris R.tab.dm (fun i => (es[i]?.map (·.1)).getD 0) (k.hash w) (10 * SetTable.turns t.mask) (K - c) (step t.mask (k.hash w) c) (nth_dummy _ _ _ rfl) (by omega)
      (fun q hq => by rw [step_j]; exact h2 (c + q) (by omega)) (by rw [step_j, ck]; exact h1) with ⟨q, i, hq, hi, _, before, hp⟩ | ⟨none_, hp⟩
    · rw [step_j] at hi
      have hp' : t.probe (fun i => (es[i]?.map (·.1)).getD 0) (k.hash w) (stand.getD (t.probeStart (k.hash w))) = some (.candidate (way t.mask (k.hash w) (c + q)) i (step t.mask (k.hash w) (c + (q + 1)))) := by
        rw [hst, ← step_j, ← step_add]
        exact hp
      rw [hp']
      dsimp only
      have il : i < L.length := by
        have u1 := (List.getElem?_eq_some_iff.mp hi).1
        rw [Array.length_toList, place_size R] at u1
        exact u1
      obtain ⟨p, hpi⟩ : ∃ p, L[i]? = some p := ⟨_, List.getElem?_eq_getElem il⟩
      have pm := List.mem_of_getElem? hpi
      have live : t.slot (way t.mask (k.hash w) (c + q)) = .live i := slot_live R.tab.ris hi
      have rest : wpAny (model P w) A (searchRest a (.ref x) (k.hash w) true f es t (way t.mask (k.hash w) (c + q)) i (step t.mask (k.hash w) (c + (q + 1)))) Q E s := by
        unfold searchRest
        rw [rows_at R.rows hpi]
        dsimp only [erow]
        refine wpAny_bind (wpAny_holding (en_eq hu (R.els p pm) hx ?_))
        refine wpAny_bind (wpAny_setState_of ho hd R.fits ?_)
        dsimp only
        by_cases e : p.2 = k
        · exact wp_if_pos (by simp [e]) (wpAny_pure (yes (List.mem_map.mpr ⟨p, pm, e⟩)))
        · refine wp_if_neg (by simp [e]) ?_
          try refine wpAny_bind (wpAny_pure ?_)
          rw [sameMem]
          dsimp only
          simp only [if_true, live, rows_at R.rows hpi]
          dsimp only [erow]
          refine wpAny_bind (wpAny_isSame_ref_self (wpAny_bind (wpAny_pure ?_)))
          simp only [if_true]
          refine wp_if_neg (by simp [e]) ?_
          refine look_from R hx hu hf h1 h2 yes no f (c + (q + 1)) _ rfl (by omega) (by omega) fun i0 p0 e0 ek => ?_
          obtain ⟨c', u1, u2, u3⟩ := ahead i0 p0 e0 ek
          refine ⟨c', ?_, u2, u3⟩
          rcases Nat.lt_trichotomy c' (c + q) with z | z | z
          · exact absurd ((atI e0).trans (by rw [ek])) (before (c' - c) i0 (by omega) (by rw [step_j, show c + (c' - c) = c' by omega]; exact u3))
          · rw [z] at u3
            have l0 := slot_live R.tab.ris u3
            rw [live] at l0
            injection l0 with l0
            rw [← l0, hpi] at e0
            cases e0
            exact absurd ek e
          · omega
      by_cases hl : t.led = true
      · refine wp_if_neg (by simp [hl]) ?_
        try refine wpAny_bind (wpAny_pure ?_)
        exact rest
      · refine wp_if_pos (by simp [hl]) ?_
        refine wpAny_bind (en_unseen hx (fun y hy => ?_) ?_)
        · obtain ⟨e, he, rfl⟩ := List.mem_map.mp hy
          have he2 : e ∈ es := (by simpa using he : e ∈ es ∧ _).1
          have he3 : e ∈ es.toList := by simpa using he2
          rw [R.rows] at he3
          obtain ⟨r, hr, rfl⟩ := List.mem_map.mp he3
          exact ⟨r.2, r.1, rfl, R.els r hr⟩
        · refine wp_if_neg (by decide) ?_
          try refine wpAny_bind (wpAny_pure ?_)
          exact rest
    · have hp' : t.probe (fun i => (es[i]?.map (·.1)).getD 0) (k.hash w) (stand.getD (t.probeStart (k.hash w))) = some (.empty (way t.mask (k.hash w) K) none) := by
        have e2 : way t.mask (k.hash w) K = (nth t.mask (step t.mask (k.hash w) c) (K - c)).j := by rw [step_j, ck]
        rw [hst, e2]
        exact hp
      rw [hp']
      dsimp only
      refine wpAny_pure (no fun hm => ?_)
      obtain ⟨p0, m0, ek⟩ := List.mem_map.mp hm
      obtain ⟨i0, e0⟩ := List.mem_iff_getElem?.mp m0
      obtain ⟨c', u1, u2, u3⟩ := ahead i0 p0 e0 ek
      exact none_ (c' - c) i0 (by omega) (by rw [step_j, show c + (c' - c) = c' by omega]; exact u3) ((atI e0).trans (by rw [ek]))
/-- the search for an element -/
theorem look (R : SN w s.heap a L es ep t) {x : Addr} {k : NestedKey} (hx : EN s.heap k x) (hu : A.units + 8 < cLine) {Q : SetFound → Shared → Prop}
    (yes : k ∈ L.map (·.2) → Q (.there none) s)
    (no : ∀ K, k ∉ L.map (·.2) → way t.mask (k.hash w) K ∉ t.place.toList → (∀ c, c < K → way t.mask (k.hash w) c ∈ t.place.toList) → Q (.free (way t.mask (k.hash w) K) false) s) :
    wpAny (model P w) A (setSearch a (.ref x) (k.hash w) true) Q E s := by
  have hroom := R.room
  obtain ⟨K, hf, h1, h2⟩ := R.tab.first (by rw [ehs, List.length_map]; omega) (k.hash w)
  have big : K < 100000 := by
    have : 10 * SetTable.turns t.mask ≤ 1420 := by
      unfold SetTable.turns
      rcases R.tab.mok with e | e | e <;> omega
    omega
  unfold setSearch
  refine look_from R hx hu hf h1 h2 yes (fun hn => no K hn h1 h2) 100000 0 none rfl (Nat.zero_le _) (by omega) fun i p e ek => ?_
  have hi : (ehs w L)[i]? = some (k.hash w) := by rw [ehs, List.getElem?_map, e, ← ek]; rfl
  have il : i < t.place.toList.length := by
    have := (List.getElem?_eq_some_iff.mp e).1
    rw [Array.length_toList, place_size R]
    exact this
  have hj := List.getElem?_eq_getElem il
  obtain ⟨c, hc, ec⟩ := R.tab.before h1 hi hj
  exact ⟨c, Nat.zero_le _, hc, by rw [hj, ec]⟩
/-- the rows in another order -/
theorem rows_order (hr : es.toList = L.map (erow w)) (order : Array Nat) (hp : order.toList.Perm (List.range L.length)) :
    ∃ M : Els, (order.filterMap (es[·]?)).toList = M.map (erow w) ∧ M.Perm L ∧ ehs w M = order.toList.map fun i => (es.map (·.1)).getD i 0 := by
  have each : ∀ l : List Nat, (∀ i ∈ l, i < L.length) → ∃ M : Els, l.filterMap (fun i => es[i]?) = M.map (erow w) ∧ M = l.filterMap (fun i => L[i]?) ∧ ehs w M = l.map fun i => (es.map (·.1)).getD i 0 := by
    intro l
    induction l with
    | nil => intro _; exact ⟨[], rfl, rfl, rfl⟩
    | cons i l ih =>
      intro hl
      obtain ⟨M, e1, e2, e3⟩ := ih fun j hj => hl j (List.mem_cons_of_mem _ hj)
      obtain ⟨p, hpi⟩ : ∃ p, L[i]? = some p := ⟨_, List.getElem?_eq_getElem (hl i List.mem_cons_self)⟩
      have ei := rows_at hr hpi
      refine ⟨p :: M, ?_, ?_, ?_⟩
      · rw [List.filterMap_cons_some ei, e1]
        rfl
      · rw [List.filterMap_cons_some hpi, e2]
      · rw [List.map_cons, ← e3]
        have e4 : (es.map (·.1)).getD i 0 = p.2.hash w := by
          have e5 : (es.map (·.1))[i]? = some (p.2.hash w) := by rw [Array.getElem?_map, ei]; rfl
          simp [Array.getD_eq_getD_getElem?, e5]
        rw [e4]
        rfl
  obtain ⟨M, e1, e2, e3⟩ := each order.toList fun i hi => List.mem_range.mp (hp.mem_iff.mp hi)
  refine ⟨M, by first | (rw [Array.toList_filterMap]; exact e1) | simpa using e1, ?_, e3⟩
  have whole : ∀ n, n ≤ L.length → (List.range n).filterMap (fun i => L[i]?) = L.take n := by
    intro n
    induction n with
    | zero => intro _; rfl
    | succ n ih =>
      intro hn
      have e := List.getElem?_eq_getElem (show n < L.length from hn)
      rw [List.range_succ, List.filterMap_append, ih (Nat.le_of_succ_le hn), List.take_succ, e, List.filterMap_cons_some e]
      rfl
  have q := hp.filterMap fun i => L[i]?
  rw [whole _ (Nat.le_refl _), List.take_length, ← e2] at q
  exact q
/-- the table laid anew -/
theorem relay (P : Program) {A : Around} {E : Value → Shared → Prop} {o : Obj} (ho : s.heap.get? a = some o) (hex : o.ExactSet) (hd : o.data = .set es ep t) (hr : es.toList = L.map (erow w)) (hsz : t.place.size = es.size) (hdm : t.dummies = #[]) (hfl : es.size ≤ t.mask)
    (nd : (L.map (·.2)).Nodup) (els : ∀ p ∈ L, EN s.heap p.2 p.1) (pl : t.plain = true) (ld : w.params.followText "set-order" = true ∨ t.led = true) (few : L.length < 77) {wanted m : Nat}
    (hw : SetTable.sizeAbove wanted = m + 1) (hm : MaskOk m) (hn : L.length * 5 < m * 3) {Q : Unit → Shared → Prop}
    (hQ : ∀ h' M es' ep' t', Heap.SameBut a s.heap h' → SN w h' a M es' ep' t' → M.Perm L → Q () { s with heap := h' }) : wpAny (model P w) A (setRelay a wanted) Q E s := by
  have hsl := rows_size hr
  have m128 : m + 1 ≤ 128 := by rcases hm with e | e | e <;> omega
  have fits : t.fits es.size = true := by
    unfold SetTable.fits SetTable.fill
    rw [hdm, Bool.and_eq_true, beq_iff_eq, decide_eq_true_eq]
    show t.place.size = es.size ∧ t.place.size + 0 ≤ t.mask
    omega
  obtain ⟨t', order, e, hp, T, em, el, epl, _⟩ := relaid_ok t (hs := es.map (·.1)) (wanted := wanted) (M := m) (by omega) hm (by rw [Array.size_map, hsl]; omega)
  rw [Array.size_map, hsl] at hp
  obtain ⟨M, r1, r2, r3⟩ := rows_order hr order hp
  rw [← r3] at T
  have s2 : (order.filterMap (es[·]?)).size = es.size := by rw [rows_size r1, r2.length_eq, hsl]
  rw [setRelay_eq]
  refine wpAny_bind (wpAny_setState_of ho hd fits ?_)
  dsimp only
  refine wp_if_neg (by rw [sizeLine_eq]; omega) ?_
  try refine wpAny_bind (wpAny_pure ?_)
  rw [e]
  dsimp only
  refine wpAny_bind ?_
  refine wp_if_neg (by rw [s2]; simp) ?_
  try refine wpAny_bind (wpAny_pure ?_)
  refine wpAny_pure ?_
  dsimp only
  refine wpAny_storeSet_of ho hd ?_ (by rw [s2, hsl, sizeLine_eq]; omega)
  have sb : Heap.SameBut a s.heap (s.heap.update a (Obj.putSet (order.filterMap (es[·]?)) t')) := Heap.SameBut.update ..
  refine hQ _ M _ (ep + 1) t' sb ⟨⟨_, store_at ho hd, ⟨hex.1, hex.2.1, hex.2.2⟩, rfl⟩, r1, T, (r2.map (·.2)).nodup_iff.mpr nd, fun p hp => (els p (r2.mem_iff.mp hp)).but ho hd sb, by rw [epl]; exact pl, by rw [el]; exact ld, by rw [r2.length_eq, em]; exact hn, by rw [r2.length_eq]; exact few⟩ r2
/-- an element put in -/
theorem put_in (R : SN w s.heap a L es ep t) {x : Addr} {k : NestedKey} (hx : EN s.heap k x) (hu : A.units + 8 < cLine) (few : k ∉ L.map (·.2) → L.length + 1 < 77) {Q : Bool → Shared → Prop}
    (hQ : ∀ b h' M es' ep' t', Heap.SameBut a s.heap h' → SN w h' a M es' ep' t' → (k ∈ L.map (·.2) → M = L) → (k ∉ L.map (·.2) → M.Perm ((x, k) :: L)) → Q b { s with heap := h' }) :
    wpAny (model P w) A (setAddHashed a (.ref x) (k.hash w)) Q E s := by
  obtain ⟨o, ho, hex, hd⟩ := R.ob
  have hsl := R.size
  have hroom := R.room
  unfold setAddHashed
  refine wpAny_holding ?_
  rw [show (100000 : Nat) = 99999 + 1 from rfl, setAddHashedIn_succ]
  refine wpAny_bind (wpAny_setState_of ho hd R.fits ?_)
  dsimp only
  refine wp_if_neg (by simp [byScan, Value.scannable]) ?_
  try refine wpAny_bind (wpAny_pure ?_)
  refine wpAny_bind (look R hx hu (fun hm => ?_) fun K hm hK hb => ?_)
  · dsimp only
    exact wpAny_pure (hQ false s.heap L es ep t (Heap.SameBut.refl a s.heap) R (fun _ => rfl) fun z => absurd hm z)
  · have few' := few hm
    dsimp only
    refine wpAny_bind (wpAny_setState_of ho hd R.fits ?_)
    dsimp only
    obtain ⟨q1, q2, q3, q4, q5, q6, _, _, q9⟩ := R.tab.put hK hb
    have hpl : (t.put (way t.mask (k.hash w) K)).1.plain = true := by rw [q6]; exact R.plain
    generalize t.put (way t.mask (k.hash w) K) = pt at q1 q3 q4 q5 q6 q9 hpl ⊢
    obtain ⟨t1, p0⟩ := pt
    dsimp only at q1 q3 q4 q5 q6 q9 hpl ⊢
    subst q1
    have wk := worth_key (P := P) (w := w) k (.ref x) 8 s hx.1 hx.2.2 hx.2.1
    first
      | (refine wpAny_bind ?_; refine wp_if_pos hpl ?_; refine wk _ _ _ ?_)
      | refine wp_if_pos hpl (wpAny_bind (wk _ _ _ ?_))
    simp only [if_true]
    have hin : (SetTable.insertAt es (SetTable.below t.place (way t.mask (k.hash w) K)) (k.hash w, Value.ref x)).toList = (L.take (SetTable.below t.place (way t.mask (k.hash w) K)) ++ (x, k) :: L.drop (SetTable.below t.place (way t.mask (k.hash w) K))).map (erow w) := by
      rw [SetTable.toList_insertAt, R.rows, List.map_append, List.map_cons, List.map_take, List.map_drop]
      rfl
    generalize SetTable.below t.place (way t.mask (k.hash w) K) = p at q2 q3 hin ⊢
    have pm := put_perm L p (x, k)
    have hhs : ehs w (L.take p ++ (x, k) :: L.drop p) = (ehs w L).take p ++ k.hash w :: (ehs w L).drop p := by
      unfold ehs
      rw [List.map_append, List.map_cons, List.map_take, List.map_drop]
    rw [← hhs] at q3
    generalize L.take p ++ (x, k) :: L.drop p = L1 at pm q3 hin
    have l1 : L1.length = L.length + 1 := pm.length_eq
    have nd1 : (L1.map (·.2)).Nodup := by
      refine (pm.map (·.2)).nodup_iff.mpr ?_
      rw [List.map_cons]
      exact List.nodup_cons.mpr ⟨hm, R.nd⟩
    have hes := rows_size hin
    generalize SetTable.insertAt es p (k.hash w, Value.ref x) = es1 at hin hes ⊢
    refine wpAny_bind (wpAny_storeSet_of ho hd ?_ (by rw [hes, sizeLine_eq]; omega))
    have sb : Heap.SameBut a s.heap (s.heap.update a (Obj.putSet es1 t1)) := Heap.SameBut.update ..
    have ho1 := store_at (es' := es1) (t' := t1) ho hd
    generalize s.heap.update a (Obj.putSet es1 t1) = h1 at sb ho1 ⊢
    have els1 : ∀ p ∈ L1, EN h1 p.2 p.1 := fun p hp => by
      rcases List.mem_cons.mp (pm.mem_iff.mp hp) with e | hp
      · rw [e]; exact hx.but ho hd sb
      · exact (R.els p hp).but ho hd sb
    have ld1 : w.params.followText "set-order" = true ∨ t1.led = true := by rw [q5]; exact R.led
    have lh : (ehs w L).length = L.length := by rw [ehs, List.length_map]
    by_cases hf : t1.tooFull = true
    · first
        | (refine wpAny_bind ?_; refine wp_if_pos (by simp [hf]) ?_)
        | (refine wp_if_pos (by simp [hf]) ?_; refine wpAny_bind ?_)
      have full : (L.length + 1) * 5 ≥ t1.mask * 3 := by
        have h := hf
        unfold SetTable.tooFull at h
        rw [decide_eq_true_eq, q9, lh] at h
        exact h
      rw [hsl]
      have hsz1 : t1.place.size = es1.size := by
        have h := q3.sz
        rw [ehs, List.length_map] at h
        rw [h, hes]
      have go : ∀ m, SetTable.sizeAbove (SetTable.grown (L.length + 1)) = m + 1 → MaskOk m → L1.length ≤ t1.mask → (L.length + 1) * 5 < m * 3 →
          wpAny (model P w) A (setRelay a (SetTable.grown (L.length + 1))) (fun _ s' => wpAny (model P w) A (pure true) Q E s') E { s with heap := h1 } := fun m e1 e2 e3 e4 => by
        refine relay P (s := { s with heap := h1 }) ho1 ⟨hex.1, hex.2.1, hex.2.2⟩ rfl hin hsz1 q3.dm (by rw [hes]; exact e3) nd1 els1 hpl ld1 (by omega) e1 e2 (by omega) ?_
        intro h2 L2 es2 ep2 t2 sb2 R2 pm2
        exact wpAny_pure (hQ true h2 L2 es2 ep2 t2 (sb.trans sb2) R2 (fun z => absurd z hm) fun _ => pm2.trans pm)
      rcases R.tab.mok with e | e | e
      · have e4 : L.length = 4 := by rw [q4, e] at full; rw [e] at hroom; omega
        exact go 31 (by rw [e4, size_20]) (.inr (.inl rfl)) (by rw [q4, e, l1]; omega) (by omega)
      · have e4 : L.length = 18 := by rw [q4, e] at full; rw [e] at hroom; omega
        exact go 127 (by rw [e4, size_76]) (.inr (.inr rfl)) (by rw [q4, e, l1]; omega) (by omega)
      · exfalso
        rw [q4, e] at full
        omega
    · first
        | refine wp_if_neg (by simp [hf]) ?_
        | (refine wpAny_bind ?_; refine wp_if_neg (by simp [hf]) ?_; refine wpAny_pure ?_)
      refine wpAny_pure (hQ true h1 L1 es1 (ep + 1) t1 sb ⟨⟨_, ho1, ⟨hex.1, hex.2.1, hex.2.2⟩, rfl⟩, hin, q3, nd1, els1, hpl, ld1, ?_, by omega⟩ (fun z => absurd z hm) fun _ => pm)
      have h := hf
      unfold SetTable.tooFull at h
      rw [decide_eq_true_eq, q9, lh] at h
      rw [l1]
      omega
end
end DL
namespace DL
open PySem PySem.Spec PyProof.Rows L2 Lk
abbrev dlt (x y : PyData) : Bool := PySem.W.dataLt x y
theorem dlt_irr (x : PyData) : dlt x x = false := lex_irrefl _
theorem dlt_tr {x y z : PyData} (h1 : dlt x y = true) (h2 : dlt y z = true) : dlt x z = true := lex_trans _ _ _ h1 h2
mutual
theorem keyN_eqv : ∀ {x y : PyData} {k l : NestedKey}, keyN x = some k → keyN y = some l → PyData.eqv x y = true → x = y
  | .int i, y, k, l, h, h', e => by
    cases y with
    | int j =>
      simp only [PyData.eqv, beq_iff_eq] at e
      rw [e]
    | tuple _ => simp [PyData.eqv] at e
    | none => simp [keyN] at h'
    | bool _ => simp [keyN] at h'
    | str _ => simp [keyN] at h'
    | list _ => simp [keyN] at h'
    | dict _ => simp [keyN] at h'
  | .tuple ds, y, k, l, h, h', e => by
    cases y with
    | tuple es =>
      rw [keyN] at h h'
      obtain ⟨ks, h1, _⟩ := Option.map_eq_some_iff.mp h
      obtain ⟨ls, h2, _⟩ := Option.map_eq_some_iff.mp h'
      rw [PyData.eqv] at e
      rw [keyNs_eqv h1 h2 e]
    | int _ => simp [PyData.eqv] at e
    | none => simp [keyN] at h'
    | bool _ => simp [keyN] at h'
    | str _ => simp [keyN] at h'
    | list _ => simp [keyN] at h'
    | dict _ => simp [keyN] at h'
  | .none, y, k, l, h, h', e => by simp [keyN] at h
  | .bool _, y, k, l, h, h', e => by simp [keyN] at h
  | .str _, y, k, l, h, h', e => by simp [keyN] at h
  | .list _, y, k, l, h, h', e => by simp [keyN] at h
  | .dict _, y, k, l, h, h', e => by simp [keyN] at h
theorem keyNs_eqv : ∀ {x y : List PyData} {k l : List NestedKey}, keyNs x = some k → keyNs y = some l → PyData.eqvAll x y = true → x = y
  | [], y, k, l, h, h', e => by
    cases y with
    | nil => rfl
    | cons _ _ => simp [PyData.eqvAll] at e
  | d :: ds, y, k, l, h, h', e => by
    cases y with
    | nil => simp [PyData.eqvAll] at e
    | cons c cs =>
      rw [keyNs] at h h'
      obtain ⟨a, h1, h2⟩ := Option.bind_eq_some_iff.mp h
      obtain ⟨as, h3, _⟩ := Option.map_eq_some_iff.mp h2
      obtain ⟨b, h4, h5⟩ := Option.bind_eq_some_iff.mp h'
      obtain ⟨bs, h6, _⟩ := Option.map_eq_some_iff.mp h5
      rw [PySem.W.eqv_all_cons, Bool.and_eq_true] at e
      rw [keyN_eqv h1 h4 e.1, keyNs_eqv h3 h6 e.2]
end
mutual
theorem data_keyN : ∀ {d : PyData} {k : NestedKey}, keyN d = some k → k.data = d
  | .int i, k, h => by
    rw [keyN] at h
    cases h
    rw [NestedKey.data]
  | .tuple ds, k, h => by
    rw [keyN] at h
    obtain ⟨ks, h1, rfl⟩ := Option.map_eq_some_iff.mp h
    rw [NestedKey.data, datas_keyN h1]
  | .none, k, h => by simp [keyN] at h
  | .bool _, k, h => by simp [keyN] at h
  | .str _, k, h => by simp [keyN] at h
  | .list _, k, h => by simp [keyN] at h
  | .dict _, k, h => by simp [keyN] at h
theorem datas_keyN : ∀ {ds : List PyData} {ks : List NestedKey}, keyNs ds = some ks → NestedKey.datas ks = ds
  | [], ks, h => by
    rw [keyNs] at h
    cases h
    rw [NestedKey.datas]
  | d :: ds, ks, h => by
    rw [keyNs] at h
    obtain ⟨k, h1, h2⟩ := Option.bind_eq_some_iff.mp h
    obtain ⟨ks', h3, rfl⟩ := Option.map_eq_some_iff.mp h2
    rw [NestedKey.datas, data_keyN h1, datas_keyN h3]
end
mutual
/-- numbers and tuples read off no list -/
theorem keyN_reads {h : Heap} : ∀ {d : PyData} {k : NestedKey} {v : Value} {as : List Addr}, keyN d = some k → Reads h v d as → as = []
  | .int i, k, v, as, _, r => by cases r; rfl
  | .tuple ds, k, v, as, hk, r => by
    rw [keyN] at hk
    obtain ⟨ks, h1, _⟩ := Option.map_eq_some_iff.mp hk
    cases r with
    | tuple _ _ _ ra => exact keyNs_reads h1 ra
  | .none, k, _, _, hk, _ => by simp [keyN] at hk
  | .bool _, k, _, _, hk, _ => by simp [keyN] at hk
  | .str _, k, _, _, hk, _ => by simp [keyN] at hk
  | .list _, k, _, _, hk, _ => by simp [keyN] at hk
  | .dict _, k, _, _, hk, _ => by simp [keyN] at hk
theorem keyNs_reads {h : Heap} : ∀ {ds : List PyData} {ks : List NestedKey} {vs : List Value} {as : List Addr}, keyNs ds = some ks → ReadsAll h vs ds as → as = []
  | [], ks, vs, as, _, r => by cases r; rfl
  | d :: ds, ks, vs, as, hk, r => by
    rw [keyNs] at hk
    obtain ⟨k, h1, h2⟩ := Option.bind_eq_some_iff.mp hk
    obtain ⟨ks', h3, _⟩ := Option.map_eq_some_iff.mp h2
    cases r with
    | cons a b =>
      rw [keyN_reads h1 a, keyNs_reads h3 b]
      rfl
end
theorem toks_inj {x y : PyData} {k l : NestedKey} (al : PySem.W.alike x y = true) (hx : keyN x = some k) (hy : keyN y = some l) (e : PySem.W.keyToks x = PySem.W.keyToks y) : x = y := by
  cases ev : PyData.eqv x y with
  | true => exact keyN_eqv hx hy ev
  | false =>
    have q := (PySem.W.toks_eqv x y al).2 ev [] [.inl 0]
    rw [e, PySem.W.lex_pre, lex_irrefl] at q
    exact absurd q (by decide)
theorem dlt_tri {x y : PyData} {k l : NestedKey} (al : PySem.W.alike x y = true) (hx : keyN x = some k) (hy : keyN y = some l) (h1 : dlt x y = false) (h2 : dlt y x = false) : x = y :=
  toks_inj al hx hy (lex_total _ _ h1 h2)
def insN (k : PyData) : List PyData → List PyData
  | [] => [k]
  | x :: xs => if dlt k x = true then k :: x :: xs else if dlt x k = true then x :: insN k xs else x :: xs
def ordN (l : List PyData) : List PyData := l.foldl (fun a k => insN k a) []
/-- data of which no two unlike ones stand level -/
def Level (G : PyData → Prop) : Prop := ∀ x y, G x → G y → dlt x y = false → dlt y x = false → x = y
theorem mem_insN {G : PyData → Prop} (T : Level G) {k j : PyData} (hk : G k) : ∀ {l : List PyData}, (∀ x ∈ l, G x) → (j ∈ insN k l ↔ j = k ∨ j ∈ l)
  | [], _ => by simp [insN]
  | x :: xs, h => by
    rw [insN]
    split
    · simp
    · split
      · rw [List.mem_cons, mem_insN T hk fun y hy => h y (List.mem_cons_of_mem _ hy), List.mem_cons]
        constructor
        · rintro (h | h | h)
          · exact .inr (.inl h)
          · exact .inl h
          · exact .inr (.inr h)
        · rintro (h | h | h)
          · exact .inr (.inl h)
          · exact .inl h
          · exact .inr (.inr h)
      · rename_i h1 h2
        have e : k = x := T k x hk (h x List.mem_cons_self) (by simpa using h1) (by simpa using h2)
        subst e
        simp
theorem insN_up {G : PyData → Prop} (T : Level G) {k : PyData} (hk : G k) : ∀ {l : List PyData}, (∀ x ∈ l, G x) → l.Pairwise (fun x y => dlt x y = true) → (insN k l).Pairwise (fun x y => dlt x y = true)
  | [], _, _ => by simp [insN]
  | x :: xs, hG, h => by
    have h' := List.pairwise_cons.mp h
    rw [insN]
    split
    · rename_i hk'
      refine List.pairwise_cons.mpr ⟨fun y hy => ?_, h⟩
      rcases List.mem_cons.mp hy with e | hy
      · rw [e]; exact hk'
      · exact dlt_tr hk' (h'.1 y hy)
    · split
      · rename_i h2
        refine List.pairwise_cons.mpr ⟨fun y hy => ?_, insN_up T hk (fun y hy => hG y (List.mem_cons_of_mem _ hy)) h'.2⟩
        rcases (mem_insN T hk fun y hy => hG y (List.mem_cons_of_mem _ hy)).mp hy with e | hy
        · rw [e]; exact h2
        · exact h'.1 y hy
      · exact h
theorem foldN {G : PyData → Prop} (T : Level G) : ∀ (l a : List PyData), (∀ x ∈ l, G x) → (∀ x ∈ a, G x) → a.Pairwise (fun x y => dlt x y = true) →
    (l.foldl (fun a k => insN k a) a).Pairwise (fun x y => dlt x y = true) ∧ ∀ j, j ∈ l.foldl (fun a k => insN k a) a ↔ j ∈ a ∨ j ∈ l
  | [], a, _, _, h => ⟨h, fun j => by simp⟩
  | k :: l, a, hl, ha, h => by
    have hk := hl k List.mem_cons_self
    obtain ⟨h1, h2⟩ := foldN T l (insN k a) (fun x hx => hl x (List.mem_cons_of_mem _ hx)) (fun x hx => by
      rcases (mem_insN T hk ha).mp hx with e | hx
      · rw [e]; exact hk
      · exact ha x hx) (insN_up T hk ha h)
    refine ⟨h1, fun j => ?_⟩
    rw [List.foldl_cons, h2, mem_insN T hk ha, List.mem_cons]
    constructor
    · rintro ((h | h) | h)
      · exact .inr (.inl h)
      · exact .inl h
      · exact .inr (.inr h)
    · rintro (h | h | h)
      · exact .inl (.inr h)
      · exact .inl (.inl h)
      · exact .inr h
theorem up_uniq : ∀ {l m : List PyData}, l.Pairwise (fun x y => dlt x y = true) → m.Pairwise (fun x y => dlt x y = true) → (∀ j, j ∈ l ↔ j ∈ m) → l = m
  | [], [], _, _, _ => rfl
  | [], x :: _, _, _, h => absurd ((h x).mpr List.mem_cons_self) (by simp)
  | x :: _, [], _, _, h => absurd ((h x).mp List.mem_cons_self) (by simp)
  | x :: l, y :: m, h1, h2, h => by
    have h1' := List.pairwise_cons.mp h1
    have h2' := List.pairwise_cons.mp h2
    have no : ∀ {a b : PyData}, dlt a b = true → dlt b a = true → False := fun {a b} p q => by
      have := dlt_tr p q
      rw [dlt_irr] at this
      cases this
    have ne : ∀ {a : PyData}, dlt a a = true → False := fun {a} p => by
      rw [dlt_irr] at p
      cases p
    have e : x = y := by
      rcases List.mem_cons.mp ((h x).mp List.mem_cons_self) with e | e
      · exact e
      · rcases List.mem_cons.mp ((h y).mpr List.mem_cons_self) with e' | e'
        · exact e'.symm
        · exact (no (h1'.1 y e') (h2'.1 x e)).elim
    subst e
    rw [up_uniq h1'.2 h2'.2 fun j => ⟨fun hj => by
      rcases List.mem_cons.mp ((h j).mp (List.mem_cons_of_mem _ hj)) with e | e
      · rw [e] at hj
        exact (ne (h1'.1 x hj)).elim
      · exact e, fun hj => by
      rcases List.mem_cons.mp ((h j).mpr (List.mem_cons_of_mem _ hj)) with e | e
      · rw [e] at hj
        exact (ne (h2'.1 x hj)).elim
      · exact e⟩]
def okN1 : PyData → Bool
  | .tuple (x :: r) => match keyN (.tuple (x :: r)) with
    | some k => decide (k.depth ≤ 8) && decide (PyData.depth (.tuple (x :: r)) ≤ 8)
    | none => false
  | _ => false
def okN (ds : List PyData) : Bool := ds.all okN1 && ds.all fun x => ds.all fun y => PySem.W.alike x y
theorem okN1_some {d : PyData} (h : okN1 d = true) : ∃ k x r, d = .tuple (x :: r) ∧ keyN d = some k ∧ k.depth ≤ 8 ∧ d.depth ≤ 8 := by
  unfold okN1 at h
  split at h
  · rename_i x r
    split at h
    · rename_i k hk
      rw [Bool.and_eq_true, decide_eq_true_eq, decide_eq_true_eq] at h
      exact ⟨k, x, r, rfl, hk, h.1, h.2⟩
    · cases h
  · cases h
theorem okN_all {ds : List PyData} (h : okN ds = true) : (∀ d ∈ ds, okN1 d = true) ∧ ∀ x ∈ ds, ∀ y ∈ ds, PySem.W.alike x y = true := by
  unfold okN at h
  rw [Bool.and_eq_true, List.all_eq_true, List.all_eq_true] at h
  exact ⟨h.1, fun x hx => List.all_eq_true.mp (h.2 x hx)⟩
theorem okN_level {ds : List PyData} (h : okN ds = true) : Level (· ∈ ds) := by
  obtain ⟨h1, h2⟩ := okN_all h
  intro x y hx hy a b
  obtain ⟨k, _, _, _, kx, _⟩ := okN1_some (h1 x hx)
  obtain ⟨l, _, _, _, ly, _⟩ := okN1_some (h1 y hy)
  exact dlt_tri (h2 x hx y hy) kx ly a b
theorem ordN_up {ds : List PyData} (h : okN ds = true) : (ordN ds).Pairwise (fun x y => dlt x y = true) := (foldN (okN_level h) ds [] (fun _ h => h) (fun _ h => by simp at h) List.Pairwise.nil).1
theorem mem_ordN {ds : List PyData} (h : okN ds = true) {d : PyData} : d ∈ ordN ds ↔ d ∈ ds := by
  rw [show ordN ds = ds.foldl (fun a k => insN k a) [] from rfl, (foldN (okN_level h) ds [] (fun _ h => h) (fun _ h => by simp at h) List.Pairwise.nil).2 d]
  simp
def sortNM : PyData → Option (List PyData)
  | .list ds => if okN ds = true ∧ (ordN ds).length < 77 then some (ordN ds) else none
  | _ => none
theorem ordN_is {ds R : List PyData} (h : okN ds = true) (up : R.Pairwise (fun x y => dlt x y = true)) (m : ∀ d, d ∈ R ↔ d ∈ ds) : ordN ds = R := up_uniq (ordN_up h) up fun j => by rw [mem_ordN h, m]
theorem sortNM_is {ds R : List PyData} (h : okN ds = true) (up : R.Pairwise (fun x y => dlt x y = true)) (m : ∀ d, d ∈ R ↔ d ∈ ds) (few : R.length < 77) : sortNM (.list ds) = some R := by
  have e := ordN_is h up m
  show (if okN ds = true ∧ (ordN ds).length < 77 then some (ordN ds) else none) = some R
  rw [e, if_pos ⟨h, few⟩]
def mSortN (m : M PyData) : M (List PyData) := m.bind fun d => M.lift (sortNM d)
@[simp] theorem e_sortN {m : M PyData} {r : En} : mSortN m r = M.bind m (fun d => M.lift (sortNM d)) r := rfl
/-- one list within another, its items unlike, is no longer -/
theorem nodup_within {α : Type} [DecidableEq α] : ∀ (l m : List α), l.Nodup → (∀ x ∈ l, x ∈ m) → l.length ≤ m.length
  | [], _, _, _ => Nat.zero_le _
  | x :: l, m, hn, hs => by
    obtain ⟨h1, h2⟩ := List.nodup_cons.mp hn
    have hx : x ∈ m := hs x List.mem_cons_self
    have ih := nodup_within l (m.erase x) h2 fun y hy => (List.mem_erase_of_ne (fun e => h1 (by rw [← e]; exact hy))).2 (hs y (List.mem_cons_of_mem _ hy))
    have e := List.length_erase_of_mem hx
    have hp : 0 < m.length := List.length_pos_of_mem hx
    rw [List.length_cons]
    omega
end DL
namespace DL
open PySem PySem.Spec PyProof.Rows L2 Lk
/-- what the set has of the first i -/
structure Gt (ks : Els) (i : Nat) (L : Els) : Prop where
  sub : ∀ p ∈ L, p ∈ ks.take i
  all : ∀ p ∈ ks.take i, p.2 ∈ L.map (·.2)
theorem Gt.zero (ks : Els) : Gt ks 0 [] := ⟨fun p h => (by cases h), fun p h => (by simp at h)⟩
theorem Gt.same {ks L : Els} {i : Nat} {x : Addr × NestedKey} (g : Gt ks i L) (h : ks[i]? = some x) (hm : x.2 ∈ L.map (·.2)) : Gt ks (i + 1) L := by
  have e : ks.take (i + 1) = ks.take i ++ [x] := take_next h
  refine ⟨fun p hp => by rw [e]; exact List.mem_append_left _ (g.sub p hp), fun p hp => ?_⟩
  rw [e] at hp
  rcases List.mem_append.mp hp with z | z
  · exact g.all p z
  · rw [List.mem_singleton.mp z]; exact hm
theorem Gt.more {ks L M : Els} {i : Nat} {x : Addr × NestedKey} (g : Gt ks i L) (h : ks[i]? = some x) (pm : M.Perm (x :: L)) : Gt ks (i + 1) M := by
  have e : ks.take (i + 1) = ks.take i ++ [x] := take_next h
  refine ⟨fun p hp => ?_, fun p hp => ?_⟩
  · rw [e]
    rcases List.mem_cons.mp (pm.mem_iff.mp hp) with z | z
    · rw [z]; exact List.mem_append_right _ List.mem_cons_self
    · exact List.mem_append_left _ (g.sub p z)
  · rw [(pm.map (·.2)).mem_iff, List.map_cons]
    rw [e] at hp
    rcases List.mem_append.mp hp with z | z
    · exact List.mem_cons_of_mem _ (g.all p z)
    · rw [List.mem_singleton.mp z]; exact List.mem_cons_self
/-- less than 64 unlike keys -/
def Few (ks : Els) : Prop := ∀ M : List NestedKey, M.Nodup → (∀ k ∈ M, k ∈ ks.map (·.2)) → M.length < 77
section
variable {P : Program} {w : World} {A : Around} {E : Value → Shared → Prop} {s : Shared}
theorem SN.moves {h h' : Heap} {a : Addr} {L : Els} {es : Array (Int × Value)} {ep : Nat} {t : SetTable} (R : SN w h a L es ep t) (ha : ∀ o, h.get? a = some o → h'.get? a = some o) (hl : ∀ p ∈ L, EN h' p.2 p.1) : SN w h' a L es ep t := by
  obtain ⟨o, ho, r⟩ := R.ob
  exact ⟨⟨o, ha o ho, r⟩, R.rows, R.tab, R.nd, hl, R.plain, R.led, R.room, R.few⟩
theorem sn_fresh {h : Heap} {a : Addr} (ho : h.get? a = some { cls := .type "set", dict := none, data := .set #[] 0 (.fresh 0 0 (!w.params.followText "set-order")) }) : SN w h a [] #[] 0 (.fresh 0 0 (!w.params.followText "set-order")) where
  ob := ⟨_, ho, ⟨rfl, rfl, rfl⟩, rfl⟩
  rows := rfl
  tab := ⟨List.Pairwise.nil, rfl, rfl, .inl rfl, fun x hx => (by cases hx), fun i h j hi => (by simp [ehs] at hi)⟩
  nd := List.nodup_nil
  els := fun p hp => (by cases hp)
  plain := rfl
  led := by
    show _ ∨ (!w.params.followText "set-order") = true
    cases w.params.followText "set-order"
    · exact .inr rfl
    · exact .inl rfl
  room := by
    show 0 * 5 < 7 * 3
    decide
  few := by decide
theorem fill_sn {R : Result → Shared → Prop} {I : Addr} {fp wr : List Addr} {G : Array GenState → Array GenState → Prop} {Pv : Nat → Value → Prop} {St : Nat → Shared → Prop} {ks : Els} (W : WalksS P w A.in1 I fp wr G ks.length Pv St) (S : Addr) (hSf : S ∉ fp)
    (hval : ∀ i v, Pv i v → ∃ p, ks[i]? = some p ∧ v = .ref p.1) (few : Few ks) (h0 : Heap) (hk : ∀ p ∈ ks, EN h0 p.2 p.1) (hS0 : h0.get? S = none) (hw0 : ∀ b ∈ wr, h0.get? b = none) (hu : A.in1.units + 8 < cLine) :
    ∀ (n i : Nat) (s : Shared), ks.length - i = n → i ≤ ks.length → St i s → (∀ b o, h0.get? b = some o → s.heap.get? b = some o) → (∃ L es ep t, SN w s.heap S L es ep t ∧ Gt ks i L) →
      (∀ s' L es ep t, Moved (S :: wr) G s s' → SN w s'.heap S L es ep t → Gt ks ks.length L → (∀ b o, h0.get? b = some o → s'.heap.get? b = some o) → R (.ok (.ret .none)) s') →
      codeAny (model P w) A (.builtin "set.update.loop" ⟨[.ref S, .ref I], []⟩) R s := by
  have off : S ∉ wr := fun h => hSf (W.sub _ h)
  have inc : ∀ b ∈ wr, b ∈ S :: wr := fun b hb => List.mem_cons_of_mem _ hb
  have still : ∀ {s s' : Shared}, Moved wr G s s' → (∀ b o, h0.get? b = some o → s.heap.get? b = some o) → ∀ b o, h0.get? b = some o → s'.heap.get? b = some o := fun hm kp b o e =>
    hm.heap b o (fun z => by rw [hw0 b z] at e; cases e) (kp b o e)
  intro n
  induction n with
  | zero =>
    intro i s hn hi hst kp ⟨L, es, ep, t, hS, g⟩ hR
    obtain rfl : i = ks.length := by omega
    refine codeAny_builtin F.entry_set_update_loop ?_
    rw [Around.under_plainId F.plain_set_update_loop _]
    show wpAny _ A.in1 (pyNext (.ref I) >>= _) _ _ s
    refine wpAny_bind (W.done s _ _ hst fun s' hm => ?_)
    show wpAny _ A.in1 (ret Value.none) _ _ s'
    have kp' := still hm kp
    exact wpAny_pure (hR s' L es ep t (hm.mono inc) (hS.moves (fun o ho => hm.heap S _ off ho) fun p hp => (hk p (List.mem_of_mem_take (g.sub p hp))).keep kp') g kp')
  | succ n ih =>
    intro i s hn hi hst kp ⟨L, es, ep, t, hS, g⟩ hR
    have hlt : i < ks.length := by omega
    refine codeAny_builtin F.entry_set_update_loop ?_
    rw [Around.under_plainId F.plain_set_update_loop _]
    show wpAny _ A.in1 (pyNext (.ref I) >>= _) _ _ s
    refine wpAny_bind (W.item i s _ _ hlt hst fun v s' hP hst' hm => ?_)
    obtain ⟨p, hp, rfl⟩ := hval i v hP
    have kp' := still hm kp
    have sub : ∀ q ∈ L, q ∈ ks := fun q hq => List.mem_of_mem_take (g.sub q hq)
    have hS' : SN w s'.heap S L es ep t := hS.moves (fun o ho => hm.heap S _ off ho) fun q hq => (hk q (sub q hq)).keep kp'
    have hx : EN s'.heap p.2 p.1 := (hk p (List.mem_of_getElem? hp)).keep kp'
    show wpAny _ A.in1 (holding [Value.ref p.1] (setAdd S (.ref p.1)) >>= _) _ _ s'
    refine wpAny_bind (wpAny_holding ?_)
    unfold setAdd
    refine wpAny_holding ?_
    refine wpAny_bind (pyHash_key p.2 (.ref p.1) A.in1 s' _ hx.1 (by have := hx.2.1; omega) ?_)
    refine put_in (s := { s' with toks := s'.toks + p.2.draws }) hS' hx hu (fun hn => ?_) fun b h' M es' ep' t' sb hM c1 c2 => ?_
    · have := few (p.2 :: L.map (·.2)) (List.nodup_cons.mpr ⟨hn, hS.nd⟩) fun k hk' => by
        rcases List.mem_cons.mp hk' with e | hk'
        · rw [e]; exact List.mem_map.mpr ⟨p, List.mem_of_getElem? hp, rfl⟩
        · obtain ⟨q, hq, e⟩ := List.mem_map.mp hk'
          exact List.mem_map.mpr ⟨q, sub q hq, e⟩
      simpa using this
    · have g' : Gt ks (i + 1) M := by
        rcases Classical.em (p.2 ∈ L.map (·.2)) with c | c
        · rw [c1 c]; exact g.same hp c
        · exact g.more hp (c2 c)
      have kp2 : ∀ b o, h0.get? b = some o → h'.get? b = some o := fun b o e => (sb.2 b (fun z => by rw [z, hS0] at e; cases e)).trans (kp' b o e)
      refine wpAny_pure ⟨plainId_quiet F.plain_set_update_loop _, ih (i + 1) _ (by omega) hlt (W.frame _ s' _ _ hst' (Nat.le_add_right _ _) fun b hb o e => ?_) kp2 ⟨M, es', ep', t', hM, g'⟩ fun s'' M2 es2 ep2 t2 hm'' hS'' g'' kp'' => ?_⟩
      · rw [sb.2 b (fun h : b = S => hSf (by rw [← h]; exact hb))]; exact e
      · refine hR s'' M2 es2 ep2 t2 (Moved.trans W.gtrans ((hm.mono inc).then_heap (Nat.le_add_right _ _) fun b o hb e => ?_) hm'') hS'' g'' kp''
        rw [sb.2 b (fun h : b = S => hb (by rw [h]; exact List.mem_cons_self))]; exact e
set_option maxHeartbeats 3200000 in
/-- set(xs) -/
theorem set_of_sn {l : Addr} {items : Array Value} (ks : Els) {Q : Value → Shared → Prop} (hh : A.handled = none) (hl : s.heap.IsList l items) (hit : items.toList = ks.map fun p => Value.ref p.1) (hk : ∀ p ∈ ks, EN s.heap p.2 p.1) (few : Few ks) (hu : A.units + 16 < cLine)
    (h : ∀ (h' : Heap) (tk : Nat) L es ep t, SN w h' s.heap.objs.size L es ep t → Gt ks ks.length L → (∀ b o, s.heap.get? b = some o → h'.get? b = some o) → Q (.ref s.heap.objs.size) { s with heap := h', toks := tk }) :
    wpAny (model P w) A (call (.type "set") [.ref l]) Q E s := by
  have hisz : items.size = ks.length := by
    have q := congrArg List.length hit
    rwa [Array.length_toList, List.length_map] at q
  obtain ⟨c, tl, hmro⟩ := F.called_set.mro
  have hmade := F.called_set.made
  have hsub := F.called_set.sub
  refine wpAny_call (codeAny_of_tree ?_)
  show wpAny _ _ (callAny (.type "set") _) _ _ _
  refine wpAny_pure ⟨Code.quiet_builtin _ (by decide +kernel), codeAny_builtin F.entry_type_call ?_⟩
  rw [Around.under_plain (weight_type_call_type "set" [.ref l] []) rfl]
  have h1 := F.called_set.notType
  have h2 := F.called_set.canCreate
  have hct := F.typeCall_set_1 (.ref l)
  repeat (any_goals (first | assumption | wp_step))
  generalize eO : (!w.params.followText "set-order") = led
  refine codeAny_mono (code_set_one (.ref l) (E := E) (Q := fun obj s₁ => obj = .ref s.heap.objs.size ∧ s₁ = { s with heap := s.heap.push ({ cls := .type "set", dict := none, data := .set #[] 0 (.fresh 0 0 led) } : Obj) }) (by rw [eO]; exact ⟨rfl, rfl⟩)) fun r s₁ hr => ?_
  cases r with
  | error e => exact hr
  | ok fl =>
    cases fl with
    | ret obj =>
      obtain ⟨rfl, rfl⟩ := hr
      have hS : (s.heap.push ({ cls := .type "set", dict := none, data := .set #[] 0 (.fresh 0 0 led) } : Obj)).get? s.heap.objs.size = some ({ cls := .type "set", dict := none, data := .set #[] 0 (.fresh 0 0 led) } : Obj) := Heap.get?_push_size _ rfl
      have hT : Shared.TypeIs { s with heap := s.heap.push ({ cls := .type "set", dict := none, data := .set #[] 0 (.fresh 0 0 led) } : Obj) } (.ref s.heap.objs.size) "set" := ⟨_, hS, rfl⟩
      have hli := F.called_set.init.lookup
      have hbi := F.called_set.init.bind (.ref s.heap.objs.size)
      repeat (any_goals (first | assumption | wp_step))
      refine codeAny_mono (codeAny_call_builtin (R := wants (fun r s₂ => r = .none ∧ ∃ h' tk L es ep t, s₂ = { s with heap := h', toks := tk } ∧ SN w h' s.heap.objs.size L es ep t ∧ Gt ks ks.length L ∧
          (∀ b o, s.heap.get? b = some o → h'.get? b = some o)) E) F.called_set.init.plain F.entry_set_init (check_set_init_1 hT ?_)) fun r₂ s₂ hr₂ => ?_
      · obtain ⟨ol, hol, hcl, nl, hdl⟩ := hl
        obtain ⟨ocls, odict, odata, oslots⟩ := ol
        simp only at hcl hdl
        subst hcl; subst hdl
        have hol' : (s.heap.push ({ cls := .type "set", dict := none, data := .set #[] 0 (.fresh 0 0 led) } : Obj)).get? l = some { cls := .type "list", dict := odict, data := .seq items nl, slots := oslots } := Heap.get?_push_of_some _ hol
        have hsls := F.sub_list_set
        have hslf := F.sub_list_frozenset
        have hne : (Value.type "list" == Value.type "dict") = false := by decide
        have hl1 : (s.heap.push ({ cls := .type "set", dict := none, data := .set #[] 0 (.fresh 0 0 led) } : Obj)).IsList l items := ⟨_, hol', rfl, nl, rfl⟩
        unfold Builtin.«set.__init__» noKeywords Builtin.Frozenset.updateFrom
        generalize hPI : pyIter = PI
        wp_walk
        subst hPI
        refine wpAny_pyIter_list (s := { s with heap := s.heap.push ({ cls := .type "set", dict := none, data := .set #[] 0 (.fresh 0 0 led) } : Obj) }) hl1 ?_
        refine wpAny_bind (wpAny_runValue ?_)
        have lt : l < s.heap.objs.size := Heap.lt_size hol
        have hh3 : A.in1.in1.in1.handled = none := by simp [hh]
        have ne1 : l ≠ (s.heap.push ({ cls := .type "set", dict := none, data := .set #[] 0 (.fresh 0 0 led) } : Obj)).objs.size := by
          rw [Heap.size_push]; exact Nat.ne_of_lt (Nat.lt_succ_of_lt lt)
        have off : s.heap.objs.size ∉ [(s.heap.push ({ cls := .type "set", dict := none, data := .set #[] 0 (.fresh 0 0 led) } : Obj)).objs.size, l] := by
          rw [Heap.size_push]; simp only [List.mem_cons, List.mem_singleton, List.not_mem_nil, or_false, not_or]
          exact ⟨Nat.ne_of_lt (Nat.lt_succ_self _), Nat.ne_of_gt lt⟩
        have none_of : ∀ b, s.heap.objs.size ≤ b → s.heap.get? b = none := fun b hb => by
          cases q : s.heap.get? b with
          | none => rfl
          | some o => exact absurd (Nat.lt_of_lt_of_le (Heap.lt_size q) hb) (Nat.lt_irrefl _)
        have W := (Walks.list (prog := P) (w := w) hh3 (s.heap.push ({ cls := .type "set", dict := none, data := .set #[] 0 (.fresh 0 0 led) } : Obj)).objs.size l ne1 items).toS
        rw [hisz] at W
        refine fill_sn W s.heap.objs.size off (fun i v hv => ?_) few s.heap hk (none_of _ (Nat.le_refl _)) (fun b hb => none_of b ?_) ?_ ks.length 0 _ (by omega) (Nat.zero_le _) ⟨⟨_, Heap.get?_push_size _ rfl, rfl, rfl⟩, (hl1.push _)⟩ (fun b o e => Heap.get?_push_of_some _ (Heap.get?_push_of_some _ e)) ?hS0 ?hR
        · have q : items.toList[i]? = some v := by rw [Array.getElem?_toList]; exact hv
          rw [hit, List.getElem?_map] at q
          obtain ⟨p, hp, e⟩ := Option.map_eq_some_iff.mp q
          exact ⟨p, hp, e.symm⟩
        · rw [List.mem_singleton.mp hb, Heap.size_push]
          exact Nat.le_succ _
        · show A.in1.in1.in1.units + 8 < cLine
          simp only [Around.in1_units]
          omega
        case hS0 =>
          refine ⟨[], #[], 0, _, sn_fresh ?_, Gt.zero ks⟩
          rw [eO]
          exact Heap.get?_push_of_some _ hS
        case hR =>
          intro s' L es ep t hm hS' g' kp
          obtain ⟨h', g2, d', tk', os'⟩ := s'
          obtain rfl : g2 = s.gens := hm.gens
          obtain rfl : d' = s.drawn := hm.drawn
          obtain rfl : os' = s.os := hm.os
          show wpAny _ _ _ _ _ _
          refine wpAny_pure ?_
          show wpAny _ _ (ret Value.none) _ _ _
          exact wpAny_pure ⟨rfl, h', tk', L, es, ep, t, rfl, hS', g', kp⟩
      · cases r₂ with
        | error e => exact hr₂
        | ok fl₂ =>
          cases fl₂ with
          | ret r =>
            obtain ⟨rfl, h', tk, L, es, ep, t, rfl, hS', g', hk'⟩ := hr₂
            repeat (any_goals (first | assumption | wp_step))
            exact h _ _ _ _ _ _ hS' g' hk'
          | next => exact hr₂.elim
          | brk => exact hr₂.elim
          | cont => exact hr₂.elim
    | next => exact hr.elim
    | brk => exact hr.elim
    | cont => exact hr.elim
end
end DL
namespace DL
open PySem PySem.Spec PyProof.Rows L2 Lk
section
variable {P : Program} {w : World} {A : Around} {E : Value → Shared → Prop} {s : Shared}
theorem perm_back {α β : Type} {f : α → β} {vs ws : List β} (pm : vs.Perm ws) : ∀ L : List α, ws = L.map f → ∃ bs : List α, bs.Perm L ∧ vs = bs.map f := by
  induction pm with
  | nil => intro L e; exact ⟨L, List.Perm.refl _, e⟩
  | cons x _ ih =>
    intro L e
    cases L with
    | nil => simp at e
    | cons y L =>
      rw [List.map_cons] at e
      obtain ⟨e1, e2⟩ := List.cons.inj e
      obtain ⟨bs, p, e3⟩ := ih L e2
      exact ⟨y :: bs, p.cons y, by rw [List.map_cons, e1, e3]⟩
  | swap x y l =>
    intro L e
    cases L with
    | nil => simp at e
    | cons a L =>
      cases L with
      | nil => simp at e
      | cons b L =>
        rw [List.map_cons, List.map_cons] at e
        obtain ⟨e1, e2⟩ := List.cons.inj e
        obtain ⟨e3, e4⟩ := List.cons.inj e2
        exact ⟨b :: a :: L, List.Perm.swap a b L, by rw [List.map_cons, List.map_cons, e1, e3, e4]⟩
  | trans _ _ ih1 ih2 =>
    intro L e
    obtain ⟨bs, p, e1⟩ := ih2 L e
    obtain ⟨cs, p2, e2⟩ := ih1 bs e1
    exact ⟨cs, p2.trans p, e2⟩
theorem each_refs : ∀ {vs : List Value} {bs : Els}, PySem.W.EachIs (fun (v : Value) (b : Addr × NestedKey) => v = .ref b.1) vs bs → vs = bs.map fun p => Value.ref p.1
  | _, _, .nil => rfl
  | _, _, .cons h t => by rw [h, each_refs t]; rfl
theorem refs_each : ∀ bs : Els, PySem.W.EachIs (fun (v : Value) (b : Addr × NestedKey) => v = .ref b.1) (bs.map fun p => Value.ref p.1) bs
  | [] => .nil
  | _ :: bs => .cons rfl (refs_each bs)
theorem reads_each {h : Heap} {l : Addr} : ∀ bs : Els, (∀ p ∈ bs, Reads h (.ref p.1) p.2.data []) → PySem.W.EachIs (fun (v : Value) (b : Addr × NestedKey) => ∃ as, Reads h v b.2.data as ∧ l ∉ as) (bs.map fun p => Value.ref p.1) bs
  | [], _ => .nil
  | b :: bs, h => .cons ⟨[], h b List.mem_cons_self, by simp⟩ (reads_each bs fun p hp => h p (List.mem_cons_of_mem _ hp))
theorem le_trans (x y z : Addr × NestedKey) (h1 : PySem.W.dataLe false (fun b : Addr × NestedKey => b.2.data) x y = true) (h2 : PySem.W.dataLe false (fun b : Addr × NestedKey => b.2.data) y z = true) : PySem.W.dataLe false (fun b : Addr × NestedKey => b.2.data) x z = true := by
  rw [PySem.W.dataLe_eq] at h1 h2 ⊢
  simp only [cond_false, Bool.not_eq_true'] at h1 h2 ⊢
  cases q : PySem.W.dataLt z.2.data x.2.data with
  | false => rfl
  | true =>
    rcases lex_negTrans _ (PySem.W.keyToks y.2.data) _ q with a | a
    · have : PySem.W.dataLt z.2.data y.2.data = true := a
      rw [h2] at this; cases this
    · have : PySem.W.dataLt y.2.data x.2.data = true := a
      rw [h1] at this; cases this
theorem le_total (x y : Addr × NestedKey) : (PySem.W.dataLe false (fun b : Addr × NestedKey => b.2.data) x y || PySem.W.dataLe false (fun b : Addr × NestedKey => b.2.data) y x) = true := by
  rw [PySem.W.dataLe_eq]
  simp only [cond_false]
  cases q : PySem.W.dataLt y.2.data x.2.data with
  | false => rfl
  | true =>
    cases r : PySem.W.dataLt x.2.data y.2.data with
    | false => rfl
    | true =>
      have : PySem.W.dataLt y.2.data y.2.data = true := dlt_tr q r
      rw [show PySem.W.dataLt y.2.data y.2.data = false from dlt_irr _] at this
      cases this
/-- sorted(set) -/
theorem sorted_sn {a : Addr} {L : Els} {es : Array (Int × Value)} {ep : Nat} {t : SetTable} {Q : Value → Shared → Prop} (R : SN w s.heap a L es ep t) (hh : A.handled = none) (hu : A.units + 16 < cLine)
    (hr : ∀ p ∈ L, Reads s.heap (.ref p.1) p.2.data [] ∧ keyN p.2.data = some p.2 ∧ okN1 p.2.data = true) (hal : ∀ p ∈ L, ∀ q ∈ L, PySem.W.alike p.2.data q.2.data = true)
    (hQ : ∀ s' p (out : Array Value) (c : Nat) (M : Els), (∀ b o, s.heap.get? b = some o → s'.heap.get? b = some o) → s'.gens = s.gens → s'.os = s.os → s.heap.objs.size ≤ p →
      s'.heap.get? p = some (seqObj "list" out c) → out.toList = M.map (fun q => Value.ref q.1) → M.Perm L → M.Pairwise (fun q r => dlt q.2.data r.2.data = true) → Q (.ref p) s') :
    wpAny (model P w) A (call (.builtin "sorted") [.ref a]) Q E s := by
  obtain ⟨o, ho, hex, hd⟩ := R.ob
  have hsz := R.size
  have few := R.few
  refine Calls.call_function_entry kind_sorted plain_sorted entry_sorted (args_sorted1 _) ?_
  unfold Builtin.«sorted»
  refine wpAny_bind (m := checkCount "sorted" 1 1 _) (wpAny_pure ?_)
  refine wpAny_bind (collect_set (A := A.in1) hh ⟨o, ho, hex.1, hd⟩ R.fits (by unfold scanBound; omega) R.tab.ris R.led fun s1 vs k1 hz g1 o1 pm => ?_)
  have hes : es.toList.map (·.2) = L.map fun q => Value.ref q.1 := by
    rw [R.rows, List.map_map]
    rfl
  obtain ⟨bs, pb, rfl⟩ := perm_back pm L hes
  have lb : bs.length < 77 := by rw [pb.length_eq]; exact few
  have mb : ∀ p ∈ bs, p ∈ L := fun p hp => pb.mem_iff.mp hp
  refine wpAny_bind (wpAny_newList ?_ (by rw [List.length_map, sizeLine_eq]; omega))
  have hoL : (s1.heap.push (seqObj "list" (bs.map fun p => Value.ref p.1).toArray 0)).get? s1.heap.objs.size = some (seqObj "list" (bs.map fun p => Value.ref p.1).toArray 0) := Heap.get?_push_size _ rfl
  refine wpAny_bind (wpAny_holding (PySem.W.list_sort_data (s := { s1 with heap := s1.heap.push (seqObj "list" (bs.map fun p => Value.ref p.1).toArray 0) }) (enc := fun b : Addr × NestedKey => b.2.data) hoL (refs_each bs)
    (reads_each bs fun p hp => Reads.keeps (fun b u e => Heap.get?_push_of_some _ (k1 b u e)) (hr p (mb p hp)).1) (fun d hd d' hd' => ?_) (.inl fun d hd => ?_) (by rw [sizeLine_eq]; omega) (fun b hb => ?_) fun out hlen eo => ?_))
  · obtain ⟨p, hp, rfl⟩ := List.mem_map.mp hd
    obtain ⟨q, hq, rfl⟩ := List.mem_map.mp hd'
    exact hal p (mb p hp) q (mb q hq)
  · obtain ⟨p, hp, rfl⟩ := List.mem_map.mp hd
    obtain ⟨k, x, r, e, _⟩ := okN1_some (hr p (mb p hp)).2.2
    exact ⟨x, r, e⟩
  · obtain ⟨k, x, r, _, _, _, dp⟩ := okN1_some (hr b (mb b hb)).2.2
    show A.in1.units + 1 + b.2.data.depth < cLine
    simp only [Around.in1_units]
    omega
  · obtain ⟨c, hc⟩ := sortedHeap_at (vs := bs.map fun p => Value.ref p.1) (out := out.toArray) hoL
    have eo' := each_refs eo
    have pM := (List.mergeSort_perm bs (PySem.W.dataLe false fun b : Addr × NestedKey => b.2.data)).trans pb
    refine wpAny_pure ⟨_, rfl, hQ _ s1.heap.objs.size out.toArray c (bs.mergeSort (PySem.W.dataLe false fun b => b.2.data)) (fun b u e => ?_) g1 o1 hz hc eo' pM ?_⟩
    · have q := k1 b u e
      have hlt := Heap.lt_size q
      show (sortedHeap (s1.heap.push (seqObj "list" (bs.map fun p => Value.ref p.1).toArray 0)) s1.heap.objs.size (bs.map fun p => Value.ref p.1) out.toArray).get? b = some u
      rw [sortedHeap_old (Nat.ne_of_lt hlt) (by rw [size_push']; exact Nat.lt_succ_of_lt hlt)]
      exact Heap.get?_push_of_some _ q
    · have st := List.pairwise_mergeSort le_trans le_total bs
      have nd : ((bs.mergeSort (PySem.W.dataLe false fun b : Addr × NestedKey => b.2.data)).map (·.2)).Nodup := (pM.map (·.2)).nodup_iff.mpr R.nd
      refine (List.Pairwise.and st (List.pairwise_map.mp nd)).imp_of_mem fun {p q} hp hq h => ?_
      have hp' := pM.mem_iff.mp hp
      have hq' := pM.mem_iff.mp hq
      obtain ⟨h1, h2⟩ := h
      rw [PySem.W.dataLe_eq] at h1
      simp only [cond_false, Bool.not_eq_true'] at h1
      cases r : dlt p.2.data q.2.data with
      | true => rfl
      | false =>
        have e := dlt_tri (hal p hp' q hq') (hr p hp').2.1 (hr q hq').2.1 r h1
        have e2 := (hr p hp').2.1
        rw [e, (hr q hq').2.1] at e2
        exact absurd (Option.some.inj e2).symm h2
end
end DL
namespace DL
open PySem PySem.Spec PyProof.Rows L2 Lk
def tSortN (K : PySem.W.Frag) (ta : TE) : TE := fun σ H Q => ta σ H fun x H1 => ∃ (l : Addr) (xs : List V) (ds : List PyData), x = V.ref l ∧ SqL K H1 l xs ∧ DqAll K H1 xs ds ∧ okN ds = true ∧ (ordN ds).length < 77 ∧
  ∀ p (M : List (V × PyData)), H1 p = none → (∀ b ∈ M, b ∈ xs.zip ds) → M.map (·.2) = ordN ds → Q (.ref p) (upd H1 p (.lst (M.map (·.1))))
theorem els_of {K : PySem.W.Frag} {H : Hp} : ∀ {xs : List V} {ds : List PyData}, DqAll K H xs ds → (∀ d ∈ ds, okN1 d = true) → ∃ ks : Els, xs = ks.map (fun p => V.ref p.1) ∧ ks.map (fun p => p.2.data) = ds ∧
    ∀ p ∈ ks, (V.ref p.1, p.2.data) ∈ xs.zip ds ∧ Dq K H (V.ref p.1) p.2.data ∧ keyN p.2.data = some p.2 ∧ okN1 p.2.data = true
  | _, _, .nil, _ => ⟨[], rfl, rfl, fun p hp => by cases hp⟩
  | _, _, .cons (vs := vs) (ds := ds) h t, ok => by
    obtain ⟨ks, e1, e2, e3⟩ := els_of t fun d hd => ok d (List.mem_cons_of_mem _ hd)
    have o := ok _ List.mem_cons_self
    obtain ⟨k, x, r, ed, hk, _⟩ := okN1_some o
    have dk := data_keyN hk
    rw [ed] at h
    cases h with
    | @tup b ys _ hs hd =>
      have hd' : Dq K H (V.ref b) k.data := by rw [dk, ed]; exact .tup hs hd
      refine ⟨(b, k) :: ks, by rw [List.map_cons, ← e1], by rw [List.map_cons, e2, dk], fun p hp => ?_⟩
      rcases List.mem_cons.mp hp with e | hp
      · rw [e]
        refine ⟨?_, hd', by rw [dk]; exact hk, by rw [dk]; exact o⟩
        rw [List.zip_cons_cons, dk]
        exact List.mem_cons_self
      · obtain ⟨a1, a2⟩ := e3 p hp
        refine ⟨?_, a2⟩
        rw [List.zip_cons_cons]
        exact List.mem_cons_of_mem _ a1
theorem els_vals : ∀ {ks : Els} {us : List Value}, Vals (ks.map fun p => V.ref p.1) us → us = ks.map fun p => Value.ref p.1
  | [], _, .nil => rfl
  | _ :: _, _, .cons r t => by
    cases r
    rw [els_vals t]
    rfl
theorem vals_els : ∀ (ks : Els), Vals (ks.map fun p => V.ref p.1) (ks.map fun p => Value.ref p.1)
  | [] => .nil
  | _ :: ks => .cons rfl (vals_els ks)
theorem few_of {ds : List PyData} {ks : Els} (ok : okN ds = true) (hd : ks.map (fun p => p.2.data) = ds) (hk : ∀ p ∈ ks, keyN p.2.data = some p.2) (h : (ordN ds).length < 77) : Few ks := fun M hn hs => by
  have := nodup_within M ((ordN ds).filterMap keyN) hn fun k hm => by
    obtain ⟨p, hp, e⟩ := List.mem_map.mp (hs k hm)
    refine List.mem_filterMap.mpr ⟨p.2.data, (mem_ordN ok).mpr ?_, by rw [hk p hp, e]⟩
    rw [← hd]
    exact List.mem_map.mpr ⟨p, hp, rfl⟩
  have := List.length_filterMap_le keyN (ordN ds)
  omega
section
variable {K : PySem.W.Frag} {E : XE} {X : Cx} {a : Expr} {ma : M PyData} {ta : TE} {p p2 q pos : Pos}
theorem pe_sortN {k : Nat} (hr : Room k X.A) (hc : X.calm = true) (hg : Gl X "sorted") (hm : X.mg "sorted" = none) (hg2 : Gl X "set") (hm2 : X.mg "set" = none) (ha : PE X a ta)
    (na : starEach [a] X.env = (false, eval a X.env) :: starEach [] X.env := by rfl) : PE X (.Call (.Name "sorted" p) [.Call (.Name "set" p2) [a] [] q] [] pos) (tSortN X.K ta) := by
  refine ⟨fun pins s σ H Q I h => ?_⟩
  refine Call_ (ld_blt I hg hm PyProof.Rows.boot_sorted ?_)
  refine callWith_builtin1 (args_cons ?_ rfl) rfl rfl
  refine Call_ (ld_blt I hg2 hm2 PyProof.Rows.boot_set ?_)
  refine callWith_type1 (args_cons (thn (ha.run pins s σ H _ I h) fun v s1 ⟨x, H1, I1, r1, q1⟩ => args_nil ?_) na) na rfl
  obtain ⟨l, xs, ds, rfl, hq, hd, ok, hn, q1⟩ := q1
  cases r1
  obtain ⟨ok1, al⟩ := okN_all ok
  obtain ⟨ks, rfl, e2, e3⟩ := els_of hd ok1
  obtain ⟨its, r, pl, hz⟩ := I1.list hq
  obtain rfl := els_vals r
  have un := hr.un
  have hen : ∀ b ∈ ks, EN s1.heap b.2 b.1 := fun b hb => by
    obtain ⟨_, dq, kb, ob⟩ := e3 b hb
    obtain ⟨k', _, _, _, hk', dp, _⟩ := okN1_some ob
    rw [kb] at hk'
    cases hk'
    exact ⟨dq_nested I1 dq kb rfl, dp, keyN_numT kb⟩
  have few := few_of ok e2 (fun b hb => (e3 b hb).2.2.1) hn
  refine set_of_sn ks (I1.ok.hd hc) pl.isList (by simp) hen few (by omega) fun h' tk L es ep t hS g hk => args_nil ?_
  have I2 : Inv X pins σ H1 { s1 with heap := h', toks := tk } := I1.kept fun b o e => hk b o e
  have sub : ∀ b ∈ L, b ∈ ks := fun b hb => List.mem_of_mem_take (g.sub b hb)
  have inD : ∀ b ∈ ks, b.2.data ∈ ds := fun b hb => by rw [← e2]; exact List.mem_map.mpr ⟨b, hb, rfl⟩
  refine sorted_sn (s := { s1 with heap := h', toks := tk }) hS (I1.ok.hd hc) (by omega) (fun b hb => ?_) (fun b hb c hc' => al _ (inD b (sub b hb)) _ (inD c (sub c hc'))) fun s' p out c M k g2 o hp hg' ho pm up => ?_
  · obtain ⟨_, dq, kb, ob⟩ := e3 b (sub b hb)
    obtain ⟨as, rd⟩ := Dp.reads I2 b.2.data (V.ref b.1) (.ref b.1) dq.dp rfl
    have e := keyN_reads kb rd
    subst e
    exact ⟨rd, kb, ob⟩
  · have eo : (M.map fun b => (V.ref b.1, b.2.data)).map (·.2) = ordN ds := by
      rw [List.map_map]
      refine (up_uniq (ordN_up ok) (List.pairwise_map.mpr up) fun j => ?_).symm
      rw [mem_ordN ok, ← e2]
      constructor
      · intro hj
        obtain ⟨b, hb, e⟩ := List.mem_map.mp hj
        have : b.2 ∈ L.map (·.2) := g.all b (by rw [List.take_length]; exact hb)
        obtain ⟨c, hc', e'⟩ := List.mem_map.mp this
        refine List.mem_map.mpr ⟨c, pm.mem_iff.mpr hc', ?_⟩
        rw [← e, ← e']
      · intro hj
        obtain ⟨b, hb, e⟩ := List.mem_map.mp hj
        exact List.mem_map.mpr ⟨b, sub b (pm.mem_iff.mp hb), e⟩
    have big : (M.map fun b => V.ref b.1).length ≤ sizeLine := by
      rw [List.length_map, pm.length_eq]
      have := hS.few
      rw [sizeLine_eq]
      omega
    have hnone : H1 p = none := I2.hok.fresh hp
    have hv : Vals (M.map fun b => V.ref b.1) out.toList := by rw [ho]; exact vals_els M
    have J : Inv X pins σ (upd H1 p (.lst (M.map fun b => V.ref b.1))) { ({ s1 with heap := h', toks := tk } : Shared) with heap := s'.heap, gens := s'.gens, drawn := s'.drawn, toks := s'.toks } :=
      I2.call (ch := []) (Un.laid k hp hnone) (I2.hok.laid k hp ⟨big, out.toList, c, hv, hg'⟩) (by rw [g2]; exact I2.bare) (fun _ z => nomatch z)
    have e : s' = { s1 with heap := s'.heap, gens := s'.gens, drawn := s'.drawn, toks := s'.toks } := by
      cases s'
      cases s1
      cases o
      rfl
    rw [e]
    have qq := q1 p (M.map fun b => (V.ref b.1, b.2.data)) hnone (fun b hb => by
      obtain ⟨c, hc', rfl⟩ := List.mem_map.mp hb
      exact (e3 c (sub c (pm.mem_iff.mp hc'))).1) eo
    rw [List.map_map] at qq
    exact ⟨.ref p, _, J, rfl, qq⟩
theorem df_sortN {k : Nat} (hr : Room k X.A) (hc : X.calm = true) (hg : Gl X "sorted") (hm : X.mg "sorted" = none) (hg2 : Gl X "set") (hm2 : X.mg "set" = none) (ha : DE K E X a ma)
    (na : starEach [a] X.env = (false, eval a X.env) :: starEach [] X.env := by rfl) : DF K E X (.Call (.Name "sorted" p) [.Call (.Name "set" p2) [a] [] q] [] pos) (mSortN ma) := ⟨fun hK => by
  subst hK
  refine PE.imp (pe_sortN hr hc hg hm hg2 hm2 (ha.pe rfl) na) fun σ H Q ⟨F, O, G, r, out, P, em, f⟩ => ?_
  refine tM.run P f em fun d r1 x G1 H1 P1 g1 q1 e1 f1 => ?_
  obtain ⟨z, hz, rfl⟩ := lift_ok e1
  cases d with
  | list ds =>
    have hz' : (if okN ds = true ∧ (ordN ds).length < 77 then some (ordN ds) else none) = some z := hz
    split at hz'
    · rename_i hb
      cases hz'
      cases q1 with
      | lst hs hd =>
        refine ⟨_, _, ds, rfl, P1.sub.seq hs, hd.sm P1.sub, hb.1, hb.2, fun p M hp hM e => ?_⟩
        have dq : DqAll X.K G1 (M.map (·.1)) (ordN ds) := by
          rw [← e]
          exact pairs_dq fun b hb => (dq_pairs hd).1 b (hM b hb)
        exact f1.ok (Ps.of_same P1.sub (same_new hp)) P1 ⟨p, _, rfl, hp, P1.sub.free hp, P1.nf _ hp, fun i z => (P1.on i p z).2.2.1 hp, upd_same, dq⟩
    · cases hz'
  | _ => cases hz⟩
end
end DL
namespace DL
open PySem PySem.Spec PyProof.Rows L2 Lk
end DL
namespace DL
open PySem PySem.Spec PyProof.Rows L2 Lk
end DL
namespace DL
open PySem PySem.Spec PyProof.Rows L2 Lk
end DL
namespace DL
open PySem PySem.Spec PyProof.Rows L2 Lk
end DL
namespace DL
open PySem PySem.Spec PyProof.Rows L2 Lk
end DL
namespace DL
open PySem PySem.Spec PyProof.Rows L2 Lk
end DL
namespace DL
open PySem PySem.Spec PyProof.Rows L2 Lk
end DL
namespace DL
open PySem PySem.Spec PyProof.Rows L2 Lk
end DL
namespace DL
open PySem PySem.Spec PyProof.Rows L2 Lk
end DL
namespace DL
open PySem PySem.Spec PyProof.Rows L2 Lk
end DL
namespace DL
open PySem PySem.Spec PyProof.Rows L2 Lk
def v_law_cell_e350a : SM := (sSeq (sIf (mOpT ltM (mV 1) (mCall lenM (mCons (mV 0) mNil)))
    (sRet (mCall intM (mCons (mOp2 ixM (mV 0) (mV 1)) mNil)))
    sNil)
  (sRet (M.ret (.int 0))))
def g_law_cell_e350a : List PyData → Option PyData := runD ["script", "k"] 2 v_law_cell_e350a
theorem r_law_cell_e350a (x0 : PyData) (x1 : PyData) : g_law_cell_e350a [x0, x1] = outD (v_law_cell_e350a [.pl x0, .pl x1]) := rfl
def v_law_set_3b7aa : SM := (sRet (mNew (mLc [2] (mRng1 (mCons (mV 1) mNil)) (gN 2) (mOpT eqM (mOp2 andM (mOp2 shrM (mV 0) (mV 2)) (M.ret (.int 1))) (M.ret (.int 1))) (mV 2))))
def g_law_set_3b7aa : List PyData → Option PyData := runD ["bits", "many", "member"] 2 v_law_set_3b7aa
theorem r_law_set_3b7aa (x0 : PyData) (x1 : PyData) : g_law_set_3b7aa [x0, x1] = outD (v_law_set_3b7aa [.pl x0, .pl x1, .un]) := rfl
def v_law_least_0e04d : SM := (sRet (mNew (mLc [1] (mSeq (mV 0)) (gN 1) (mOpT eqM (mNew (mLc [2] (mSeq (mV 0)) (gN 2) (mAnd (mOpT neM (mV 2) (mV 1)) (mOpT eqM (mOp2 andM (mV 2) (mV 1)) (mV 2))) (mV 2))) (mNew (mLst mNil))) (mV 1))))
def g_law_least_0e04d : List PyData → Option PyData := runD ["rows", "bits", "one"] 1 v_law_least_0e04d
theorem r_law_least_0e04d (x0 : PyData) : g_law_least_0e04d [x0] = outD (v_law_least_0e04d [.pl x0, .un, .un]) := rfl
def v_law_is_family_66f5c : SM := (sSeq (sIf (mNotT (mTru (mIsi "list" (mV 0))))
    (sRet (M.ret (.bool false)))
    sNil)
  (sSeq (sFor (mSeq (mV 0)) (gN 1)
    (sSeq (sIf (mNotT (mTru (mIsi "list" (mV 1))))
    (sRet (M.ret (.bool false)))
    sNil)
  (sIf (mOpT neM (mNew (mLc [2] (mSeq (mV 1)) (gN 2) (mOr (mNotT (mTru (mIsi "int" (mV 2)))) (mTru (mIsi "bool" (mV 2)))) (mV 2))) (mNew (mLst mNil)))
    (sRet (M.ret (.bool false)))
    sNil)))
  (sRet (M.ret (.bool true)))))
def g_law_is_family_66f5c : List PyData → Option PyData := runD ["found", "row", "one"] 1 v_law_is_family_66f5c
theorem r_law_is_family_66f5c (x0 : PyData) : g_law_is_family_66f5c [x0] = outD (v_law_is_family_66f5c [.pl x0, .un, .un]) := rfl
def v_law_listed_a3095 : SM := (sRet (mNew (mLc [1] (mSeq (mNew (mSortN (mNew (mLc [2] (mSeq (mV 0)) (gN 2) mYes (mTup (mCons (mCall lenM (mCons (mV 2) mNil)) (mCons (mCall tupleM (mCons (mV 2) mNil)) mNil)))))))) (gN 1) mYes (mNew (mCallF listM (mCons (mOp2 ixM (mV 1) (M.ret (.int 1))) mNil))))))
def g_law_listed_a3095 : List PyData → Option PyData := runD ["rows", "pair", "row"] 1 v_law_listed_a3095
theorem r_law_listed_a3095 (x0 : PyData) : g_law_listed_a3095 [x0] = outD (v_law_listed_a3095 [.pl x0, .un, .un]) := rfl
end DL
namespace DL
open PySem PySem.Spec PyProof.Rows L2 Lk
def v_law_k18 : SM := (sSeq (sSet 1 (mOp2 modM (mCall intM (mCons (mCall g_law_cell_e350a (mCons (mV 0) (mCons (M.ret (.int 0)) mNil))) mNil)) (M.ret (.int 11))))
  (sSeq (sSet 2 (mNew (mLc [10] (mSeq (mNew (mSlice (mV 0) (mPart (M.ret (.int 2))) (mPart (M.ret (.int 302)))))) (gN 10) mYes (mOp2 modM (mCall intM (mCons (mV 10) mNil)) (mOp2 shlM (M.ret (.int 1)) (mV 1))))))
  (sSeq (sSet 3 (mNew (mLc [11] (mSeq (mV 2)) (gN 11) mYes (mCall g_law_set_3b7aa (mCons (mV 11) (mCons (mV 1) mNil))))))
  (sSeq (sSet 4 (mNew (mLc [12] (mSeq (mV 3)) (gN 12) mYes (mNew (mCallF listM (mCons (mV 12) mNil))))))
  (sSeq (sFor (mSeq (mNew (mLst (mCons (mOp2 modM (mCall intM (mCons (mCall g_law_cell_e350a (mCons (mV 0) (mCons (M.ret (.int 1)) mNil))) mNil)) (mOp2 shlM (M.ret (.int 1)) (mV 1))) (mCons (M.ret (.int 0)) (mCons (mOp2 subM (mOp2 shlM (M.ret (.int 1)) (mV 1)) (M.ret (.int 1))) mNil)))))) (gN 5)
    (sSeq (sSet 6 (mCall g_law_set_3b7aa (mCons (mV 5) (mCons (mV 1) mNil))))
  (sSeq (sSet 7 (mCall g_law_least_0e04d (mCons (mNew (mLc [11] (mSeq (mV 2)) (gN 11) (mOpT eqM (mOp2 andM (mV 11) (mV 5)) (M.ret (.int 0))) (mV 11))) mNil)))
  (sSeq (sSet 8 (mCall g_dropped (mCons (mV 1) (mCons (mV 4) (mCons (mV 6) mNil)))))
  (sSeq (sIf (mOr (mNotT (mTru (mCall g_law_is_family_66f5c (mCons (mV 8) mNil)))) (mOpT neM (mV 8) (mCall g_law_listed_a3095 (mCons (mNew (mLc [11] (mSeq (mV 7)) (gN 11) mYes (mCall g_law_set_3b7aa (mCons (mV 11) (mCons (mV 1) mNil))))) mNil))))
    (sRet (M.ret (.bool false)))
    sNil)
  (sSeq (sSet 9 (mCall g_law_least_0e04d (mCons (mNew (mLc [11] (mSeq (mV 2)) (gN 11) mYes (mOp2 subM (mV 11) (mOp2 andM (mV 11) (mV 5))))) mNil)))
  (sSeq (sSet 8 (mCall g_taken (mCons (mV 1) (mCons (mV 4) (mCons (mV 6) mNil)))))
  (sSeq (sIf (mOr (mNotT (mTru (mCall g_law_is_family_66f5c (mCons (mV 8) mNil)))) (mOpT neM (mV 8) (mCall g_law_listed_a3095 (mCons (mNew (mLc [11] (mSeq (mV 9)) (gN 11) mYes (mCall g_law_set_3b7aa (mCons (mV 11) (mCons (mV 1) mNil))))) mNil))))
    (sRet (M.ret (.bool false)))
    sNil)
  (sIf (mOr (mOpT neM (mV 6) (mCall g_law_set_3b7aa (mCons (mV 5) (mCons (mV 1) mNil)))) (mOpT neM (mV 4) (mV 3)))
    (sRet (M.ret (.bool false)))
    sNil)))))))))
  (sRet (M.ret (.bool true))))))))
def g_law_k18 : List PyData → Option PyData := runD ["script", "size", "rows", "kept", "passed", "barred", "members", "free", "found", "left", "cell", "bits", "row"] 1 v_law_k18
theorem r_law_k18 (x0 : PyData) : g_law_k18 [x0] = outD (v_law_k18 [.pl x0, .un, .un, .un, .un, .un, .un, .un, .un, .un, .un, .un, .un]) := rfl
end DL
namespace DL
open PySem PySem.Spec PyProof.Rows L2 Lk
def top (i : Nat) : Stmt := PySem.Challenge.pw_leastreasons_k18_members_dropped_and_tak.main.body.getD i (.Pass ⟨0, 0, 0, 0⟩)
abbrev s_ascending_numbers : Stmt := top 9
theorem sc_ascending_numbers : FnScope ["numbers", "number"] ["numbers"] (defScope s_ascending_numbers) := ⟨rfl, rfl, rfl, by decide +kernel, rfl, by decide +kernel, by decide +kernel⟩
theorem f_ascending_numbers {P : Program} {w : World} {K : PySem.W.Frag} {mg : Str → Option Value} {base : Heap} {f : Addr} {fd : FuncData} {k : Nat} (F : Fun K "ascending_numbers" "ascending_numbers" s_ascending_numbers f fd) (hb : Binds K fd ["numbers"] []) (hm : mg "ascending_numbers" = some (.ref f))
    (y_int : mg "int" = none)
    (y_sorted : mg "sorted" = none) : FnOk P w K mg base CX0 (k + 1) f fd ["numbers"] (spD K g_ascending_numbers) := fn_d F sc_ascending_numbers fun cdv A outer s H E hr =>
  (dss_one (ds_ret (xe_fr (xcBF cf_sorted (by rfl) y_sorted (by decide +kernel) (xa_cons (xe_fr (df_lc (own := [("number", 1)]) rfl sc_ascending_numbers.nd (xi_seq (de_v 0)) (blkOk_by (by kernel_rfl)) (fun _ _ _ _ _ => (dg_name 1 sc_ascending_numbers.nd rfl (by first | exact Or.inl rfl | exact Or.inr rfl))) (fun _ _ _ _ _ => dts_nil) (fun _ _ _ _ _ => (xcT cd_int (by rfl) y_int (by decide +kernel) (xa_cons (de_v 1) xa_nil))))) xa_nil)))))
theorem t_ascending_numbers {P : Program} {w : World} {K : PySem.W.Frag} {mg : Str → Option Value} {base : Heap} {f : Addr} {fd : FuncData} {k : Nat} (F : Fun K "ascending_numbers" "ascending_numbers" s_ascending_numbers f fd) (hb : Binds K fd ["numbers"] []) (hm : mg "ascending_numbers" = some (.ref f))
    (y_int : mg "int" = none)
    (y_sorted : mg "sorted" = none) : Has P w K mg base (k + 1) "ascending_numbers" ["numbers"] (spD K g_ascending_numbers) := ⟨f, fd, f_ascending_numbers F hb hm y_int y_sorted, hb, hm, F.kp⟩
abbrev s_members_of : Stmt := top 12
theorem sc_members_of : FnScope ["size", "mask", "member"] ["size", "mask"] (defScope s_members_of) := ⟨rfl, rfl, rfl, by decide +kernel, rfl, by decide +kernel, by decide +kernel⟩
theorem f_members_of {P : Program} {w : World} {K : PySem.W.Frag} {mg : Str → Option Value} {base : Heap} {f : Addr} {fd : FuncData} {k : Nat} (F : Fun K "members_of" "members_of" s_members_of f fd) (hb : Binds K fd ["size", "mask"] []) (hm : mg "members_of" = some (.ref f))
    (y_range : mg "range" = none) : FnOk P w K mg base CX0 (k + 1) f fd ["size", "mask"] (spD K g_members_of) := fn_d F sc_members_of fun cdv A outer s H E hr =>
  (dss_one (ds_ret (xe_fr (df_lc (own := [("member", 2)]) rfl sc_members_of.nd (xi_range1 (by rfl) y_range (xa_cons (de_v 0) xa_nil)) (blkOk_by (by kernel_rfl)) (fun _ _ _ _ _ => (dg_name 2 sc_members_of.nd rfl (by first | exact Or.inl rfl | exact Or.inr rfl))) (fun _ _ _ _ _ => (dts_one (xt_tru (xe_op opd_and (xe_op opd_shr (de_v 1) (xe_op opd_sub (xe_op opd_sub (de_v 0) de_int) (de_v 2))) de_int)))) (fun _ _ _ _ _ => (de_v 2))))))
theorem t_members_of {P : Program} {w : World} {K : PySem.W.Frag} {mg : Str → Option Value} {base : Heap} {f : Addr} {fd : FuncData} {k : Nat} (F : Fun K "members_of" "members_of" s_members_of f fd) (hb : Binds K fd ["size", "mask"] []) (hm : mg "members_of" = some (.ref f))
    (y_range : mg "range" = none) : Has P w K mg base (k + 1) "members_of" ["size", "mask"] (spD K g_members_of) := ⟨f, fd, f_members_of F hb hm y_range, hb, hm, F.kp⟩
abbrev s_family_of : Stmt := top 13
theorem sc_family_of : FnScope ["size", "masks", "mask"] ["size", "masks"] (defScope s_family_of) := ⟨rfl, rfl, rfl, by decide +kernel, rfl, by decide +kernel, by decide +kernel⟩
theorem f_family_of {P : Program} {w : World} {K : PySem.W.Frag} {mg : Str → Option Value} {base : Heap} {f : Addr} {fd : FuncData} {k : Nat} (F : Fun K "family_of" "family_of" s_family_of f fd) (hb : Binds K fd ["size", "masks"] []) (hm : mg "family_of" = some (.ref f))
    (y_len : mg "len" = none)
    (y_sorted : mg "sorted" = none)
    (G_ascending_numbers : Has P w K mg base k "ascending_numbers" ["numbers"] (spD K g_ascending_numbers))
    (G_members_of : Has P w K mg base k "members_of" ["size", "mask"] (spD K g_members_of)) : FnOk P w K mg base CX0 (k + 1) f fd ["size", "masks"] (spD K g_family_of) := fn_d F sc_family_of fun cdv A outer s H E hr =>
  (dss_one (ds_ret (xe_fr (df_sortLen hr rfl (by rfl) y_sorted (by rfl) y_len (xe_fr (df_lc (own := [("mask", 2)]) rfl sc_family_of.nd (xi_seq (xe_fr (df_revL (xc G_ascending_numbers hr (by rfl) (xa_cons (de_v 1) xa_nil))))) (blkOk_by (by kernel_rfl)) (fun _ _ _ _ _ => (dg_name 2 sc_family_of.nd rfl (by first | exact Or.inl rfl | exact Or.inr rfl))) (fun _ _ _ _ _ => dts_nil) (fun _ _ _ _ _ => (xc G_members_of hr (by rfl) (xa_cons (de_v 0) (xa_cons (de_v 2) xa_nil))))))))))
theorem t_family_of {P : Program} {w : World} {K : PySem.W.Frag} {mg : Str → Option Value} {base : Heap} {f : Addr} {fd : FuncData} {k : Nat} (F : Fun K "family_of" "family_of" s_family_of f fd) (hb : Binds K fd ["size", "masks"] []) (hm : mg "family_of" = some (.ref f))
    (y_len : mg "len" = none)
    (y_sorted : mg "sorted" = none)
    (G_ascending_numbers : Has P w K mg base k "ascending_numbers" ["numbers"] (spD K g_ascending_numbers))
    (G_members_of : Has P w K mg base k "members_of" ["size", "mask"] (spD K g_members_of)) : Has P w K mg base (k + 1) "family_of" ["size", "masks"] (spD K g_family_of) := ⟨f, fd, f_family_of F hb hm y_len y_sorted G_ascending_numbers G_members_of, hb, hm, F.kp⟩
abbrev s_least_masks : Stmt := top 14
theorem sc_least_masks : FnScope ["masks", "least", "mask", "part"] ["masks"] (defScope s_least_masks) := ⟨rfl, rfl, rfl, by decide +kernel, rfl, by decide +kernel, by decide +kernel⟩
theorem f_least_masks {P : Program} {w : World} {K : PySem.W.Frag} {mg : Str → Option Value} {base : Heap} {f : Addr} {fd : FuncData} {k : Nat} (F : Fun K "least_masks" "least_masks" s_least_masks f fd) (hb : Binds K fd ["masks"] []) (hm : mg "least_masks" = some (.ref f))
    (y_any : mg "any" = none)
    (G_ascending_numbers : Has P w K mg base k "ascending_numbers" ["numbers"] (spD K g_ascending_numbers)) : FnOk P w K mg base CX0 (k + 1) f fd ["masks"] (spD K g_least_masks) := fn_d F sc_least_masks fun cdv A outer s H E hr =>
  (dss_cons (ds_own (i := 1) sc_least_masks.nd rfl (by first | exact Or.inl rfl | exact Or.inr rfl) (xf_lst xa_nil))
  (dss_cons (ds_for PassesOwn.never rfl (xi_seq (xc G_ascending_numbers hr (by rfl) (xa_cons (de_v 0) xa_nil))) (dg_name 2 sc_least_masks.nd rfl (by first | exact Or.inl rfl | exact Or.inr rfl))
    (dss_one (ds_if (dt_peek (xt_not (xt_tru (xcB (cd_any rfl) (by rfl) y_any (by decide +kernel) (xa_cons (xe_fr (df_lc (own := [("part", 3)]) rfl sc_least_masks.nd (xi_seq (de_v 1)) (blkOk_by (by kernel_rfl)) (fun _ _ _ _ _ => (dg_name 3 sc_least_masks.nd rfl (by first | exact Or.inl rfl | exact Or.inr rfl))) (fun _ _ _ _ _ => dts_nil) (fun _ _ _ _ _ => (xe_cmp (opd_eq hr) (xe_op opd_and (de_v 3) (de_v 2)) (de_v 3) (nomark _))))) xa_nil)))))
    (dss_one (ds_app 1 (te := _) (fun _ _ _ _ h => h) (ps_expr (pe_bm PySem.F.plainAttrs_list PySem.F.slot_list_append PySem.F.type_list_append mt_append (pv 1) (pa_cons ((show DE _ _ _ _ _ from (de_v 2)).pe rfl) pa_nil)))))
    dss_nil)))
  (dss_one (ds_frz 1 (ds_ret (de_v 1))))))
theorem t_least_masks {P : Program} {w : World} {K : PySem.W.Frag} {mg : Str → Option Value} {base : Heap} {f : Addr} {fd : FuncData} {k : Nat} (F : Fun K "least_masks" "least_masks" s_least_masks f fd) (hb : Binds K fd ["masks"] []) (hm : mg "least_masks" = some (.ref f))
    (y_any : mg "any" = none)
    (G_ascending_numbers : Has P w K mg base k "ascending_numbers" ["numbers"] (spD K g_ascending_numbers)) : Has P w K mg base (k + 1) "least_masks" ["masks"] (spD K g_least_masks) := ⟨f, fd, f_least_masks F hb hm y_any G_ascending_numbers, hb, hm, F.kp⟩
abbrev s_is_integer : Stmt := top 6
theorem sc_is_integer : FnScope ["value"] ["value"] (defScope s_is_integer) := ⟨rfl, rfl, rfl, by decide +kernel, rfl, by decide +kernel, by decide +kernel⟩
theorem f_is_integer {P : Program} {w : World} {K : PySem.W.Frag} {mg : Str → Option Value} {base : Heap} {f : Addr} {fd : FuncData} {k : Nat} (F : Fun K "is_integer" "is_integer" s_is_integer f fd) (hb : Binds K fd ["value"] []) (hm : mg "is_integer" = some (.ref f))
    (y_bool : mg "bool" = none)
    (y_int : mg "int" = none)
    (y_isinstance : mg "isinstance" = none) : FnOk P w K mg base CX0 (k + 1) f fd ["value"] (spD K g_is_integer) := fn_d F sc_is_integer fun cdv A outer s H E hr =>
  (dss_one (ds_ret (de_and (xe_isi (n := "int") (by decide) (by rfl) y_isinstance (by rfl) y_int (by decide +kernel) (de_v 0)) (de_one (xe_not (xe_isi (n := "bool") (by decide) (by rfl) y_isinstance (by rfl) y_bool (by decide +kernel) (de_v 0)))))))
theorem t_is_integer {P : Program} {w : World} {K : PySem.W.Frag} {mg : Str → Option Value} {base : Heap} {f : Addr} {fd : FuncData} {k : Nat} (F : Fun K "is_integer" "is_integer" s_is_integer f fd) (hb : Binds K fd ["value"] []) (hm : mg "is_integer" = some (.ref f))
    (y_bool : mg "bool" = none)
    (y_int : mg "int" = none)
    (y_isinstance : mg "isinstance" = none) : Has P w K mg base (k + 1) "is_integer" ["value"] (spD K g_is_integer) := ⟨f, fd, f_is_integer F hb hm y_bool y_int y_isinstance, hb, hm, F.kp⟩
abbrev s_is_integer_below : Stmt := top 7
theorem sc_is_integer_below : FnScope ["value", "limit"] ["value", "limit"] (defScope s_is_integer_below) := ⟨rfl, rfl, rfl, by decide +kernel, rfl, by decide +kernel, by decide +kernel⟩
theorem f_is_integer_below {P : Program} {w : World} {K : PySem.W.Frag} {mg : Str → Option Value} {base : Heap} {f : Addr} {fd : FuncData} {k : Nat} (F : Fun K "is_integer_below" "is_integer_below" s_is_integer_below f fd) (hb : Binds K fd ["value", "limit"] []) (hm : mg "is_integer_below" = some (.ref f))
    (G_is_integer : Has P w K mg base k "is_integer" ["value"] (spD K g_is_integer)) : FnOk P w K mg base CX0 (k + 1) f fd ["value", "limit"] (spD K g_is_integer_below) := fn_d F sc_is_integer_below fun cdv A outer s H E hr =>
  (dss_one (ds_ret (de_and (xc G_is_integer hr (by rfl) (xa_cons (de_v 0) xa_nil)) (de_one (de_chain opd_le opd_lt de_int (de_v 0) (de_v 1))))))
theorem t_is_integer_below {P : Program} {w : World} {K : PySem.W.Frag} {mg : Str → Option Value} {base : Heap} {f : Addr} {fd : FuncData} {k : Nat} (F : Fun K "is_integer_below" "is_integer_below" s_is_integer_below f fd) (hb : Binds K fd ["value", "limit"] []) (hm : mg "is_integer_below" = some (.ref f))
    (G_is_integer : Has P w K mg base k "is_integer" ["value"] (spD K g_is_integer)) : Has P w K mg base (k + 1) "is_integer_below" ["value", "limit"] (spD K g_is_integer_below) := ⟨f, fd, f_is_integer_below F hb hm G_is_integer, hb, hm, F.kp⟩
abbrev s_mask_of : Stmt := top 11
theorem sc_mask_of : FnScope ["size", "members", "mask", "member"] ["size", "members"] (defScope s_mask_of) := ⟨rfl, rfl, rfl, by decide +kernel, rfl, by decide +kernel, by decide +kernel⟩
theorem f_mask_of {P : Program} {w : World} {K : PySem.W.Frag} {mg : Str → Option Value} {base : Heap} {f : Addr} {fd : FuncData} {k : Nat} (F : Fun K "mask_of" "mask_of" s_mask_of f fd) (hb : Binds K fd ["size", "members"] []) (hm : mg "mask_of" = some (.ref f))
     : FnOk P w K mg base CX0 (k + 1) f fd ["size", "members"] (spD K g_mask_of) := fn_d F sc_mask_of fun cdv A outer s H E hr =>
  (dss_cons (ds_set (i := 2) sc_mask_of.nd rfl (by first | exact Or.inl rfl | exact Or.inr rfl) de_int)
  (dss_cons (ds_for PassesOwn.never rfl (xi_seq (de_v 1)) (dg_name 3 sc_mask_of.nd rfl (by first | exact Or.inl rfl | exact Or.inr rfl))
    (dss_one (ds_set (i := 2) sc_mask_of.nd rfl (by first | exact Or.inl rfl | exact Or.inr rfl) (xe_op opd_or (de_v 2) (xe_op opd_shl de_int (xe_op opd_sub (xe_op opd_sub (de_v 0) de_int) (de_v 3)))))))
  (dss_one (ds_ret (de_v 2)))))
theorem t_mask_of {P : Program} {w : World} {K : PySem.W.Frag} {mg : Str → Option Value} {base : Heap} {f : Addr} {fd : FuncData} {k : Nat} (F : Fun K "mask_of" "mask_of" s_mask_of f fd) (hb : Binds K fd ["size", "members"] []) (hm : mg "mask_of" = some (.ref f))
     : Has P w K mg base (k + 1) "mask_of" ["size", "members"] (spD K g_mask_of) := ⟨f, fd, f_mask_of F hb hm , hb, hm, F.kp⟩
abbrev s_are_ascending_below : Stmt := top 8
theorem sc_are_ascending_below : FnScope ["values", "limit", "least", "value"] ["values", "limit"] (defScope s_are_ascending_below) := ⟨rfl, rfl, rfl, by decide +kernel, rfl, by decide +kernel, by decide +kernel⟩
theorem f_are_ascending_below {P : Program} {w : World} {K : PySem.W.Frag} {mg : Str → Option Value} {base : Heap} {f : Addr} {fd : FuncData} {k : Nat} (F : Fun K "are_ascending_below" "are_ascending_below" s_are_ascending_below f fd) (hb : Binds K fd ["values", "limit"] []) (hm : mg "are_ascending_below" = some (.ref f))
    (G_is_integer_below : Has P w K mg base k "is_integer_below" ["value", "limit"] (spD K g_is_integer_below)) : FnOk P w K mg base CX0 (k + 1) f fd ["values", "limit"] (spD K g_are_ascending_below) := fn_d F sc_are_ascending_below fun cdv A outer s H E hr =>
  (dss_cons (ds_set (i := 2) sc_are_ascending_below.nd rfl (by first | exact Or.inl rfl | exact Or.inr rfl) de_int)
  (dss_cons (ds_for PassesOwn.never rfl (xi_seq (de_v 0)) (dg_name 3 sc_are_ascending_below.nd rfl (by first | exact Or.inl rfl | exact Or.inr rfl))
    (dss_cons (ds_if (DW.pt (dw_or (xt_not (xt_tru (xc G_is_integer_below hr (by rfl) (xa_cons (de_v 3) (xa_cons (de_v 1) xa_nil))))) (dw_or1 (xt_cmp opd_lt (de_v 3) (de_v 2) (nomark _)))))
    (dss_one (ds_ret de_bl))
    dss_nil)
  (dss_one (ds_set (i := 2) sc_are_ascending_below.nd rfl (by first | exact Or.inl rfl | exact Or.inr rfl) (xe_op opd_add (de_v 3) de_int)))))
  (dss_one (ds_ret de_bl))))
theorem t_are_ascending_below {P : Program} {w : World} {K : PySem.W.Frag} {mg : Str → Option Value} {base : Heap} {f : Addr} {fd : FuncData} {k : Nat} (F : Fun K "are_ascending_below" "are_ascending_below" s_are_ascending_below f fd) (hb : Binds K fd ["values", "limit"] []) (hm : mg "are_ascending_below" = some (.ref f))
    (G_is_integer_below : Has P w K mg base k "is_integer_below" ["value", "limit"] (spD K g_is_integer_below)) : Has P w K mg base (k + 1) "are_ascending_below" ["values", "limit"] (spD K g_are_ascending_below) := ⟨f, fd, f_are_ascending_below F hb hm G_is_integer_below, hb, hm, F.kp⟩
abbrev s_p_is_set : Stmt := top 22
theorem sc_p_is_set : FnScope ["size", "value"] ["size", "value"] (defScope s_p_is_set) := ⟨rfl, rfl, rfl, by decide +kernel, rfl, by decide +kernel, by decide +kernel⟩
theorem f_p_is_set {P : Program} {w : World} {K : PySem.W.Frag} {mg : Str → Option Value} {base : Heap} {f : Addr} {fd : FuncData} {k : Nat} (F : Fun K "_is_set" "_is_set" s_p_is_set f fd) (hb : Binds K fd ["size", "value"] []) (hm : mg "_is_set" = some (.ref f))
    (y_isinstance : mg "isinstance" = none)
    (y_list : mg "list" = none)
    (G_are_ascending_below : Has P w K mg base k "are_ascending_below" ["values", "limit"] (spD K g_are_ascending_below)) : FnOk P w K mg base CX0 (k + 1) f fd ["size", "value"] (spD K g_p_is_set) := fn_d F sc_p_is_set fun cdv A outer s H E hr =>
  (dss_one (ds_ret (de_and (xe_isi (n := "list") (by decide) (by rfl) y_isinstance (by rfl) y_list (by decide +kernel) (de_v 1)) (de_one (xc G_are_ascending_below hr (by rfl) (xa_cons (de_v 1) (xa_cons (de_v 0) xa_nil)))))))
theorem t_p_is_set {P : Program} {w : World} {K : PySem.W.Frag} {mg : Str → Option Value} {base : Heap} {f : Addr} {fd : FuncData} {k : Nat} (F : Fun K "_is_set" "_is_set" s_p_is_set f fd) (hb : Binds K fd ["size", "value"] []) (hm : mg "_is_set" = some (.ref f))
    (y_isinstance : mg "isinstance" = none)
    (y_list : mg "list" = none)
    (G_are_ascending_below : Has P w K mg base k "are_ascending_below" ["values", "limit"] (spD K g_are_ascending_below)) : Has P w K mg base (k + 1) "_is_set" ["size", "value"] (spD K g_p_is_set) := ⟨f, fd, f_p_is_set F hb hm y_isinstance y_list G_are_ascending_below, hb, hm, F.kp⟩
abbrev s_p_read_family : Stmt := top 20
theorem sc_p_read_family : FnScope ["size", "family", "part"] ["size", "family"] (defScope s_p_read_family) := ⟨rfl, rfl, rfl, by decide +kernel, rfl, by decide +kernel, by decide +kernel⟩
theorem f_p_read_family {P : Program} {w : World} {K : PySem.W.Frag} {mg : Str → Option Value} {base : Heap} {f : Addr} {fd : FuncData} {k : Nat} (F : Fun K "_read_family" "_read_family" s_p_read_family f fd) (hb : Binds K fd ["size", "family"] []) (hm : mg "_read_family" = some (.ref f))
    (y_all : mg "all" = none)
    (m_GREATEST_SET_SIZE : ∃ t, mg "GREATEST_SET_SIZE" = some (.int 10 t))
    (m_MOST_SETS : ∃ t, mg "MOST_SETS" = some (.int 300 t))
    (y_isinstance : mg "isinstance" = none)
    (y_len : mg "len" = none)
    (y_list : mg "list" = none)
    (G_is_integer_below : Has P w K mg base k "is_integer_below" ["value", "limit"] (spD K g_is_integer_below))
    (G_mask_of : Has P w K mg base k "mask_of" ["size", "members"] (spD K g_mask_of))
    (G_p_is_set : Has P w K mg base k "_is_set" ["size", "value"] (spD K g_p_is_set)) : FnOk P w K mg base CX0 (k + 1) f fd ["size", "family"] (spD K g_p_read_family) := fn_d F sc_p_read_family fun cdv A outer s H E hr =>
  (dss_cons (ds_if (xt_not (xt_tru (xc G_is_integer_below hr (by rfl) (xa_cons (de_v 0) (xa_cons (xe_op opd_add (de_g (v := .int 10) (d := .int 10) (by rfl) m_GREATEST_SET_SIZE.choose_spec ⟨_, rfl⟩ fun _ => .int _) de_int) xa_nil)))))
    (dss_one xs_no)
    dss_nil)
  (dss_cons (ds_if (DW.pt (dw_or (xt_not (xt_tru (xe_isi (n := "list") (by decide) (by rfl) y_isinstance (by rfl) y_list (by decide +kernel) (de_v 1)))) (dw_or (xt_cmp opd_gt (xcB cd_len (by rfl) y_len (by decide +kernel) (xa_cons (de_v 1) xa_nil)) (de_g (v := .int 300) (d := .int 300) (by rfl) m_MOST_SETS.choose_spec ⟨_, rfl⟩ fun _ => .int _) (nomark _)) (dw_or1 (xt_not (xt_tru (xcB (cd_all rfl) (by rfl) y_all (by decide +kernel) (xa_cons (xe_fr (df_lc (own := [("part", 2)]) rfl sc_p_read_family.nd (xi_seq (de_v 1)) (blkOk_by (by kernel_rfl)) (fun _ _ _ _ _ => (dg_name 2 sc_p_read_family.nd rfl (by first | exact Or.inl rfl | exact Or.inr rfl))) (fun _ _ _ _ _ => dts_nil) (fun _ _ _ _ _ => (xc G_p_is_set hr (by rfl) (xa_cons (de_v 0) (xa_cons (de_v 2) xa_nil)))))) xa_nil))))))))
    (dss_one xs_no)
    dss_nil)
  (dss_one (ds_ret (xe_fr (df_lc (own := [("part", 2)]) rfl sc_p_read_family.nd (xi_seq (de_v 1)) (blkOk_by (by kernel_rfl)) (fun _ _ _ _ _ => (dg_name 2 sc_p_read_family.nd rfl (by first | exact Or.inl rfl | exact Or.inr rfl))) (fun _ _ _ _ _ => dts_nil) (fun _ _ _ _ _ => (xc G_mask_of hr (by rfl) (xa_cons (de_v 0) (xa_cons (de_v 2) xa_nil))))))))))
theorem t_p_read_family {P : Program} {w : World} {K : PySem.W.Frag} {mg : Str → Option Value} {base : Heap} {f : Addr} {fd : FuncData} {k : Nat} (F : Fun K "_read_family" "_read_family" s_p_read_family f fd) (hb : Binds K fd ["size", "family"] []) (hm : mg "_read_family" = some (.ref f))
    (y_all : mg "all" = none)
    (m_GREATEST_SET_SIZE : ∃ t, mg "GREATEST_SET_SIZE" = some (.int 10 t))
    (m_MOST_SETS : ∃ t, mg "MOST_SETS" = some (.int 300 t))
    (y_isinstance : mg "isinstance" = none)
    (y_len : mg "len" = none)
    (y_list : mg "list" = none)
    (G_is_integer_below : Has P w K mg base k "is_integer_below" ["value", "limit"] (spD K g_is_integer_below))
    (G_mask_of : Has P w K mg base k "mask_of" ["size", "members"] (spD K g_mask_of))
    (G_p_is_set : Has P w K mg base k "_is_set" ["size", "value"] (spD K g_p_is_set)) : Has P w K mg base (k + 1) "_read_family" ["size", "family"] (spD K g_p_read_family) := ⟨f, fd, f_p_read_family F hb hm y_all m_GREATEST_SET_SIZE m_MOST_SETS y_isinstance y_len y_list G_is_integer_below G_mask_of G_p_is_set, hb, hm, F.kp⟩
abbrev s_p_read_members : Stmt := top 21
theorem sc_p_read_members : FnScope ["size", "members"] ["size", "members"] (defScope s_p_read_members) := ⟨rfl, rfl, rfl, by decide +kernel, rfl, by decide +kernel, by decide +kernel⟩
theorem f_p_read_members {P : Program} {w : World} {K : PySem.W.Frag} {mg : Str → Option Value} {base : Heap} {f : Addr} {fd : FuncData} {k : Nat} (F : Fun K "_read_members" "_read_members" s_p_read_members f fd) (hb : Binds K fd ["size", "members"] []) (hm : mg "_read_members" = some (.ref f))
    (G_mask_of : Has P w K mg base k "mask_of" ["size", "members"] (spD K g_mask_of))
    (G_p_is_set : Has P w K mg base k "_is_set" ["size", "value"] (spD K g_p_is_set)) : FnOk P w K mg base CX0 (k + 1) f fd ["size", "members"] (spD K g_p_read_members) := fn_d F sc_p_read_members fun cdv A outer s H E hr =>
  (dss_cons (ds_if (xt_not (xt_tru (xc G_p_is_set hr (by rfl) (xa_cons (de_v 0) (xa_cons (de_v 1) xa_nil)))))
    (dss_one xs_no)
    dss_nil)
  (dss_one (ds_ret (xc G_mask_of hr (by rfl) (xa_cons (de_v 0) (xa_cons (de_v 1) xa_nil))))))
theorem t_p_read_members {P : Program} {w : World} {K : PySem.W.Frag} {mg : Str → Option Value} {base : Heap} {f : Addr} {fd : FuncData} {k : Nat} (F : Fun K "_read_members" "_read_members" s_p_read_members f fd) (hb : Binds K fd ["size", "members"] []) (hm : mg "_read_members" = some (.ref f))
    (G_mask_of : Has P w K mg base k "mask_of" ["size", "members"] (spD K g_mask_of))
    (G_p_is_set : Has P w K mg base k "_is_set" ["size", "value"] (spD K g_p_is_set)) : Has P w K mg base (k + 1) "_read_members" ["size", "members"] (spD K g_p_read_members) := ⟨f, fd, f_p_read_members F hb hm G_mask_of G_p_is_set, hb, hm, F.kp⟩
abbrev s_dropped : Stmt := top 18
theorem sc_dropped : FnScope ["size", "family", "members", "masks", "left_out", "mask"] ["size", "family", "members"] (defScope s_dropped) := ⟨rfl, rfl, rfl, by decide +kernel, rfl, by decide +kernel, by decide +kernel⟩
theorem f_dropped {P : Program} {w : World} {K : PySem.W.Frag} {mg : Str → Option Value} {base : Heap} {f : Addr} {fd : FuncData} {k : Nat} (F : Fun K "dropped" "dropped" s_dropped f fd) (hb : Binds K fd ["size", "family", "members"] []) (hm : mg "dropped" = some (.ref f))
    (G_family_of : Has P w K mg base k "family_of" ["size", "masks"] (spD K g_family_of))
    (G_least_masks : Has P w K mg base k "least_masks" ["masks"] (spD K g_least_masks))
    (G_p_read_family : Has P w K mg base k "_read_family" ["size", "family"] (spD K g_p_read_family))
    (G_p_read_members : Has P w K mg base k "_read_members" ["size", "members"] (spD K g_p_read_members)) : FnOk P w K mg base CX0 (k + 1) f fd ["size", "family", "members"] (spD K g_dropped) := fn_d F sc_dropped fun cdv A outer s H E hr =>
  (dss_cons (ds_set (i := 3) sc_dropped.nd rfl (by first | exact Or.inl rfl | exact Or.inr rfl) (xc G_p_read_family hr (by rfl) (xa_cons (de_v 0) (xa_cons (de_v 1) xa_nil))))
  (dss_cons (ds_set (i := 4) sc_dropped.nd rfl (by first | exact Or.inl rfl | exact Or.inr rfl) (xc G_p_read_members hr (by rfl) (xa_cons (de_v 0) (xa_cons (de_v 2) xa_nil))))
  (dss_one (ds_ret (xc G_family_of hr (by rfl) (xa_cons (de_v 0) (xa_cons (xc G_least_masks hr (by rfl) (xa_cons (xe_fr (df_lc (own := [("mask", 5)]) rfl sc_dropped.nd (xi_seq (de_v 3)) (blkOk_by (by kernel_rfl)) (fun _ _ _ _ _ => (dg_name 5 sc_dropped.nd rfl (by first | exact Or.inl rfl | exact Or.inr rfl))) (fun _ _ _ _ _ => (dts_one (xt_cmp (opd_eq hr) (xe_op opd_and (de_v 5) (de_v 4)) de_int (nomark _)))) (fun _ _ _ _ _ => (de_v 5)))) xa_nil)) xa_nil)))))))
theorem t_dropped {P : Program} {w : World} {K : PySem.W.Frag} {mg : Str → Option Value} {base : Heap} {f : Addr} {fd : FuncData} {k : Nat} (F : Fun K "dropped" "dropped" s_dropped f fd) (hb : Binds K fd ["size", "family", "members"] []) (hm : mg "dropped" = some (.ref f))
    (G_family_of : Has P w K mg base k "family_of" ["size", "masks"] (spD K g_family_of))
    (G_least_masks : Has P w K mg base k "least_masks" ["masks"] (spD K g_least_masks))
    (G_p_read_family : Has P w K mg base k "_read_family" ["size", "family"] (spD K g_p_read_family))
    (G_p_read_members : Has P w K mg base k "_read_members" ["size", "members"] (spD K g_p_read_members)) : Has P w K mg base (k + 1) "dropped" ["size", "family", "members"] (spD K g_dropped) := ⟨f, fd, f_dropped F hb hm G_family_of G_least_masks G_p_read_family G_p_read_members, hb, hm, F.kp⟩
abbrev s_taken : Stmt := top 19
theorem sc_taken : FnScope ["size", "family", "members", "masks", "left_out", "mask"] ["size", "family", "members"] (defScope s_taken) := ⟨rfl, rfl, rfl, by decide +kernel, rfl, by decide +kernel, by decide +kernel⟩
theorem f_taken {P : Program} {w : World} {K : PySem.W.Frag} {mg : Str → Option Value} {base : Heap} {f : Addr} {fd : FuncData} {k : Nat} (F : Fun K "taken" "taken" s_taken f fd) (hb : Binds K fd ["size", "family", "members"] []) (hm : mg "taken" = some (.ref f))
    (G_family_of : Has P w K mg base k "family_of" ["size", "masks"] (spD K g_family_of))
    (G_least_masks : Has P w K mg base k "least_masks" ["masks"] (spD K g_least_masks))
    (G_p_read_family : Has P w K mg base k "_read_family" ["size", "family"] (spD K g_p_read_family))
    (G_p_read_members : Has P w K mg base k "_read_members" ["size", "members"] (spD K g_p_read_members)) : FnOk P w K mg base CX0 (k + 1) f fd ["size", "family", "members"] (spD K g_taken) := fn_d F sc_taken fun cdv A outer s H E hr =>
  (dss_cons (ds_set (i := 3) sc_taken.nd rfl (by first | exact Or.inl rfl | exact Or.inr rfl) (xc G_p_read_family hr (by rfl) (xa_cons (de_v 0) (xa_cons (de_v 1) xa_nil))))
  (dss_cons (ds_set (i := 4) sc_taken.nd rfl (by first | exact Or.inl rfl | exact Or.inr rfl) (xc G_p_read_members hr (by rfl) (xa_cons (de_v 0) (xa_cons (de_v 2) xa_nil))))
  (dss_one (ds_ret (xc G_family_of hr (by rfl) (xa_cons (de_v 0) (xa_cons (xc G_least_masks hr (by rfl) (xa_cons (xe_fr (df_lc (own := [("mask", 5)]) rfl sc_taken.nd (xi_seq (de_v 3)) (blkOk_by (by kernel_rfl)) (fun _ _ _ _ _ => (dg_name 5 sc_taken.nd rfl (by first | exact Or.inl rfl | exact Or.inr rfl))) (fun _ _ _ _ _ => dts_nil) (fun _ _ _ _ _ => (xe_op opd_sub (de_v 5) (xe_op opd_and (de_v 5) (de_v 4)))))) xa_nil)) xa_nil)))))))
theorem t_taken {P : Program} {w : World} {K : PySem.W.Frag} {mg : Str → Option Value} {base : Heap} {f : Addr} {fd : FuncData} {k : Nat} (F : Fun K "taken" "taken" s_taken f fd) (hb : Binds K fd ["size", "family", "members"] []) (hm : mg "taken" = some (.ref f))
    (G_family_of : Has P w K mg base k "family_of" ["size", "masks"] (spD K g_family_of))
    (G_least_masks : Has P w K mg base k "least_masks" ["masks"] (spD K g_least_masks))
    (G_p_read_family : Has P w K mg base k "_read_family" ["size", "family"] (spD K g_p_read_family))
    (G_p_read_members : Has P w K mg base k "_read_members" ["size", "members"] (spD K g_p_read_members)) : Has P w K mg base (k + 1) "taken" ["size", "family", "members"] (spD K g_taken) := ⟨f, fd, f_taken F hb hm G_family_of G_least_masks G_p_read_family G_p_read_members, hb, hm, F.kp⟩
abbrev s_law_cell_e350a : Stmt := top 24
theorem sc_law_cell_e350a : FnScope ["script", "k"] ["script", "k"] (defScope s_law_cell_e350a) := ⟨rfl, rfl, rfl, by decide +kernel, rfl, by decide +kernel, by decide +kernel⟩
theorem f_law_cell_e350a {P : Program} {w : World} {K : PySem.W.Frag} {mg : Str → Option Value} {base : Heap} {f : Addr} {fd : FuncData} {k : Nat} (F : Fun K "_law_cell" "_law_cell" s_law_cell_e350a f fd) (hb : Binds K fd ["script", "k"] []) (hm : mg "_law_cell" = some (.ref f))
    (y_int : mg "int" = none)
    (y_len : mg "len" = none) : FnOk P w K mg base CX0 (k + 1) f fd ["script", "k"] (spD K g_law_cell_e350a) := fn_d F sc_law_cell_e350a fun cdv A outer s H E hr =>
  (dss_cons (ds_if (xt_cmp opd_lt (de_v 1) (xcB cd_len (by rfl) y_len (by decide +kernel) (xa_cons (de_v 0) xa_nil)) (nomark _))
    (dss_one (ds_ret (xcT cd_int (by rfl) y_int (by decide +kernel) (xa_cons (xe_ix (de_v 0) (de_v 1) (fun _ _ => rfl)) xa_nil))))
    dss_nil)
  (dss_one (ds_ret de_int)))
theorem t_law_cell_e350a {P : Program} {w : World} {K : PySem.W.Frag} {mg : Str → Option Value} {base : Heap} {f : Addr} {fd : FuncData} {k : Nat} (F : Fun K "_law_cell" "_law_cell" s_law_cell_e350a f fd) (hb : Binds K fd ["script", "k"] []) (hm : mg "_law_cell" = some (.ref f))
    (y_int : mg "int" = none)
    (y_len : mg "len" = none) : Has P w K mg base (k + 1) "_law_cell" ["script", "k"] (spD K g_law_cell_e350a) := ⟨f, fd, f_law_cell_e350a F hb hm y_int y_len, hb, hm, F.kp⟩
abbrev s_law_set_3b7aa : Stmt := top 25
theorem sc_law_set_3b7aa : FnScope ["bits", "many", "member"] ["bits", "many"] (defScope s_law_set_3b7aa) := ⟨rfl, rfl, rfl, by decide +kernel, rfl, by decide +kernel, by decide +kernel⟩
theorem f_law_set_3b7aa {P : Program} {w : World} {K : PySem.W.Frag} {mg : Str → Option Value} {base : Heap} {f : Addr} {fd : FuncData} {k : Nat} (F : Fun K "_law_set" "_law_set" s_law_set_3b7aa f fd) (hb : Binds K fd ["bits", "many"] []) (hm : mg "_law_set" = some (.ref f))
    (y_range : mg "range" = none) : FnOk P w K mg base CX0 (k + 1) f fd ["bits", "many"] (spD K g_law_set_3b7aa) := fn_d F sc_law_set_3b7aa fun cdv A outer s H E hr =>
  (dss_one (ds_ret (xe_fr (df_lc (own := [("member", 2)]) rfl sc_law_set_3b7aa.nd (xi_range1 (by rfl) y_range (xa_cons (de_v 1) xa_nil)) (blkOk_by (by kernel_rfl)) (fun _ _ _ _ _ => (dg_name 2 sc_law_set_3b7aa.nd rfl (by first | exact Or.inl rfl | exact Or.inr rfl))) (fun _ _ _ _ _ => (dts_one (xt_cmp (opd_eq hr) (xe_op opd_and (xe_op opd_shr (de_v 0) (de_v 2)) de_int) de_int (nomark _)))) (fun _ _ _ _ _ => (de_v 2))))))
theorem t_law_set_3b7aa {P : Program} {w : World} {K : PySem.W.Frag} {mg : Str → Option Value} {base : Heap} {f : Addr} {fd : FuncData} {k : Nat} (F : Fun K "_law_set" "_law_set" s_law_set_3b7aa f fd) (hb : Binds K fd ["bits", "many"] []) (hm : mg "_law_set" = some (.ref f))
    (y_range : mg "range" = none) : Has P w K mg base (k + 1) "_law_set" ["bits", "many"] (spD K g_law_set_3b7aa) := ⟨f, fd, f_law_set_3b7aa F hb hm y_range, hb, hm, F.kp⟩
abbrev s_law_is_family_66f5c : Stmt := top 26
theorem sc_law_is_family_66f5c : FnScope ["found", "row", "one"] ["found"] (defScope s_law_is_family_66f5c) := ⟨rfl, rfl, rfl, by decide +kernel, rfl, by decide +kernel, by decide +kernel⟩
theorem f_law_is_family_66f5c {P : Program} {w : World} {K : PySem.W.Frag} {mg : Str → Option Value} {base : Heap} {f : Addr} {fd : FuncData} {k : Nat} (F : Fun K "_law_is_family" "_law_is_family" s_law_is_family_66f5c f fd) (hb : Binds K fd ["found"] []) (hm : mg "_law_is_family" = some (.ref f))
    (y_bool : mg "bool" = none)
    (y_int : mg "int" = none)
    (y_isinstance : mg "isinstance" = none)
    (y_list : mg "list" = none) : FnOk P w K mg base CX0 (k + 1) f fd ["found"] (spD K g_law_is_family_66f5c) := fn_d F sc_law_is_family_66f5c fun cdv A outer s H E hr =>
  (dss_cons (ds_if (xt_not (xt_tru (xe_isi (n := "list") (by decide) (by rfl) y_isinstance (by rfl) y_list (by decide +kernel) (de_v 0))))
    (dss_one (ds_ret de_bl))
    dss_nil)
  (dss_cons (ds_for PassesOwn.never rfl (xi_seq (de_v 0)) (dg_name 1 sc_law_is_family_66f5c.nd rfl (by first | exact Or.inl rfl | exact Or.inr rfl))
    (dss_cons (ds_if (xt_not (xt_tru (xe_isi (n := "list") (by decide) (by rfl) y_isinstance (by rfl) y_list (by decide +kernel) (de_v 1))))
    (dss_one (ds_ret de_bl))
    dss_nil)
  (dss_one (ds_if (xt_cmp (opd_ne hr) (xe_fr (df_lc (own := [("one", 2)]) rfl sc_law_is_family_66f5c.nd (xi_seq (de_v 1)) (blkOk_by (by kernel_rfl)) (fun _ _ _ _ _ => (dg_name 2 sc_law_is_family_66f5c.nd rfl (by first | exact Or.inl rfl | exact Or.inr rfl))) (fun _ _ _ _ _ => (dts_one (DW.pt (dw_or (xt_not (xt_tru (xe_isi (n := "int") (by decide) (by rfl) y_isinstance (by rfl) y_int (by decide +kernel) (de_v 2)))) (dw_or1 (xt_tru (xe_isi (n := "bool") (by decide) (by rfl) y_isinstance (by rfl) y_bool (by decide +kernel) (de_v 2)))))))) (fun _ _ _ _ _ => (de_v 2)))) (xe_fr (xf_lst xa_nil)) (nomark _))
    (dss_one (ds_ret de_bl))
    dss_nil))))
  (dss_one (ds_ret de_bl))))
theorem t_law_is_family_66f5c {P : Program} {w : World} {K : PySem.W.Frag} {mg : Str → Option Value} {base : Heap} {f : Addr} {fd : FuncData} {k : Nat} (F : Fun K "_law_is_family" "_law_is_family" s_law_is_family_66f5c f fd) (hb : Binds K fd ["found"] []) (hm : mg "_law_is_family" = some (.ref f))
    (y_bool : mg "bool" = none)
    (y_int : mg "int" = none)
    (y_isinstance : mg "isinstance" = none)
    (y_list : mg "list" = none) : Has P w K mg base (k + 1) "_law_is_family" ["found"] (spD K g_law_is_family_66f5c) := ⟨f, fd, f_law_is_family_66f5c F hb hm y_bool y_int y_isinstance y_list, hb, hm, F.kp⟩
abbrev s_law_listed_a3095 : Stmt := top 27
theorem sc_law_listed_a3095 : FnScope ["rows", "pair", "row"] ["rows"] (defScope s_law_listed_a3095) := ⟨rfl, rfl, rfl, by decide +kernel, rfl, by decide +kernel, by decide +kernel⟩
theorem f_law_listed_a3095 {P : Program} {w : World} {K : PySem.W.Frag} {mg : Str → Option Value} {base : Heap} {f : Addr} {fd : FuncData} {k : Nat} (F : Fun K "_law_listed" "_law_listed" s_law_listed_a3095 f fd) (hb : Binds K fd ["rows"] []) (hm : mg "_law_listed" = some (.ref f))
    (y_len : mg "len" = none)
    (y_list : mg "list" = none)
    (y_set : mg "set" = none)
    (y_sorted : mg "sorted" = none)
    (y_tuple : mg "tuple" = none) : FnOk P w K mg base CX0 (k + 1) f fd ["rows"] (spD K g_law_listed_a3095) := fn_d F sc_law_listed_a3095 fun cdv A outer s H E hr =>
  (dss_one (ds_ret (xe_fr (df_lc (own := [("pair", 1)]) rfl sc_law_listed_a3095.nd (xi_seq (xe_fr (df_sortN hr rfl (by rfl) y_sorted (by rfl) y_set (xe_fr (df_lc (own := [("row", 2)]) rfl sc_law_listed_a3095.nd (xi_seq (de_v 0)) (blkOk_by (by kernel_rfl)) (fun _ _ _ _ _ => (dg_name 2 sc_law_listed_a3095.nd rfl (by first | exact Or.inl rfl | exact Or.inr rfl))) (fun _ _ _ _ _ => dts_nil) (fun _ _ _ _ _ => (xe_tup (xa_cons (xcB cd_len (by rfl) y_len (by decide +kernel) (xa_cons (de_v 2) xa_nil)) (xa_cons (xcT cd_tuple (by rfl) y_tuple (by decide +kernel) (xa_cons (de_v 2) xa_nil)) xa_nil))))))))) (blkOk_by (by kernel_rfl)) (fun _ _ _ _ _ => (dg_name 1 sc_law_listed_a3095.nd rfl (by first | exact Or.inl rfl | exact Or.inr rfl))) (fun _ _ _ _ _ => dts_nil) (fun _ _ _ _ _ => (xe_fr (xcTF cf_list (by rfl) y_list (by decide +kernel) (xa_cons (xe_ix (de_v 1) de_int (fun _ _ => rfl)) xa_nil))))))))
theorem t_law_listed_a3095 {P : Program} {w : World} {K : PySem.W.Frag} {mg : Str → Option Value} {base : Heap} {f : Addr} {fd : FuncData} {k : Nat} (F : Fun K "_law_listed" "_law_listed" s_law_listed_a3095 f fd) (hb : Binds K fd ["rows"] []) (hm : mg "_law_listed" = some (.ref f))
    (y_len : mg "len" = none)
    (y_list : mg "list" = none)
    (y_set : mg "set" = none)
    (y_sorted : mg "sorted" = none)
    (y_tuple : mg "tuple" = none) : Has P w K mg base (k + 1) "_law_listed" ["rows"] (spD K g_law_listed_a3095) := ⟨f, fd, f_law_listed_a3095 F hb hm y_len y_list y_set y_sorted y_tuple, hb, hm, F.kp⟩
abbrev s_law_least_0e04d : Stmt := top 28
theorem sc_law_least_0e04d : FnScope ["rows", "bits", "one"] ["rows"] (defScope s_law_least_0e04d) := ⟨rfl, rfl, rfl, by decide +kernel, rfl, by decide +kernel, by decide +kernel⟩
theorem f_law_least_0e04d {P : Program} {w : World} {K : PySem.W.Frag} {mg : Str → Option Value} {base : Heap} {f : Addr} {fd : FuncData} {k : Nat} (F : Fun K "_law_least" "_law_least" s_law_least_0e04d f fd) (hb : Binds K fd ["rows"] []) (hm : mg "_law_least" = some (.ref f))
     : FnOk P w K mg base CX0 (k + 1) f fd ["rows"] (spD K g_law_least_0e04d) := fn_d F sc_law_least_0e04d fun cdv A outer s H E hr =>
  (dss_one (ds_ret (xe_fr (df_lc (own := [("bits", 1)]) rfl sc_law_least_0e04d.nd (xi_seq (de_v 0)) (blkOk_by (by kernel_rfl)) (fun _ _ _ _ _ => (dg_name 1 sc_law_least_0e04d.nd rfl (by first | exact Or.inl rfl | exact Or.inr rfl))) (fun _ _ _ _ _ => (dts_one (xt_cmp (opd_eq hr) (xe_fr (df_lc (own := [("one", 2)]) rfl sc_law_least_0e04d.nd (xi_seq (de_v 0)) (blkOk_by (by kernel_rfl)) (fun _ _ _ _ _ => (dg_name 2 sc_law_least_0e04d.nd rfl (by first | exact Or.inl rfl | exact Or.inr rfl))) (fun _ _ _ _ _ => (dts_one (DW.pt (dw_and (xt_cmp (opd_ne hr) (de_v 2) (de_v 1) (nomark _)) (dw_and1 (xt_cmp (opd_eq hr) (xe_op opd_and (de_v 2) (de_v 1)) (de_v 2) (nomark _))))))) (fun _ _ _ _ _ => (de_v 2)))) (xe_fr (xf_lst xa_nil)) (nomark _)))) (fun _ _ _ _ _ => (de_v 1))))))
theorem t_law_least_0e04d {P : Program} {w : World} {K : PySem.W.Frag} {mg : Str → Option Value} {base : Heap} {f : Addr} {fd : FuncData} {k : Nat} (F : Fun K "_law_least" "_law_least" s_law_least_0e04d f fd) (hb : Binds K fd ["rows"] []) (hm : mg "_law_least" = some (.ref f))
     : Has P w K mg base (k + 1) "_law_least" ["rows"] (spD K g_law_least_0e04d) := ⟨f, fd, f_law_least_0e04d F hb hm , hb, hm, F.kp⟩
abbrev s_law_k18 : Stmt := top 29
theorem sc_law_k18 : FnScope ["script", "size", "rows", "kept", "passed", "barred", "members", "free", "found", "left", "cell", "bits", "row"] ["script"] (defScope s_law_k18) := ⟨rfl, rfl, rfl, by decide +kernel, rfl, by decide +kernel, by decide +kernel⟩
theorem f_law_k18 {P : Program} {w : World} {K : PySem.W.Frag} {mg : Str → Option Value} {base : Heap} {f : Addr} {fd : FuncData} {k : Nat} (F : Fun K "law" "law" s_law_k18 f fd) (hb : Binds K fd ["script"] []) (hm : mg "law" = some (.ref f))
    (y_int : mg "int" = none)
    (y_list : mg "list" = none)
    (G_dropped : Has P w K mg base k "dropped" ["size", "family", "members"] (spD K g_dropped))
    (G_taken : Has P w K mg base k "taken" ["size", "family", "members"] (spD K g_taken))
    (G_law_cell_e350a : Has P w K mg base k "_law_cell" ["script", "k"] (spD K g_law_cell_e350a))
    (G_law_set_3b7aa : Has P w K mg base k "_law_set" ["bits", "many"] (spD K g_law_set_3b7aa))
    (G_law_is_family_66f5c : Has P w K mg base k "_law_is_family" ["found"] (spD K g_law_is_family_66f5c))
    (G_law_listed_a3095 : Has P w K mg base k "_law_listed" ["rows"] (spD K g_law_listed_a3095))
    (G_law_least_0e04d : Has P w K mg base k "_law_least" ["rows"] (spD K g_law_least_0e04d)) : FnOk P w K mg base CX0 (k + 1) f fd ["script"] (spD K g_law_k18) := fn_d F sc_law_k18 fun cdv A outer s H E hr =>
  (dss_cons (ds_set (i := 1) sc_law_k18.nd rfl (by first | exact Or.inl rfl | exact Or.inr rfl) (xe_op opd_mod (xcT cd_int (by rfl) y_int (by decide +kernel) (xa_cons (xc G_law_cell_e350a hr (by rfl) (xa_cons (de_v 0) (xa_cons de_int xa_nil))) xa_nil)) de_int))
  (dss_cons (ds_setLc (i := 2) (own := [("cell", 10)]) rfl sc_law_k18.nd rfl rfl (sw_true rfl rfl rfl (by decide +kernel)) (xi_seq (xe_fr (xf_slice (de_v 0) (xo_some de_int) (xo_some de_int)))) (blkOk_by (by kernel_rfl)) (fun _ _ _ _ _ => (dg_name 10 sc_law_k18.nd rfl (by first | exact Or.inl rfl | exact Or.inr rfl))) (fun _ _ _ _ _ => dts_nil) (fun _ _ _ _ _ => (xe_op opd_mod (xcT cd_int (by rfl) y_int (by decide +kernel) (xa_cons (de_v 10) xa_nil)) (xe_op opd_shl de_int (de_v 1)))))
  (dss_cons (ds_setLc (i := 3) (own := [("bits", 11)]) rfl sc_law_k18.nd rfl rfl (sw_true rfl rfl rfl (by decide +kernel)) (xi_seq (de_v 2)) (blkOk_by (by kernel_rfl)) (fun _ _ _ _ _ => (dg_name 11 sc_law_k18.nd rfl (by first | exact Or.inl rfl | exact Or.inr rfl))) (fun _ _ _ _ _ => dts_nil) (fun _ _ _ _ _ => (xc G_law_set_3b7aa hr (by rfl) (xa_cons (de_v 11) (xa_cons (de_v 1) xa_nil)))))
  (dss_cons (ds_setLc (i := 4) (own := [("row", 12)]) rfl sc_law_k18.nd rfl rfl (sw_true rfl rfl rfl (by decide +kernel)) (xi_seq (de_v 3)) (blkOk_by (by kernel_rfl)) (fun _ _ _ _ _ => (dg_name 12 sc_law_k18.nd rfl (by first | exact Or.inl rfl | exact Or.inr rfl))) (fun _ _ _ _ _ => dts_nil) (fun _ _ _ _ _ => (xe_fr (xcTF cf_list (by rfl) y_list (by decide +kernel) (xa_cons (de_v 12) xa_nil)))))
  (dss_cons (ds_for PassesOwn.never rfl (xi_seq (xe_fr (xf_lst (xa_cons (xe_op opd_mod (xcT cd_int (by rfl) y_int (by decide +kernel) (xa_cons (xc G_law_cell_e350a hr (by rfl) (xa_cons (de_v 0) (xa_cons de_int xa_nil))) xa_nil)) (xe_op opd_shl de_int (de_v 1))) (xa_cons de_int (xa_cons (xe_op opd_sub (xe_op opd_shl de_int (de_v 1)) de_int) xa_nil)))))) (dg_name 5 sc_law_k18.nd rfl (by first | exact Or.inl rfl | exact Or.inr rfl))
    (dss_cons (ds_set (i := 6) sc_law_k18.nd rfl (by first | exact Or.inl rfl | exact Or.inr rfl) (xc G_law_set_3b7aa hr (by rfl) (xa_cons (de_v 5) (xa_cons (de_v 1) xa_nil))))
  (dss_cons (ds_set (i := 7) sc_law_k18.nd rfl (by first | exact Or.inl rfl | exact Or.inr rfl) (xc G_law_least_0e04d hr (by rfl) (xa_cons (xe_fr (df_lc (own := [("bits", 11)]) rfl sc_law_k18.nd (xi_seq (de_v 2)) (blkOk_by (by kernel_rfl)) (fun _ _ _ _ _ => (dg_name 11 sc_law_k18.nd rfl (by first | exact Or.inl rfl | exact Or.inr rfl))) (fun _ _ _ _ _ => (dts_one (xt_cmp (opd_eq hr) (xe_op opd_and (de_v 11) (de_v 5)) de_int (nomark _)))) (fun _ _ _ _ _ => (de_v 11)))) xa_nil)))
  (dss_cons (ds_set (i := 8) sc_law_k18.nd rfl (by first | exact Or.inl rfl | exact Or.inr rfl) (xc G_dropped hr (by rfl) (xa_cons (de_v 1) (xa_cons (de_v 4) (xa_cons (de_v 6) xa_nil)))))
  (dss_cons (ds_if (DW.pt (dw_or (xt_not (xt_tru (xc G_law_is_family_66f5c hr (by rfl) (xa_cons (de_v 8) xa_nil)))) (dw_or1 (xt_cmp (opd_ne hr) (de_v 8) (xc G_law_listed_a3095 hr (by rfl) (xa_cons (xe_fr (df_lc (own := [("bits", 11)]) rfl sc_law_k18.nd (xi_seq (de_v 7)) (blkOk_by (by kernel_rfl)) (fun _ _ _ _ _ => (dg_name 11 sc_law_k18.nd rfl (by first | exact Or.inl rfl | exact Or.inr rfl))) (fun _ _ _ _ _ => dts_nil) (fun _ _ _ _ _ => (xc G_law_set_3b7aa hr (by rfl) (xa_cons (de_v 11) (xa_cons (de_v 1) xa_nil)))))) xa_nil)) (nomark _)))))
    (dss_one (ds_ret de_bl))
    dss_nil)
  (dss_cons (ds_set (i := 9) sc_law_k18.nd rfl (by first | exact Or.inl rfl | exact Or.inr rfl) (xc G_law_least_0e04d hr (by rfl) (xa_cons (xe_fr (df_lc (own := [("bits", 11)]) rfl sc_law_k18.nd (xi_seq (de_v 2)) (blkOk_by (by kernel_rfl)) (fun _ _ _ _ _ => (dg_name 11 sc_law_k18.nd rfl (by first | exact Or.inl rfl | exact Or.inr rfl))) (fun _ _ _ _ _ => dts_nil) (fun _ _ _ _ _ => (xe_op opd_sub (de_v 11) (xe_op opd_and (de_v 11) (de_v 5)))))) xa_nil)))
  (dss_cons (ds_set (i := 8) sc_law_k18.nd rfl (by first | exact Or.inl rfl | exact Or.inr rfl) (xc G_taken hr (by rfl) (xa_cons (de_v 1) (xa_cons (de_v 4) (xa_cons (de_v 6) xa_nil)))))
  (dss_cons (ds_if (DW.pt (dw_or (xt_not (xt_tru (xc G_law_is_family_66f5c hr (by rfl) (xa_cons (de_v 8) xa_nil)))) (dw_or1 (xt_cmp (opd_ne hr) (de_v 8) (xc G_law_listed_a3095 hr (by rfl) (xa_cons (xe_fr (df_lc (own := [("bits", 11)]) rfl sc_law_k18.nd (xi_seq (de_v 9)) (blkOk_by (by kernel_rfl)) (fun _ _ _ _ _ => (dg_name 11 sc_law_k18.nd rfl (by first | exact Or.inl rfl | exact Or.inr rfl))) (fun _ _ _ _ _ => dts_nil) (fun _ _ _ _ _ => (xc G_law_set_3b7aa hr (by rfl) (xa_cons (de_v 11) (xa_cons (de_v 1) xa_nil)))))) xa_nil)) (nomark _)))))
    (dss_one (ds_ret de_bl))
    dss_nil)
  (dss_one (ds_if (DW.pt (dw_or (xt_cmp (opd_ne hr) (de_v 6) (xc G_law_set_3b7aa hr (by rfl) (xa_cons (de_v 5) (xa_cons (de_v 1) xa_nil))) (nomark _)) (dw_or1 (xt_cmp (opd_ne hr) (de_v 4) (de_v 3) (nomark _)))))
    (dss_one (ds_ret de_bl))
    dss_nil))))))))))
  (dss_one (ds_ret de_bl)))))))
end DL
namespace Fa
open PySem PySem.Spec PyProof.Rows L2
def maskOf (n : Nat) (ms : List Nat) : Nat := ms.foldl (fun a m => a ||| 2 ^ (n - 1 - m)) 0
def lset (n b : Nat) : List Nat := (List.range n).filter b.testBit
def rev (n b : Nat) : Nat := maskOf n (lset n b)
theorem fold_bit (n : Nat) (i : Nat) : ∀ (ms : List Nat) (a : Nat), (ms.foldl (fun a m => a ||| 2 ^ (n - 1 - m)) a).testBit i = (a.testBit i || ms.any fun m => decide (n - 1 - m = i))
  | [], a => by simp
  | m :: ms, a => by
    rw [List.foldl_cons, fold_bit n i ms, Nat.testBit_or, List.any_cons, Nat.testBit_two_pow, Bool.or_assoc]
theorem maskOf_bit (n i : Nat) (ms : List Nat) : (maskOf n ms).testBit i = ms.any fun m => decide (n - 1 - m = i) := by
  unfold maskOf
  rw [fold_bit, Nat.zero_testBit, Bool.false_or]
theorem lset_mem {n b m : Nat} : m ∈ lset n b ↔ m < n ∧ b.testBit m = true := by
  unfold lset
  rw [List.mem_filter, List.mem_range]
theorem rev_bit (n b i : Nat) : (rev n b).testBit i = (decide (i < n) && b.testBit (n - 1 - i)) := by
  unfold rev
  rw [maskOf_bit]
  apply Bool.eq_iff_iff.mpr
  rw [List.any_eq_true, Bool.and_eq_true, decide_eq_true_eq]
  constructor
  · rintro ⟨m, hm, e⟩
    obtain ⟨h1, h2⟩ := lset_mem.mp hm
    have e := of_decide_eq_true e
    have : n - 1 - i = m := by omega
    rw [this]
    exact ⟨by omega, h2⟩
  · rintro ⟨h1, h2⟩
    exact ⟨n - 1 - i, lset_mem.mpr ⟨by omega, h2⟩, decide_eq_true (by omega)⟩
theorem lt_of_bits {n b : Nat} (h : ∀ i, n ≤ i → b.testBit i = false) : b < 2 ^ n := Nat.lt_pow_two_of_testBit b h
theorem bit_lt {n b i : Nat} (h : b < 2 ^ n) (hi : n ≤ i) : b.testBit i = false := Nat.testBit_lt_two_pow (Nat.lt_of_lt_of_le h (Nat.pow_le_pow_right (by decide) hi))
theorem rev_lt (n b : Nat) : rev n b < 2 ^ n := lt_of_bits fun i hi => by
  rw [rev_bit, decide_eq_false (by omega), Bool.false_and]
theorem rev_rev {n b : Nat} (h : b < 2 ^ n) : rev n (rev n b) = b := by
  apply Nat.eq_of_testBit_eq
  intro i
  rw [rev_bit, rev_bit]
  by_cases e : i < n
  · rw [decide_eq_true e, decide_eq_true (by omega), Bool.true_and, Bool.true_and]
    congr 1
    omega
  · rw [decide_eq_false e, Bool.false_and, bit_lt h (by omega)]
theorem rev_and (n a b : Nat) : rev n a &&& rev n b = rev n (a &&& b) := by
  apply Nat.eq_of_testBit_eq
  intro i
  rw [Nat.testBit_and, rev_bit, rev_bit, rev_bit, Nat.testBit_and]
  cases decide (i < n) <;> simp
theorem rev_zero (n : Nat) : rev n 0 = 0 := by
  apply Nat.eq_of_testBit_eq
  intro i
  rw [rev_bit, Nat.zero_testBit, Nat.zero_testBit, Bool.and_false]
theorem rev_inj {n a b : Nat} (ha : a < 2 ^ n) (hb : b < 2 ^ n) (h : rev n a = rev n b) : a = b := by
  rw [← rev_rev ha, ← rev_rev hb, h]
theorem rev_eq_zero {n b : Nat} (h : b < 2 ^ n) : rev n b = 0 ↔ b = 0 := by
  constructor
  · intro e
    exact rev_inj h (Nat.two_pow_pos n) (by rw [e, rev_zero])
  · rintro rfl
    exact rev_zero n
theorem and_lt {n a b : Nat} (h : a < 2 ^ n) : a &&& b < 2 ^ n := Nat.lt_of_le_of_lt Nat.and_le_left h
theorem xor_add : ∀ (a b : Nat), (a ^^^ b) + 2 * (a &&& b) = a + b := by
  intro a
  induction a using Nat.strongRecOn with
  | _ a ih =>
    intro b
    by_cases h : a = 0
    · subst h
      rw [Nat.zero_xor, Nat.zero_and, Nat.mul_zero]
      omega
    · have e := ih (a / 2) (by omega) (b / 2)
      have x1 := Nat.xor_div_two (a := a) (b := b)
      have x2 := Nat.and_div_two (a := a) (b := b)
      have y1 := Nat.xor_mod_two_eq_one (a := a) (b := b)
      have y2 := Nat.and_mod_two_eq_one (a := a) (b := b)
      rw [← x1, ← x2] at e
      omega
end Fa
namespace DL
open PySem PySem.Spec PyProof.Rows L2 Lk
section
variable {α β : Type} {r r' : En} {m : M α} {k : α → M β} {a : α} {d e z : PyData} {ds es : List PyData} {i : Nat} {ma mb mc : M PyData} {ml : M (List PyData)} {mt mu : M Bool}
@[simp] theorem e_bind : M.bind m k r = (match m r with
  | some (.ok a r') => k a r'
  | some (.ex c p) => some (.ex c p)
  | none => none) := rfl
@[simp] theorem e_ret : (M.ret a : M α) r = some (.ok a r) := rfl
@[simp] theorem e_lift_some : (M.lift (some a) : M α) r = some (.ok a r) := rfl
@[simp] theorem e_lift_none : (M.lift none : M α) r = none := rfl
@[simp] theorem e_map {f : α → β} : M.map f m r = M.bind m (fun a => M.ret (f a)) r := rfl
@[simp] theorem e_V : mV i r = (match r[i]? with
  | some (.pl d) => some (.ok d r)
  | _ => none) := rfl
@[simp] theorem e_op2 {g : PyData → PyData → Option PyData} : mOp2 g ma mb r = M.bind ma (fun d => mb.bind fun e => M.lift (g d e)) r := rfl
@[simp] theorem e_opT {g : PyData → PyData → Option PyData} : mOpT g ma mb r = M.bind ma (fun d => mb.bind fun e => M.lift ((g d e).bind asBool)) r := rfl
@[simp] theorem e_cons : mCons ma ml r = M.bind ma (fun d => ml.bind fun ds => M.ret (d :: ds)) r := rfl
@[simp] theorem e_nil : mNil r = some (.ok [] r) := rfl
@[simp] theorem e_call {g : List PyData → Option PyData} : mCall g ml r = M.bind ml (fun ds => M.lift (g ds)) r := rfl
@[simp] theorem e_callK {gD : List PyData → List PyData} {g : List PyData → Option PyData} : mCallK gD g ml r = M.bind ml (fun ds => M.lift (g (gD ds))) r := rfl
@[simp] theorem e_callF {g : List PyData → Option (List PyData)} : mCallF g ml r = M.bind ml (fun ds => M.lift (g ds)) r := rfl
@[simp] theorem e_tup : mTup ml r = M.bind ml (fun ds => M.lift (tupM ds)) r := rfl
@[simp] theorem e_lst : mLst ml r = M.bind ml (fun ds => M.lift (lstM ds)) r := rfl
@[simp] theorem e_new : mNew ml r = M.bind ml (fun ds => M.ret (.list ds)) r := rfl
@[simp] theorem e_val : mVal ma r = M.bind ma (fun d => M.lift (asBool d)) r := rfl
@[simp] theorem e_tru : mTru ma r = M.bind ma (fun d => M.lift (truD d)) r := rfl
@[simp] theorem e_notT : mNotT mt r = M.bind mt (fun b => M.ret (!b)) r := rfl
@[simp] theorem e_notV : mNotV ma r = M.bind ma (fun d => (M.lift (asBool d)).bind fun b => M.ret (.bool (!b))) r := rfl
@[simp] theorem e_isi {n : String} : mIsi n ma r = M.bind ma (fun d => M.ret (.bool (isTy n d))) r := rfl
@[simp] theorem e_neg : mNeg ma r = M.bind ma (fun d => M.lift (negM d)) r := rfl
@[simp] theorem e_seqI : mSeq ma r = M.bind ma (fun d => M.lift (asSeq d)) r := rfl
@[simp] theorem e_rng1 : mRng1 ml r = (match ml r with
  | some (.ok [d] r') => M.lift (rngM [d]) r'
  | some (.ok _ _) => none
  | some (.ex c p) => some (.ex c p)
  | none => none) := by
  unfold mRng1 M.bind
  cases ml r with
  | none => rfl
  | some o =>
    cases o with
    | ex c p => rfl
    | ok ds r' =>
      dsimp only
      match ds with
      | [] => rfl
      | [d] => rw [if_pos (show [d].length = 1 from rfl)]
      | _ :: _ :: _ => rw [if_neg (by simp)]; rfl
@[simp] theorem e_rng2 : mRng2 ml r = (match ml r with
  | some (.ok [d, e] r') => M.lift (rngM [d, e]) r'
  | some (.ok _ _) => none
  | some (.ex c p) => some (.ex c p)
  | none => none) := by
  unfold mRng2 M.bind
  cases ml r with
  | none => rfl
  | some o =>
    cases o with
    | ex c p => rfl
    | ok ds r' =>
      dsimp only
      match ds with
      | [] => rfl
      | [_] => rw [if_neg (by simp)]; rfl
      | [d, e] => rw [if_pos (show [d, e].length = 2 from rfl)]
      | _ :: _ :: _ :: _ => rw [if_neg (by simp)]; rfl
@[simp] theorem e_part : mPart ma r = M.bind ma (fun d => M.lift ((asInt d).map some)) r := rfl
@[simp] theorem e_nopart : mNoPart r = some (.ok none r) := rfl
@[simp] theorem e_slice {mlo mhi : M (Option Int)} : mSlice ma mlo mhi r = M.bind ma (fun d => mlo.bind fun l => mhi.bind fun h => M.lift ((asList d).map fun ds => cutD ds l h)) r := rfl
@[simp] theorem e_star : mStar ma ml r = M.bind ma (fun d => (M.lift (asSeq d)).bind fun xs => ml.bind fun ds => M.ret (xs ++ ds)) r := rfl
@[simp] theorem e_rep : mRep ml mb r = M.bind ml (fun xs => mb.bind fun d => M.lift (repM xs d)) r := rfl
@[simp] theorem e_and : mAnd mt mu r = M.bind mt (fun b => if b then mu else M.ret false) r := rfl
@[simp] theorem e_or : mOr mt mu r = M.bind mt (fun b => if b then M.ret true else mu) r := rfl
@[simp] theorem e_andV : mAndV ma mb r = M.bind ma (fun d => (M.lift (asBool d)).bind fun b => if b then mb else M.ret (.bool false)) r := rfl
@[simp] theorem e_orV : mOrV ma mb r = M.bind ma (fun d => (M.lift (asBool d)).bind fun b => if b then M.ret (.bool true) else mb) r := rfl
@[simp] theorem e_if {m n : M α} : mIf mt m n r = M.bind mt (fun b => if b then m else n) r := rfl
@[simp] theorem e_chain {f g : PyData → PyData → Option PyData} : mChain f g ma mb mc r = M.bind ma (fun d => mb.bind fun e => (M.lift ((f d e).bind asBool)).bind fun k => if k then mc.bind fun h => M.lift ((g e h).bind fun z => (asBool z).map PyData.bool) else M.ret (.bool false)) r := rfl
@[simp] theorem e_mt {T : String} {g : PyData → List PyData → Option PyData} : mMt T g ma ml r = M.bind ma (fun d => if hasT T d then ml.bind fun ds => M.lift (g d ds) else fun _ => none) r := rfl
@[simp] theorem e_lrng1 : mLRng1 ma r = M.bind ma (fun d => M.lift ((asInt d).bind fun n => if n.natAbs ≤ 1000000 then some (rngL 0 n.toNat) else none)) r := rfl
@[simp] theorem e_lenO : mLenO i r = (match ownOf r[i]? with
  | some ds => some (.ok (.int ds.length) r)
  | none => none) := rfl
@[simp] theorem e_ixO : mIxO i ma r = if (ownOf r[i]?).isSome then (ma.bind fun d r => match ownOf r[i]?, asInt d with
  | some ds, some j => (atI ds j).map fun z => .ok z r
  | _, _ => none) r else none := rfl
@[simp] theorem e_truO : mTruO i r = (match ownOf r[i]? with
  | some ds => some (.ok (!ds.isEmpty) r)
  | none => none) := rfl
@[simp] theorem e_pop : mPop i r = (match ownOf r[i]? with
  | some ds => (ds[ds.length - 1]?).map fun z => .ok z (upO i ds.dropLast r)
  | none => none) := rfl
@[simp] theorem e_own_ow : ownOf (some (.ow ds)) = some ds := rfl
@[simp] theorem e_own_io : ownOf (some (.io ds)) = some ds := rfl
@[simp] theorem e_asBool {b : Bool} : asBool (.bool b) = some b := rfl
@[simp] theorem e_asInt {b : Int} : asInt (.int b) = some b := rfl
@[simp] theorem e_asList : asList (.list ds) = some ds := rfl
@[simp] theorem e_asTup : asTup (.tuple ds) = some ds := rfl
@[simp] theorem e_asSeqL : asSeq (.list ds) = some ds := rfl
@[simp] theorem e_asSeqT : asSeq (.tuple ds) = some ds := rfl
@[simp] theorem e_truB {b : Bool} : truD (.bool b) = some b := rfl
@[simp] theorem e_truL : truD (.list ds) = some (!ds.isEmpty) := rfl
@[simp] theorem e_truT : truD (.tuple ds) = some (!ds.isEmpty) := rfl
@[simp] theorem e_addI {a b : Int} : addM (.int a) (.int b) = some (.int (a + b)) := rfl
@[simp] theorem e_subI {a b : Int} : subM (.int a) (.int b) = some (.int (a - b)) := rfl
@[simp] theorem e_ltI {a b : Int} : ltM (.int a) (.int b) = some (.bool (decide (a < b))) := rfl
@[simp] theorem e_leI {a b : Int} : leM (.int a) (.int b) = some (.bool (decide (a ≤ b))) := rfl
@[simp] theorem e_gtI {a b : Int} : gtM (.int a) (.int b) = some (.bool (decide (b < a))) := rfl
@[simp] theorem e_geI {a b : Int} : geM (.int a) (.int b) = some (.bool (decide (b ≤ a))) := rfl
@[simp] theorem e_eqI {a b : Int} : eqM (.int a) (.int b) = some (.bool (a == b)) := rfl
@[simp] theorem e_neI {a b : Int} : neM (.int a) (.int b) = some (.bool (!(a == b))) := rfl
@[simp] theorem e_eqB {a b : Bool} : eqM (.bool a) (.bool b) = some (.bool (a == b)) := rfl
@[simp] theorem e_neB {a b : Bool} : neM (.bool a) (.bool b) = some (.bool (!(a == b))) := rfl
@[simp] theorem e_isN : isM d .none = some (.bool (isNone d)) := rfl
@[simp] theorem e_isNotN : isNotM d .none = some (.bool (!isNone d)) := rfl
@[simp] theorem e_isNone : isNone .none = true := rfl
@[simp] theorem e_isNoneI {a : Int} : isNone (.int a) = false := rfl
@[simp] theorem e_isNoneB {a : Bool} : isNone (.bool a) = false := rfl
@[simp] theorem e_isNoneT : isNone (.tuple ds) = false := rfl
@[simp] theorem e_isNoneL : isNone (.list ds) = false := rfl
@[simp] theorem e_lenL : lenM [.list ds] = some (.int ds.length) := rfl
@[simp] theorem e_lenT : lenM [.tuple ds] = some (.int ds.length) := rfl
@[simp] theorem e_intI {a : Int} : intM [.int a] = some (.int a) := rfl
@[simp] theorem e_intB {b : Bool} : intM [.bool b] = some (.int (if b then 1 else 0)) := rfl
@[simp] theorem e_tupleL : tupleM [.list ds] = some (.tuple ds) := rfl
@[simp] theorem e_tupleT : tupleM [.tuple ds] = some (.tuple ds) := rfl
@[simp] theorem e_listL : listM [.list ds] = some ds := rfl
@[simp] theorem e_listT : listM [.tuple ds] = some ds := rfl
@[simp] theorem e_negI {a : Int} : negM (.int a) = some (.int (-a)) := rfl
@[simp] theorem e_tup0 : tupM [] = some (.tuple []) := rfl
@[simp] theorem e_tup1 : tupM [d] = some (.tuple [d]) := rfl
@[simp] theorem e_tup2 : tupM [d, e] = some (.tuple [d, e]) := rfl
@[simp] theorem e_tup3 : tupM [d, e, z] = some (.tuple [d, e, z]) := rfl
@[simp] theorem e_tup4 {y : PyData} : tupM [d, e, z, y] = some (.tuple [d, e, z, y]) := rfl
@[simp] theorem e_lst0 : lstM [] = some [] := rfl
@[simp] theorem e_lst1 : lstM [d] = some [d] := rfl
@[simp] theorem e_lst2 : lstM [d, e] = some [d, e] := rfl
@[simp] theorem e_lst3 : lstM [d, e, z] = some [d, e, z] := rfl
@[simp] theorem e_ixL {j : Int} : ixM (.list ds) (.int j) = atI ds j := rfl
@[simp] theorem e_ixT {j : Int} : ixM (.tuple ds) (.int j) = atI ds j := rfl
@[simp] theorem e_isTyInt {a : Int} : isTy "int" (.int a) = true := rfl
@[simp] theorem e_isTyIntB {a : Bool} : isTy "int" (.bool a) = true := rfl
@[simp] theorem e_isTyBoolI {a : Int} : isTy "bool" (.int a) = false := rfl
@[simp] theorem e_isTyBool {a : Bool} : isTy "bool" (.bool a) = true := rfl
@[simp] theorem e_isTyList : isTy "list" (.list ds) = true := rfl
@[simp] theorem e_isTyListT : isTy "list" (.tuple ds) = false := rfl
@[simp] theorem e_isTyTuple : isTy "tuple" (.tuple ds) = true := rfl
@[simp] theorem e_isTyStr {x : Str} : isTy "str" (.str x) = true := rfl
@[simp] theorem e_isTyIntN : isTy "int" .none = false := rfl
@[simp] theorem e_isTyBoolN : isTy "bool" .none = false := rfl
@[simp] theorem e_hasTL : hasT "list" (.list ds) = true := rfl
@[simp] theorem e_asBoolMap {b : Bool} : (asBool (.bool b)).map PyData.bool = some (.bool b) := rfl
theorem e_modI {a b : Int} (h : 0 < b) : modM (.int a) (.int b) = some (.int (a % b)) := by
  show (if _ then _ else _) = _
  rw [if_pos h]
theorem e_shrI {a b : Int} (h : 0 ≤ b) : shrM (.int a) (.int b) = some (.int (a / 2 ^ b.toNat)) := by
  show (if _ then _ else _) = _
  rw [if_pos h]
theorem e_at {xs : List α} {j : Nat} {v : α} (h : xs[j]? = some v) : atI xs (j : Int) = some v := atI_nat h
@[simp] theorem e_at0 {x : α} {xs : List α} : atI (x :: xs) 0 = some x := atI_nat (j := 0) rfl
@[simp] theorem e_at1 {x y : α} {xs : List α} : atI (x :: y :: xs) 1 = some y := atI_nat (j := 1) rfl
@[simp] theorem e_at2 {x y w : α} {xs : List α} : atI (x :: y :: w :: xs) 2 = some w := atI_nat (j := 2) rfl
@[simp] theorem e_asum {ns : List Int} : sumM [.list (ns.map PyData.int)] = some (.int ns.sum) := by
  show (intsOf _).map _ = _
  rw [intsOf_map]
  rfl
@[simp] theorem e_all {bs : List Bool} : allM [.list (bs.map PyData.bool)] = some (.bool (bs.all id)) := by
  show (boolsOf _).map _ = _
  rw [boolsOf_map]
  rfl
@[simp] theorem e_any {bs : List Bool} : anyM [.list (bs.map PyData.bool)] = some (.bool (bs.any id)) := by
  show (boolsOf _).map _ = _
  rw [boolsOf_map]
  rfl
end
section
variable {α : Type} {r r' : En} {m : M α} {k : α → SM} {a b : SM} {mc : M Bool} {ma mb : M PyData} {ml : M (List PyData)} {i j : Nat} {d : PyData} {ds : List PyData}
@[simp] theorem s_bind : sBind m k r = (match m r with
  | some (.ok a r') => k a r'
  | some (.ex c p) => some (.ex c p)
  | none => none) := rfl
@[simp] theorem s_nil : sNil r = some (.nx r) := rfl
@[simp] theorem s_seq : sSeq a b r = (match a r with
  | some (.nx r') => b r'
  | o => o) := rfl
@[simp] theorem s_expr : sExpr ma r = sBind ma (fun _ => sNil) r := rfl
@[simp] theorem s_ret : sRet ma r = sBind ma (fun d r => some (.rt d r)) r := rfl
@[simp] theorem s_retN : sRetN r = some (.rt .none r) := rfl
@[simp] theorem s_if : sIf mc a b r = sBind mc (fun k => if k then a else b) r := rfl
@[simp] theorem s_put : sPut i d r = (match r[i]? with
  | some (.io _) => none
  | some _ => some (.nx (r.set i (.pl d)))
  | none => none) := rfl
@[simp] theorem s_set : sSet i ma r = sBind ma (sPut i) r := rfl
@[simp] theorem s_putO : sPutO i ds r = (match r[i]? with
  | some (.io _) => none
  | some _ => some (.nx (r.set i (.ow ds)))
  | none => none) := rfl
@[simp] theorem s_own : sOwn i ml r = sBind ml (sPutO i) r := rfl
@[simp] theorem s_frz : sFrz i a r = (match r[i]? with
  | some (.ow ds) => a (r.set i (.pl (.list ds)))
  | _ => a r) := rfl
@[simp] theorem s_app : sApp i ma r = if (ownOf r[i]?).isSome then sBind ma (fun d r => match ownOf r[i]? with
  | some ds => if ds.length ≤ 1000000 then some (.nx (upO i (ds ++ [d]) r)) else none
  | none => none) r else none := rfl
@[simp] theorem s_putIx : sPutIx i ma mb r = sBind mb (fun d r1 => if (ownOf r1[i]?).isSome then sBind ma (fun j r => match ownOf r[i]?, asInt j with
  | some ds, some j => (ixN ds.length j).map fun n => .nx (upO i (ds.set n d) r)
  | _, _ => none) r1 else none) r := rfl
@[simp] theorem s_par : sPar i j ml r = sBind ml (fun ds r => match ds with
  | [d, e] => sSeq (sPut i d) (sPut j e) r
  | _ => none) r := rfl
@[simp] theorem s_asg {g : PyData → En → Option En} : sAsg ma g r = sBind ma (fun d r => (g d r).map .nx) r := rfl
@[simp] theorem s_ext : sExt i ma r = if (ownOf r[i]?).isSome then sBind ma (fun d r => match ownOf r[i]?, asTup d with
  | some ds, some es => if ds.length + es.length ≤ 1000000 then some (.nx (upO i (ds ++ es) r)) else none
  | _, _ => none) r else none := rfl
@[simp] theorem s_no : sNo r = none := rfl
@[simp] theorem s_brk : sBrk r = some (.bk r) := rfl
@[simp] theorem s_cont : sCont r = some (.ct r) := rfl
@[simp] theorem s_upO : upO i ds r = (match r[i]? with
  | some c => r.set i (reOwn ds c)
  | none => r) := rfl
@[simp] theorem s_re_ow {es : List PyData} : reOwn ds (.ow es) = .ow ds := rfl
@[simp] theorem s_re_io {es : List PyData} : reOwn ds (.io es) = .io ds := rfl
@[simp] theorem o_rt : outD (some (.rt d r)) = some d := rfl
@[simp] theorem o_nx : outD (some (.nx r)) = some .none := rfl
@[simp] theorem s_gN : gN i d r = (match r[i]? with
  | some c => if c.own then none else some (r.set i (.pl d))
  | none => none) := rfl
@[simp] theorem s_ownU : Cel.own .un = false := rfl
@[simp] theorem s_ownP : Cel.own (.pl d) = false := rfl
@[simp] theorem s_gTup {n : Nat} {g : List PyData → En → Option En} {es : List PyData} : gTupD n g (.tuple es) r = if es.length = n then g es r else none := rfl
@[simp] theorem s_gCons {g : PyData → En → Option En} {h : List PyData → En → Option En} {es : List PyData} : gConsD g h (d :: es) r = (g d r).bind (h es) := rfl
@[simp] theorem s_gNil : gNilD [] r = some r := rfl
@[simp] theorem s_wipe0 : wipeE r [] = r := rfl
@[simp] theorem s_wipeS {vs : List Nat} : wipeE r (i :: vs) = (wipeE r vs).set i .un := rfl
end
theorem restE_wipe {r : En} : ∀ {vs : List Nat} {r' : En}, r'.length = r.length → (∀ j, j ∉ vs → r'[j]? = r[j]?) → restE r r' vs = r
  | [], r', hl, h => List.ext_getElem? fun j => h j (by simp)
  | v :: vs, r', hl, h => by
    show (restE r (r'.set v .un) vs).set v ((r[v]?).getD .un) = r
    by_cases hv : v < r.length
    · have e : r[v]? = some r[v] := List.getElem?_eq_getElem hv
      -- the slot v first restored, then the others
      have key : ∀ {vs : List Nat} {r' : En}, r'.length = r.length → (∀ j, j ∉ vs → j ≠ v → r'[j]? = r[j]?) → (restE r r' vs).set v r[v] = r := by
        intro vs
        induction vs with
        | nil =>
          intro r' hl h
          show r'.set v r[v] = r
          refine List.ext_getElem? fun j => ?_
          by_cases z : v = j
          · subst z
            rw [List.getElem?_set_self (by omega), e]
          · rw [List.getElem?_set_ne z]
            exact h j (by simp) (Ne.symm z)
        | cons w ws ih =>
          intro r' hl h
          show ((restE r (r'.set w .un) ws).set w ((r[w]?).getD .un)).set v r[v] = r
          have step : (restE r (r'.set w .un) ws).set v r[v] = r ∨ w ∉ ws := by
            by_cases hw : w ∈ ws
            · exact .inl (ih (by rw [List.length_set]; exact hl) fun j hj hjv => by
                rw [List.getElem?_set_ne fun z => hj (by rw [← z]; exact hw)]
                exact h j (by
                  rw [List.mem_cons, not_or]
                  exact ⟨fun z => hj (by rw [z]; exact hw), hj⟩) hjv)
            · exact .inr hw
          have lenR : ∀ {vs : List Nat} {r' : En}, (restE r r' vs).length = r'.length := by
            intro vs
            induction vs with
            | nil => intro r'; rfl
            | cons a l ih => intro r'; show ((restE r (r'.set a .un) l).set a _).length = _; rw [List.length_set, ih, List.length_set]
          have outR : ∀ {vs : List Nat} {r' : En} {j : Nat}, j ∉ vs → (restE r r' vs)[j]? = r'[j]? := by
            intro vs
            induction vs with
            | nil => intro r' j _; rfl
            | cons a l ih =>
              intro r' j hj
              rw [List.mem_cons, not_or] at hj
              show ((restE r (r'.set a .un) l).set a _)[j]? = _
              rw [List.getElem?_set_ne (Ne.symm hj.1), ih hj.2, List.getElem?_set_ne (Ne.symm hj.1)]
          have inR : ∀ {vs : List Nat} {r' : En} {j : Nat}, r'.length = r.length → j ∈ vs → (restE r r' vs)[j]? = r[j]? := by
            intro vs
            induction vs with
            | nil => intro r' j _ hj; cases hj
            | cons a l ih =>
              intro r' j hl hj
              show ((restE r (r'.set a .un) l).set a ((r[a]?).getD .un))[j]? = _
              by_cases z : a = j
              · subst z
                by_cases hb : a < r.length
                · rw [List.getElem?_set_self (by rw [lenR, List.length_set, hl]; exact hb), List.getElem?_eq_getElem hb]
                  rfl
                · rw [List.getElem?_eq_none (by rw [List.length_set, lenR, List.length_set, hl]; omega), List.getElem?_eq_none (by omega)]
              · rw [List.getElem?_set_ne z]
                exact ih (by rw [List.length_set]; exact hl) ((List.mem_cons.mp hj).resolve_left (Ne.symm z))
          refine List.ext_getElem? fun j => ?_
          by_cases z : v = j
          · subst z
            rw [List.getElem?_set_self (by rw [List.length_set, lenR, List.length_set, hl]; exact hv), e]
          · rw [List.getElem?_set_ne z]
            by_cases hj : j ∈ w :: ws
            · exact inR (vs := w :: ws) hl hj
            · show (restE r r' (w :: ws))[j]? = _
              rw [outR hj]
              exact h j hj (Ne.symm z)
      rw [e]
      exact key (by rw [List.length_set]; exact hl) fun j hj hjv => by
        rw [List.getElem?_set_ne (Ne.symm hjv)]
        exact h j (by rw [List.mem_cons, not_or]; exact ⟨hjv, hj⟩)
    · rw [List.set_eq_of_length_le]
      · have hv' : r'.set v .un = r' := List.set_eq_of_length_le (by omega)
        rw [hv']
        refine restE_wipe hl fun j hj => ?_
        by_cases z : j = v
        · subst z
          rw [List.getElem?_eq_none (by omega), List.getElem?_eq_none (by omega)]
        · exact h j (by rw [List.mem_cons, not_or]; exact ⟨z, hj⟩)
      · have lenR : ∀ {vs : List Nat} {r' : En}, (restE r r' vs).length = r'.length := by
          intro vs
          induction vs with
          | nil => intro r'; rfl
          | cons a l ih => intro r'; show ((restE r (r'.set a .un) l).set a _).length = _; rw [List.length_set, ih, List.length_set]
        rw [lenR, List.length_set]
        omega
theorem wipeE_length {r : En} : ∀ {vs : List Nat}, (wipeE r vs).length = r.length
  | [] => rfl
  | v :: vs => by rw [s_wipeS, List.length_set, wipeE_length]
theorem wipeE_out {r : En} {j : Nat} : ∀ {vs : List Nat}, j ∉ vs → (wipeE r vs)[j]? = r[j]?
  | [], _ => rfl
  | v :: vs, h => by
    rw [List.mem_cons, not_or] at h
    rw [s_wipeS, List.getElem?_set_ne (Ne.symm h.1), wipeE_out h.2]
theorem filter_true {α : Type} {l : List α} : l.filter (fun _ => true) = l := List.filter_eq_self.mpr fun _ _ => rfl
theorem forGo_cons {g : PyData → En → Option En} {b : SM} {r : En} {x : PyData} {xs : List PyData} : forGo g b (x :: xs) r = (g x r).bind fun r1 => match b r1 with
    | some (.nx r2) => forGo g b xs r2
    | some (.ct r2) => forGo g b xs r2
    | some (.bk r2) => some (.nx r2)
    | o => o := rfl
@[simp] theorem s_for {mi : M (List PyData)} {g : PyData → En → Option En} {b : SM} {r : En} : sFor mi g b r = sBind mi (fun items => forGo g b items) r := rfl
end DL
namespace DL
open PySem PySem.Spec PyProof.Rows L2 Lk
section
variable {α β : Type} {vs : List Nat} {mi : M (List PyData)} {g : PyData → En → Option En} {mt : M Bool} {me : M PyData} {r0 r : En}
theorem lcGo_m {f : α → PyData} {p : α → Bool} {F : α → PyData} {e : α → En} : ∀ {xs : List α} {r : En}, (∀ x ∈ xs, g (f x) (wipeE r vs) = some (e x)) → (∀ x ∈ xs, wipeE (e x) vs = wipeE r vs) →
    (∀ x ∈ xs, mt (e x) = some (.ok (p x) (e x))) → (∀ x ∈ xs, p x = true → me (e x) = some (.ok (F x) (e x))) → lcGo vs g mt me (xs.map f) r = some ((xs.filter p).map F, wipeE r vs)
  | [], _, _, _, _, _ => rfl
  | x :: xs, r, hg, hw, ht, he => by
    have h1 := hg x (List.mem_cons_self ..)
    have h2 := ht x (List.mem_cons_self ..)
    have h3 := hw x (List.mem_cons_self ..)
    have ih := lcGo_m (f := f) (p := p) (F := F) (e := e) (xs := xs) (r := e x) (fun y hy => by rw [h3]; exact hg y (List.mem_cons_of_mem _ hy)) (fun y hy => by rw [h3]; exact hw y (List.mem_cons_of_mem _ hy))
      (fun y hy => ht y (List.mem_cons_of_mem _ hy)) fun y hy => he y (List.mem_cons_of_mem _ hy)
    rw [List.map_cons, lcGo, h1]
    dsimp only [Option.bind]
    rw [h2]
    cases hp : p x with
    | false =>
      dsimp only
      rw [ih, h3, List.filter_cons, if_neg (by rw [hp]; exact Bool.false_ne_true)]
    | true =>
      have h4 := he x (List.mem_cons_self ..) hp
      dsimp only
      rw [h4]
      dsimp only
      rw [ih, h3, List.filter_cons, if_pos hp]
      rfl
/-- [F x for x in xs if p x], the names as they were -/
theorem lc_m (f : α → PyData) (p : α → Bool) (F : α → PyData) (e : α → En) {xs : List α} (hi : mi r0 = some (.ok (xs.map f) r)) (hf : freeAt r vs = true) (hl : xs.length ≤ 1000000)
    (hg : ∀ x ∈ xs, g (f x) (wipeE r vs) = some (e x)) (hw : ∀ x ∈ xs, wipeE (e x) vs = wipeE r vs) (ht : ∀ x ∈ xs, mt (e x) = some (.ok (p x) (e x))) (he : ∀ x ∈ xs, p x = true → me (e x) = some (.ok (F x) (e x))) :
    mLc vs mi g mt me r0 = some (.ok ((xs.filter p).map F) r) := by
  unfold mLc M.bind
  rw [hi]
  dsimp only
  rw [hf, decide_eq_true (by rw [List.length_map]; exact hl), lcGo_m hg hw ht he]
  show some (Out.ok _ (restE r (wipeE r vs) vs)) = _
  rw [restE_wipe wipeE_length fun j hj => wipeE_out hj]
/-- [F x for x in xs] -/
theorem lc_y (f : α → PyData) (F : α → PyData) (e : α → En) {xs : List α} (hi : mi r0 = some (.ok (xs.map f) r)) (hf : freeAt r vs = true) (hl : xs.length ≤ 1000000)
    (hg : ∀ x ∈ xs, g (f x) (wipeE r vs) = some (e x)) (hw : ∀ x ∈ xs, wipeE (e x) vs = wipeE r vs) (he : ∀ x ∈ xs, me (e x) = some (.ok (F x) (e x))) :
    mLc vs mi g mYes me r0 = some (.ok (xs.map F) r) := by
  have := lc_m (mt := mYes) f (fun _ => true) F e hi hf hl hg hw (fun _ _ => rfl) fun x hx _ => he x hx
  rw [filter_true] at this
  exact this
theorem for_m {b : SM} (f : α → PyData) (enc : β → En) (step : β → α → β) (I : β → List α → Prop) : ∀ {xs : List α} {s : β}, I s xs → (∀ s x xs, I s (x :: xs) → ∃ r1, g (f x) (enc s) = some r1 ∧ (b r1 = some (.nx (enc (step s x))) ∨ b r1 = some (.ct (enc (step s x)))) ∧ I (step s x) xs) →
    forGo g b (xs.map f) (enc s) = some (.nx (enc (xs.foldl step s)))
  | [], _, _, _ => rfl
  | x :: xs, s, h0, h => by
    obtain ⟨r1, h1, h2, h3⟩ := h s x xs h0
    rw [List.map_cons, forGo_cons, h1]
    dsimp only [Option.bind]
    rcases h2 with h2 | h2
    · rw [h2]
      exact for_m f enc step I h3 h
    · rw [h2]
      exact for_m f enc step I h3 h
end
theorem for_i {α : Type} {g : PyData → En → Option En} {b : SM} (f : α → PyData) (I : List α → En → Prop) : ∀ {xs : List α} {r : En}, I xs r → (∀ x xs r, I (x :: xs) r → ∃ r1 r2, g (f x) r = some r1 ∧ b r1 = some (.nx r2) ∧ I xs r2) →
    ∃ r2, forGo g b (xs.map f) r = some (.nx r2) ∧ I [] r2
  | [], r, h0, _ => ⟨r, rfl, h0⟩
  | x :: xs, r, h0, h => by
    obtain ⟨r1, r2, h1, h2, h3⟩ := h x xs r h0
    rw [List.map_cons, forGo_cons, h1]
    dsimp only [Option.bind]
    rw [h2]
    exact for_i f I h3 h
end DL
namespace DL
open PySem PySem.Spec PyProof.Rows L2 Lk
def nD (n : Nat) : PyData := .int (n : Int)
abbrev nsD (ns : List Nat) : PyData := .list (ns.map nD)
@[simp] theorem e_lt_n {a b : Nat} : ltM (nD a) (nD b) = some (.bool (decide (a < b))) := by
  show some (PyData.bool (decide ((a : Int) < b))) = _
  simp
@[simp] theorem e_eq_n {a b : Nat} : eqM (nD a) (nD b) = some (.bool (a == b)) := by
  show some (PyData.bool ((a : Int) == b)) = _
  have : ((a : Int) == b) = (a == b) := by rw [Bool.eq_iff_iff, beq_iff_eq, beq_iff_eq]; omega
  rw [this]
@[simp] theorem e_ne_n {a b : Nat} : neM (nD a) (nD b) = some (.bool (!(a == b))) := by
  show some (PyData.bool (!((a : Int) == b))) = _
  have : ((a : Int) == b) = (a == b) := by rw [Bool.eq_iff_iff, beq_iff_eq, beq_iff_eq]; omega
  rw [this]
theorem nD0 : PyData.int 0 = nD 0 := rfl
@[simp] theorem e_isNone_n {a : Nat} : isNone (nD a) = false := rfl
theorem g_is_integer_int (i : Int) : g_is_integer [.int i] = some (.bool true) := by
  rw [r_is_integer]; simp [v_is_integer]
theorem g_below (i l : Int) : g_is_integer_below [.int i, .int l] = some (.bool (decide (0 ≤ i ∧ i < l))) := by
  rw [r_is_integer_below]
  by_cases h : 0 ≤ i <;> simp [v_is_integer_below, g_is_integer_int, h]
theorem g_below_n (i l : Nat) : g_is_integer_below [nD i, nD l] = some (.bool (decide (i < l))) := by
  have := g_below i l
  simpa [nD] using this
def AscFrom : Nat → Nat → List Nat → Prop
  | _, _, [] => True
  | lo, lim, v :: vs => lo ≤ v ∧ v < lim ∧ AscFrom (v + 1) lim vs
theorem g_asc {d : PyData} {vs : List Nat} {lim : Nat} (hd : asSeq d = some (vs.map nD)) (h : AscFrom 0 lim vs) : g_are_ascending_below [d, nD lim] = some (.bool true) := by
  rw [r_are_ascending_below]
  have L := for_m (b := sSeq (sIf (mOr (mNotT (mTru (mCall g_is_integer_below (mCons (mV 3) (mCons (mV 1) mNil))))) (mOpT ltM (mV 3) (mV 2))) (sRet (M.ret (.bool false))) sNil) (sSet 2 (mOp2 addM (mV 3) (M.ret (.int 1)))))
    (g := gN 3) nD (fun (s : Nat × Cel) => [.pl d, .pl (nD lim), .pl (nD s.1), s.2]) (fun s v => (v + 1, .pl (nD v))) (fun s xs => AscFrom s.1 lim xs ∧ s.2.own = false) (xs := vs) (s := (0, .un)) ⟨h, rfl⟩
    (by
      rintro ⟨lo, c⟩ v xs ⟨⟨h1, h2, h3⟩, hc⟩
      have nlt : ¬ v < lo := by omega
      simp only at hc h1
      refine ⟨[.pl d, .pl (nD lim), .pl (nD lo), .pl (nD v)], by simp [hc], .inl ?_, h3, rfl⟩
      simp [g_below_n, h2, nlt]
      rfl)
  simp only [nD0] at *
  simp [v_are_ascending_below, hd, nD0]
  rw [L]
  rfl
def prod : List Nat → Nat
  | [] => 1
  | n :: ns => n * prod ns
end DL
namespace DL
open PySem PySem.Spec PyProof.Rows L2 Lk
def oD : Option Nat → PyData
  | none => .none
  | some v => nD v
def Case (ns cs : List Nat) : Prop := cs.length = ns.length ∧ ∀ (i n c : Nat), ns[i]? = some n → cs[i]? = some c → c < n
theorem rng_nat (n : Nat) : rngL 0 n = (List.range n).map nD := by
  unfold rngL nD
  refine List.map_congr_left fun i _ => ?_
  rw [Int.zero_add]
theorem at_n {α : Type} {xs : List α} {i : Nat} {v : α} (h : xs[i]? = some v) : atI xs (i : Int) = some v := atI_nat h
@[simp] theorem e_ix_n {f : Nat → PyData} {xs : List Nat} {i : Nat} : ixM (.list (xs.map f)) (nD i) = (xs[i]?).map f := by
  show atI _ _ = _
  cases h : xs[i]? with
  | none =>
    have : xs.length ≤ i := List.getElem?_eq_none_iff.mp h
    unfold atI ixN
    rw [List.length_map]
    rw [if_pos (by omega), if_neg (by omega)]
    rfl
  | some v => exact at_n (by rw [List.getElem?_map, h]; rfl)
/-- range(n) as it is walked -/
theorem e_rng (n : Nat) (h : n ≤ 1000000) : rngM [.int (n : Int)] = some ((List.range n).map nD) := by
  have : rngM [.int (n : Int)] = if (n : Int).natAbs ≤ 1000000 then some (rngL 0 (n : Int).toNat) else none := by rw [rngM]
  rw [this, if_pos (by omega), Int.toNat_natCast, rng_nat]
@[simp] theorem asInt_n {n : Nat} : asInt (nD n) = some (n : Int) := rfl
theorem e_rng_n (n : Nat) (h : n ≤ 1000000) : rngM [nD n] = some ((List.range n).map nD) := e_rng n h
@[simp] theorem isNone_oD {o : Option Nat} : isNone (oD o) = o.isNone := by cases o <;> rfl
end DL
namespace DL
open PySem PySem.Spec PyProof.Rows L2 Lk
theorem shaped_of {d : PyData} (h1 : d.canLay0 = true) (h2 : d.depth ≤ 64) : SeqAt.shaped d = true := by
  unfold SeqAt.shaped
  rw [h1, decide_eq_true h2]
  rfl
theorem e_eqD {d e : PyData} (h1 : SeqAt.shaped d = true) (h2 : SeqAt.shaped e = true) : eqM d e = some (.bool (PyData.eqv d e)) := by
  unfold eqM
  rw [h1, h2]
  rfl
theorem e_neD {d e : PyData} (h1 : SeqAt.shaped d = true) (h2 : SeqAt.shaped e = true) : neM d e = some (.bool (!PyData.eqv d e)) := by
  unfold neM
  rw [h1, h2]
  rfl
theorem sh_str {a : Str} (h : PyData.strOk a = true) : SeqAt.shaped (.str a) = true := shaped_of (by rw [PyData.canLay0]; exact h) (by rw [PyData.depth]; omega)
theorem e_eqS {a b : Str} (ha : PyData.strOk a = true) (hb : PyData.strOk b = true) : eqM (.str a) (.str b) = some (.bool (a == b)) := by
  rw [e_eqD (sh_str ha) (sh_str hb), PyData.eqv]
theorem in_join {w : Str} : inM (.str w) c_JOINING_WORDS = some (.bool ((("and" : Str) == w) || ((("or" : Str) == w) || (("odd" : Str) == w)))) := by
  simp [inM, c_JOINING_WORDS, flatD, memD, PyData.eqv]
@[simp] theorem ws0 : eqM (.str "say") (.str "say") = some (.bool true) := (e_eqS (by decide +kernel) (by decide +kernel)).trans (congrArg (fun b => some (PyData.bool b)) (by decide +kernel))
@[simp] theorem ws1 : eqM (.str "say") (.str "is") = some (.bool false) := (e_eqS (by decide +kernel) (by decide +kernel)).trans (congrArg (fun b => some (PyData.bool b)) (by decide +kernel))
@[simp] theorem ws2 : eqM (.str "say") (.str "tree") = some (.bool false) := (e_eqS (by decide +kernel) (by decide +kernel)).trans (congrArg (fun b => some (PyData.bool b)) (by decide +kernel))
@[simp] theorem ws3 : eqM (.str "say") (.str "rules") = some (.bool false) := (e_eqS (by decide +kernel) (by decide +kernel)).trans (congrArg (fun b => some (PyData.bool b)) (by decide +kernel))
@[simp] theorem ws4 : eqM (.str "say") (.str "card") = some (.bool false) := (e_eqS (by decide +kernel) (by decide +kernel)).trans (congrArg (fun b => some (PyData.bool b)) (by decide +kernel))
@[simp] theorem ws5 : eqM (.str "say") (.str "table") = some (.bool false) := (e_eqS (by decide +kernel) (by decide +kernel)).trans (congrArg (fun b => some (PyData.bool b)) (by decide +kernel))
@[simp] theorem ws6 : eqM (.str "say") (.str "not") = some (.bool false) := (e_eqS (by decide +kernel) (by decide +kernel)).trans (congrArg (fun b => some (PyData.bool b)) (by decide +kernel))
@[simp] theorem ws7 : eqM (.str "say") (.str "and") = some (.bool false) := (e_eqS (by decide +kernel) (by decide +kernel)).trans (congrArg (fun b => some (PyData.bool b)) (by decide +kernel))
@[simp] theorem ws8 : eqM (.str "say") (.str "or") = some (.bool false) := (e_eqS (by decide +kernel) (by decide +kernel)).trans (congrArg (fun b => some (PyData.bool b)) (by decide +kernel))
@[simp] theorem ws9 : eqM (.str "say") (.str "odd") = some (.bool false) := (e_eqS (by decide +kernel) (by decide +kernel)).trans (congrArg (fun b => some (PyData.bool b)) (by decide +kernel))
@[simp] theorem wj10 : inM (.str "say") c_JOINING_WORDS = some (.bool false) := in_join.trans (congrArg (fun b => some (PyData.bool b)) (by decide +kernel))
@[simp] theorem wi10 : isTy "str" (.str "say") = true := rfl
@[simp] theorem ws10 : eqM (.str "is") (.str "say") = some (.bool false) := (e_eqS (by decide +kernel) (by decide +kernel)).trans (congrArg (fun b => some (PyData.bool b)) (by decide +kernel))
@[simp] theorem ws11 : eqM (.str "is") (.str "is") = some (.bool true) := (e_eqS (by decide +kernel) (by decide +kernel)).trans (congrArg (fun b => some (PyData.bool b)) (by decide +kernel))
@[simp] theorem ws12 : eqM (.str "is") (.str "tree") = some (.bool false) := (e_eqS (by decide +kernel) (by decide +kernel)).trans (congrArg (fun b => some (PyData.bool b)) (by decide +kernel))
@[simp] theorem ws13 : eqM (.str "is") (.str "rules") = some (.bool false) := (e_eqS (by decide +kernel) (by decide +kernel)).trans (congrArg (fun b => some (PyData.bool b)) (by decide +kernel))
@[simp] theorem ws14 : eqM (.str "is") (.str "card") = some (.bool false) := (e_eqS (by decide +kernel) (by decide +kernel)).trans (congrArg (fun b => some (PyData.bool b)) (by decide +kernel))
@[simp] theorem ws15 : eqM (.str "is") (.str "table") = some (.bool false) := (e_eqS (by decide +kernel) (by decide +kernel)).trans (congrArg (fun b => some (PyData.bool b)) (by decide +kernel))
@[simp] theorem ws16 : eqM (.str "is") (.str "not") = some (.bool false) := (e_eqS (by decide +kernel) (by decide +kernel)).trans (congrArg (fun b => some (PyData.bool b)) (by decide +kernel))
@[simp] theorem ws17 : eqM (.str "is") (.str "and") = some (.bool false) := (e_eqS (by decide +kernel) (by decide +kernel)).trans (congrArg (fun b => some (PyData.bool b)) (by decide +kernel))
@[simp] theorem ws18 : eqM (.str "is") (.str "or") = some (.bool false) := (e_eqS (by decide +kernel) (by decide +kernel)).trans (congrArg (fun b => some (PyData.bool b)) (by decide +kernel))
@[simp] theorem ws19 : eqM (.str "is") (.str "odd") = some (.bool false) := (e_eqS (by decide +kernel) (by decide +kernel)).trans (congrArg (fun b => some (PyData.bool b)) (by decide +kernel))
@[simp] theorem wj20 : inM (.str "is") c_JOINING_WORDS = some (.bool false) := in_join.trans (congrArg (fun b => some (PyData.bool b)) (by decide +kernel))
@[simp] theorem wi20 : isTy "str" (.str "is") = true := rfl
@[simp] theorem ws20 : eqM (.str "tree") (.str "say") = some (.bool false) := (e_eqS (by decide +kernel) (by decide +kernel)).trans (congrArg (fun b => some (PyData.bool b)) (by decide +kernel))
@[simp] theorem ws21 : eqM (.str "tree") (.str "is") = some (.bool false) := (e_eqS (by decide +kernel) (by decide +kernel)).trans (congrArg (fun b => some (PyData.bool b)) (by decide +kernel))
@[simp] theorem ws22 : eqM (.str "tree") (.str "tree") = some (.bool true) := (e_eqS (by decide +kernel) (by decide +kernel)).trans (congrArg (fun b => some (PyData.bool b)) (by decide +kernel))
@[simp] theorem ws23 : eqM (.str "tree") (.str "rules") = some (.bool false) := (e_eqS (by decide +kernel) (by decide +kernel)).trans (congrArg (fun b => some (PyData.bool b)) (by decide +kernel))
@[simp] theorem ws24 : eqM (.str "tree") (.str "card") = some (.bool false) := (e_eqS (by decide +kernel) (by decide +kernel)).trans (congrArg (fun b => some (PyData.bool b)) (by decide +kernel))
@[simp] theorem ws25 : eqM (.str "tree") (.str "table") = some (.bool false) := (e_eqS (by decide +kernel) (by decide +kernel)).trans (congrArg (fun b => some (PyData.bool b)) (by decide +kernel))
@[simp] theorem ws26 : eqM (.str "tree") (.str "not") = some (.bool false) := (e_eqS (by decide +kernel) (by decide +kernel)).trans (congrArg (fun b => some (PyData.bool b)) (by decide +kernel))
@[simp] theorem ws27 : eqM (.str "tree") (.str "and") = some (.bool false) := (e_eqS (by decide +kernel) (by decide +kernel)).trans (congrArg (fun b => some (PyData.bool b)) (by decide +kernel))
@[simp] theorem ws28 : eqM (.str "tree") (.str "or") = some (.bool false) := (e_eqS (by decide +kernel) (by decide +kernel)).trans (congrArg (fun b => some (PyData.bool b)) (by decide +kernel))
@[simp] theorem ws29 : eqM (.str "tree") (.str "odd") = some (.bool false) := (e_eqS (by decide +kernel) (by decide +kernel)).trans (congrArg (fun b => some (PyData.bool b)) (by decide +kernel))
@[simp] theorem wj30 : inM (.str "tree") c_JOINING_WORDS = some (.bool false) := in_join.trans (congrArg (fun b => some (PyData.bool b)) (by decide +kernel))
@[simp] theorem wi30 : isTy "str" (.str "tree") = true := rfl
@[simp] theorem ws30 : eqM (.str "rules") (.str "say") = some (.bool false) := (e_eqS (by decide +kernel) (by decide +kernel)).trans (congrArg (fun b => some (PyData.bool b)) (by decide +kernel))
@[simp] theorem ws31 : eqM (.str "rules") (.str "is") = some (.bool false) := (e_eqS (by decide +kernel) (by decide +kernel)).trans (congrArg (fun b => some (PyData.bool b)) (by decide +kernel))
@[simp] theorem ws32 : eqM (.str "rules") (.str "tree") = some (.bool false) := (e_eqS (by decide +kernel) (by decide +kernel)).trans (congrArg (fun b => some (PyData.bool b)) (by decide +kernel))
@[simp] theorem ws33 : eqM (.str "rules") (.str "rules") = some (.bool true) := (e_eqS (by decide +kernel) (by decide +kernel)).trans (congrArg (fun b => some (PyData.bool b)) (by decide +kernel))
@[simp] theorem ws34 : eqM (.str "rules") (.str "card") = some (.bool false) := (e_eqS (by decide +kernel) (by decide +kernel)).trans (congrArg (fun b => some (PyData.bool b)) (by decide +kernel))
@[simp] theorem ws35 : eqM (.str "rules") (.str "table") = some (.bool false) := (e_eqS (by decide +kernel) (by decide +kernel)).trans (congrArg (fun b => some (PyData.bool b)) (by decide +kernel))
@[simp] theorem ws36 : eqM (.str "rules") (.str "not") = some (.bool false) := (e_eqS (by decide +kernel) (by decide +kernel)).trans (congrArg (fun b => some (PyData.bool b)) (by decide +kernel))
@[simp] theorem ws37 : eqM (.str "rules") (.str "and") = some (.bool false) := (e_eqS (by decide +kernel) (by decide +kernel)).trans (congrArg (fun b => some (PyData.bool b)) (by decide +kernel))
@[simp] theorem ws38 : eqM (.str "rules") (.str "or") = some (.bool false) := (e_eqS (by decide +kernel) (by decide +kernel)).trans (congrArg (fun b => some (PyData.bool b)) (by decide +kernel))
@[simp] theorem ws39 : eqM (.str "rules") (.str "odd") = some (.bool false) := (e_eqS (by decide +kernel) (by decide +kernel)).trans (congrArg (fun b => some (PyData.bool b)) (by decide +kernel))
@[simp] theorem wj40 : inM (.str "rules") c_JOINING_WORDS = some (.bool false) := in_join.trans (congrArg (fun b => some (PyData.bool b)) (by decide +kernel))
@[simp] theorem wi40 : isTy "str" (.str "rules") = true := rfl
@[simp] theorem ws40 : eqM (.str "card") (.str "say") = some (.bool false) := (e_eqS (by decide +kernel) (by decide +kernel)).trans (congrArg (fun b => some (PyData.bool b)) (by decide +kernel))
@[simp] theorem ws41 : eqM (.str "card") (.str "is") = some (.bool false) := (e_eqS (by decide +kernel) (by decide +kernel)).trans (congrArg (fun b => some (PyData.bool b)) (by decide +kernel))
@[simp] theorem ws42 : eqM (.str "card") (.str "tree") = some (.bool false) := (e_eqS (by decide +kernel) (by decide +kernel)).trans (congrArg (fun b => some (PyData.bool b)) (by decide +kernel))
@[simp] theorem ws43 : eqM (.str "card") (.str "rules") = some (.bool false) := (e_eqS (by decide +kernel) (by decide +kernel)).trans (congrArg (fun b => some (PyData.bool b)) (by decide +kernel))
@[simp] theorem ws44 : eqM (.str "card") (.str "card") = some (.bool true) := (e_eqS (by decide +kernel) (by decide +kernel)).trans (congrArg (fun b => some (PyData.bool b)) (by decide +kernel))
@[simp] theorem ws45 : eqM (.str "card") (.str "table") = some (.bool false) := (e_eqS (by decide +kernel) (by decide +kernel)).trans (congrArg (fun b => some (PyData.bool b)) (by decide +kernel))
@[simp] theorem ws46 : eqM (.str "card") (.str "not") = some (.bool false) := (e_eqS (by decide +kernel) (by decide +kernel)).trans (congrArg (fun b => some (PyData.bool b)) (by decide +kernel))
@[simp] theorem ws47 : eqM (.str "card") (.str "and") = some (.bool false) := (e_eqS (by decide +kernel) (by decide +kernel)).trans (congrArg (fun b => some (PyData.bool b)) (by decide +kernel))
@[simp] theorem ws48 : eqM (.str "card") (.str "or") = some (.bool false) := (e_eqS (by decide +kernel) (by decide +kernel)).trans (congrArg (fun b => some (PyData.bool b)) (by decide +kernel))
@[simp] theorem ws49 : eqM (.str "card") (.str "odd") = some (.bool false) := (e_eqS (by decide +kernel) (by decide +kernel)).trans (congrArg (fun b => some (PyData.bool b)) (by decide +kernel))
@[simp] theorem wj50 : inM (.str "card") c_JOINING_WORDS = some (.bool false) := in_join.trans (congrArg (fun b => some (PyData.bool b)) (by decide +kernel))
@[simp] theorem wi50 : isTy "str" (.str "card") = true := rfl
@[simp] theorem ws50 : eqM (.str "table") (.str "say") = some (.bool false) := (e_eqS (by decide +kernel) (by decide +kernel)).trans (congrArg (fun b => some (PyData.bool b)) (by decide +kernel))
@[simp] theorem ws51 : eqM (.str "table") (.str "is") = some (.bool false) := (e_eqS (by decide +kernel) (by decide +kernel)).trans (congrArg (fun b => some (PyData.bool b)) (by decide +kernel))
@[simp] theorem ws52 : eqM (.str "table") (.str "tree") = some (.bool false) := (e_eqS (by decide +kernel) (by decide +kernel)).trans (congrArg (fun b => some (PyData.bool b)) (by decide +kernel))
@[simp] theorem ws53 : eqM (.str "table") (.str "rules") = some (.bool false) := (e_eqS (by decide +kernel) (by decide +kernel)).trans (congrArg (fun b => some (PyData.bool b)) (by decide +kernel))
@[simp] theorem ws54 : eqM (.str "table") (.str "card") = some (.bool false) := (e_eqS (by decide +kernel) (by decide +kernel)).trans (congrArg (fun b => some (PyData.bool b)) (by decide +kernel))
@[simp] theorem ws55 : eqM (.str "table") (.str "table") = some (.bool true) := (e_eqS (by decide +kernel) (by decide +kernel)).trans (congrArg (fun b => some (PyData.bool b)) (by decide +kernel))
@[simp] theorem ws56 : eqM (.str "table") (.str "not") = some (.bool false) := (e_eqS (by decide +kernel) (by decide +kernel)).trans (congrArg (fun b => some (PyData.bool b)) (by decide +kernel))
@[simp] theorem ws57 : eqM (.str "table") (.str "and") = some (.bool false) := (e_eqS (by decide +kernel) (by decide +kernel)).trans (congrArg (fun b => some (PyData.bool b)) (by decide +kernel))
@[simp] theorem ws58 : eqM (.str "table") (.str "or") = some (.bool false) := (e_eqS (by decide +kernel) (by decide +kernel)).trans (congrArg (fun b => some (PyData.bool b)) (by decide +kernel))
@[simp] theorem ws59 : eqM (.str "table") (.str "odd") = some (.bool false) := (e_eqS (by decide +kernel) (by decide +kernel)).trans (congrArg (fun b => some (PyData.bool b)) (by decide +kernel))
@[simp] theorem wj60 : inM (.str "table") c_JOINING_WORDS = some (.bool false) := in_join.trans (congrArg (fun b => some (PyData.bool b)) (by decide +kernel))
@[simp] theorem wi60 : isTy "str" (.str "table") = true := rfl
@[simp] theorem ws60 : eqM (.str "not") (.str "say") = some (.bool false) := (e_eqS (by decide +kernel) (by decide +kernel)).trans (congrArg (fun b => some (PyData.bool b)) (by decide +kernel))
@[simp] theorem ws61 : eqM (.str "not") (.str "is") = some (.bool false) := (e_eqS (by decide +kernel) (by decide +kernel)).trans (congrArg (fun b => some (PyData.bool b)) (by decide +kernel))
@[simp] theorem ws62 : eqM (.str "not") (.str "tree") = some (.bool false) := (e_eqS (by decide +kernel) (by decide +kernel)).trans (congrArg (fun b => some (PyData.bool b)) (by decide +kernel))
@[simp] theorem ws63 : eqM (.str "not") (.str "rules") = some (.bool false) := (e_eqS (by decide +kernel) (by decide +kernel)).trans (congrArg (fun b => some (PyData.bool b)) (by decide +kernel))
@[simp] theorem ws64 : eqM (.str "not") (.str "card") = some (.bool false) := (e_eqS (by decide +kernel) (by decide +kernel)).trans (congrArg (fun b => some (PyData.bool b)) (by decide +kernel))
@[simp] theorem ws65 : eqM (.str "not") (.str "table") = some (.bool false) := (e_eqS (by decide +kernel) (by decide +kernel)).trans (congrArg (fun b => some (PyData.bool b)) (by decide +kernel))
@[simp] theorem ws66 : eqM (.str "not") (.str "not") = some (.bool true) := (e_eqS (by decide +kernel) (by decide +kernel)).trans (congrArg (fun b => some (PyData.bool b)) (by decide +kernel))
@[simp] theorem ws67 : eqM (.str "not") (.str "and") = some (.bool false) := (e_eqS (by decide +kernel) (by decide +kernel)).trans (congrArg (fun b => some (PyData.bool b)) (by decide +kernel))
@[simp] theorem ws68 : eqM (.str "not") (.str "or") = some (.bool false) := (e_eqS (by decide +kernel) (by decide +kernel)).trans (congrArg (fun b => some (PyData.bool b)) (by decide +kernel))
@[simp] theorem ws69 : eqM (.str "not") (.str "odd") = some (.bool false) := (e_eqS (by decide +kernel) (by decide +kernel)).trans (congrArg (fun b => some (PyData.bool b)) (by decide +kernel))
@[simp] theorem wj70 : inM (.str "not") c_JOINING_WORDS = some (.bool false) := in_join.trans (congrArg (fun b => some (PyData.bool b)) (by decide +kernel))
@[simp] theorem wi70 : isTy "str" (.str "not") = true := rfl
@[simp] theorem ws70 : eqM (.str "and") (.str "say") = some (.bool false) := (e_eqS (by decide +kernel) (by decide +kernel)).trans (congrArg (fun b => some (PyData.bool b)) (by decide +kernel))
@[simp] theorem ws71 : eqM (.str "and") (.str "is") = some (.bool false) := (e_eqS (by decide +kernel) (by decide +kernel)).trans (congrArg (fun b => some (PyData.bool b)) (by decide +kernel))
@[simp] theorem ws72 : eqM (.str "and") (.str "tree") = some (.bool false) := (e_eqS (by decide +kernel) (by decide +kernel)).trans (congrArg (fun b => some (PyData.bool b)) (by decide +kernel))
@[simp] theorem ws73 : eqM (.str "and") (.str "rules") = some (.bool false) := (e_eqS (by decide +kernel) (by decide +kernel)).trans (congrArg (fun b => some (PyData.bool b)) (by decide +kernel))
@[simp] theorem ws74 : eqM (.str "and") (.str "card") = some (.bool false) := (e_eqS (by decide +kernel) (by decide +kernel)).trans (congrArg (fun b => some (PyData.bool b)) (by decide +kernel))
@[simp] theorem ws75 : eqM (.str "and") (.str "table") = some (.bool false) := (e_eqS (by decide +kernel) (by decide +kernel)).trans (congrArg (fun b => some (PyData.bool b)) (by decide +kernel))
@[simp] theorem ws76 : eqM (.str "and") (.str "not") = some (.bool false) := (e_eqS (by decide +kernel) (by decide +kernel)).trans (congrArg (fun b => some (PyData.bool b)) (by decide +kernel))
@[simp] theorem ws77 : eqM (.str "and") (.str "and") = some (.bool true) := (e_eqS (by decide +kernel) (by decide +kernel)).trans (congrArg (fun b => some (PyData.bool b)) (by decide +kernel))
@[simp] theorem ws78 : eqM (.str "and") (.str "or") = some (.bool false) := (e_eqS (by decide +kernel) (by decide +kernel)).trans (congrArg (fun b => some (PyData.bool b)) (by decide +kernel))
@[simp] theorem ws79 : eqM (.str "and") (.str "odd") = some (.bool false) := (e_eqS (by decide +kernel) (by decide +kernel)).trans (congrArg (fun b => some (PyData.bool b)) (by decide +kernel))
@[simp] theorem wj80 : inM (.str "and") c_JOINING_WORDS = some (.bool true) := in_join.trans (congrArg (fun b => some (PyData.bool b)) (by decide +kernel))
@[simp] theorem wi80 : isTy "str" (.str "and") = true := rfl
@[simp] theorem ws80 : eqM (.str "or") (.str "say") = some (.bool false) := (e_eqS (by decide +kernel) (by decide +kernel)).trans (congrArg (fun b => some (PyData.bool b)) (by decide +kernel))
@[simp] theorem ws81 : eqM (.str "or") (.str "is") = some (.bool false) := (e_eqS (by decide +kernel) (by decide +kernel)).trans (congrArg (fun b => some (PyData.bool b)) (by decide +kernel))
@[simp] theorem ws82 : eqM (.str "or") (.str "tree") = some (.bool false) := (e_eqS (by decide +kernel) (by decide +kernel)).trans (congrArg (fun b => some (PyData.bool b)) (by decide +kernel))
@[simp] theorem ws83 : eqM (.str "or") (.str "rules") = some (.bool false) := (e_eqS (by decide +kernel) (by decide +kernel)).trans (congrArg (fun b => some (PyData.bool b)) (by decide +kernel))
@[simp] theorem ws84 : eqM (.str "or") (.str "card") = some (.bool false) := (e_eqS (by decide +kernel) (by decide +kernel)).trans (congrArg (fun b => some (PyData.bool b)) (by decide +kernel))
@[simp] theorem ws85 : eqM (.str "or") (.str "table") = some (.bool false) := (e_eqS (by decide +kernel) (by decide +kernel)).trans (congrArg (fun b => some (PyData.bool b)) (by decide +kernel))
@[simp] theorem ws86 : eqM (.str "or") (.str "not") = some (.bool false) := (e_eqS (by decide +kernel) (by decide +kernel)).trans (congrArg (fun b => some (PyData.bool b)) (by decide +kernel))
@[simp] theorem ws87 : eqM (.str "or") (.str "and") = some (.bool false) := (e_eqS (by decide +kernel) (by decide +kernel)).trans (congrArg (fun b => some (PyData.bool b)) (by decide +kernel))
@[simp] theorem ws88 : eqM (.str "or") (.str "or") = some (.bool true) := (e_eqS (by decide +kernel) (by decide +kernel)).trans (congrArg (fun b => some (PyData.bool b)) (by decide +kernel))
@[simp] theorem ws89 : eqM (.str "or") (.str "odd") = some (.bool false) := (e_eqS (by decide +kernel) (by decide +kernel)).trans (congrArg (fun b => some (PyData.bool b)) (by decide +kernel))
@[simp] theorem wj90 : inM (.str "or") c_JOINING_WORDS = some (.bool true) := in_join.trans (congrArg (fun b => some (PyData.bool b)) (by decide +kernel))
@[simp] theorem wi90 : isTy "str" (.str "or") = true := rfl
@[simp] theorem ws90 : eqM (.str "odd") (.str "say") = some (.bool false) := (e_eqS (by decide +kernel) (by decide +kernel)).trans (congrArg (fun b => some (PyData.bool b)) (by decide +kernel))
@[simp] theorem ws91 : eqM (.str "odd") (.str "is") = some (.bool false) := (e_eqS (by decide +kernel) (by decide +kernel)).trans (congrArg (fun b => some (PyData.bool b)) (by decide +kernel))
@[simp] theorem ws92 : eqM (.str "odd") (.str "tree") = some (.bool false) := (e_eqS (by decide +kernel) (by decide +kernel)).trans (congrArg (fun b => some (PyData.bool b)) (by decide +kernel))
@[simp] theorem ws93 : eqM (.str "odd") (.str "rules") = some (.bool false) := (e_eqS (by decide +kernel) (by decide +kernel)).trans (congrArg (fun b => some (PyData.bool b)) (by decide +kernel))
@[simp] theorem ws94 : eqM (.str "odd") (.str "card") = some (.bool false) := (e_eqS (by decide +kernel) (by decide +kernel)).trans (congrArg (fun b => some (PyData.bool b)) (by decide +kernel))
@[simp] theorem ws95 : eqM (.str "odd") (.str "table") = some (.bool false) := (e_eqS (by decide +kernel) (by decide +kernel)).trans (congrArg (fun b => some (PyData.bool b)) (by decide +kernel))
@[simp] theorem ws96 : eqM (.str "odd") (.str "not") = some (.bool false) := (e_eqS (by decide +kernel) (by decide +kernel)).trans (congrArg (fun b => some (PyData.bool b)) (by decide +kernel))
@[simp] theorem ws97 : eqM (.str "odd") (.str "and") = some (.bool false) := (e_eqS (by decide +kernel) (by decide +kernel)).trans (congrArg (fun b => some (PyData.bool b)) (by decide +kernel))
@[simp] theorem ws98 : eqM (.str "odd") (.str "or") = some (.bool false) := (e_eqS (by decide +kernel) (by decide +kernel)).trans (congrArg (fun b => some (PyData.bool b)) (by decide +kernel))
@[simp] theorem ws99 : eqM (.str "odd") (.str "odd") = some (.bool true) := (e_eqS (by decide +kernel) (by decide +kernel)).trans (congrArg (fun b => some (PyData.bool b)) (by decide +kernel))
@[simp] theorem wj100 : inM (.str "odd") c_JOINING_WORDS = some (.bool true) := in_join.trans (congrArg (fun b => some (PyData.bool b)) (by decide +kernel))
@[simp] theorem wi100 : isTy "str" (.str "odd") = true := rfl
inductive Jw where
  | and | or | odd
def Jw.str : Jw → Str
  | .and => "and"
  | .or => "or"
  | .odd => "odd"
def Jw.ev : Jw → List Bool → Bool
  | .and, bs => bs.all id
  | .or, bs => bs.any id
  | .odd, bs => bs.countP id % 2 == 1
abbrev Cond := Nat × List Nat
abbrev Rule := List Cond × Bool
inductive Frm where
  | say (b : Bool)
  | test (f : Nat) (vs : List Nat)
  | tree (f : Nat) (bs : List Frm)
  | rules (rs : List Rule) (l : Bool)
  | card (ws : List (List Int)) (t : Int)
  | table (rs : List Bool)
  | neg (x : Frm)
  | join (w : Jw) (xs : List Frm)
def condD (c : Cond) : PyData := .tuple [nD c.1, .tuple (c.2.map nD)]
abbrev condsD (cs : List Cond) : PyData := .tuple (cs.map condD)
def ruleD (r : Rule) : PyData := .tuple [condsD r.1, .bool r.2]
def rowD (w : List Int) : PyData := .tuple (w.map .int)
mutual
def Frm.D : Frm → PyData
  | .say b => .tuple [.str "say", .bool b]
  | .test f vs => .tuple [.str "is", nD f, .tuple (vs.map nD)]
  | .tree f bs => .tuple [.str "tree", nD f, .tuple (Frm.Ds bs)]
  | .rules rs l => .tuple [.str "rules", .tuple (rs.map ruleD), .bool l]
  | .card ws t => .tuple [.str "card", .tuple (ws.map rowD), .int t]
  | .table rs => .tuple [.str "table", .tuple (rs.map .bool)]
  | .neg x => .tuple [.str "not", x.D]
  | .join w xs => .tuple [.str w.str, .tuple (Frm.Ds xs)]
def Frm.Ds : List Frm → List PyData
  | [] => []
  | x :: xs => x.D :: Frm.Ds xs
end
def fitsB (cs : List Nat) (r : List Cond) : Bool := r.all fun c => c.2.contains (cs.getD c.1 0)
def plc : Nat → List Nat → List Nat → Nat
  | a, n :: ns, c :: cs => plc (a * n + c) ns cs
  | a, _, _ => a
def wsum : List (List Int) → List Nat → Int
  | w :: ws, c :: cs => w.getD c 0 + wsum ws cs
  | _, _ => 0
mutual
def Frm.ev (ns cs : List Nat) : Frm → Bool
  | .say b => b
  | .test f vs => vs.contains (cs.getD f 0)
  | .tree f bs => (Frm.evs ns cs bs).getD (cs.getD f 0) false
  | .rules rs l => match rs.find? fun r => fitsB cs r.1 with
    | some r => r.2
    | none => l
  | .card ws t => decide (t ≤ wsum ws cs)
  | .table rs => rs.getD (plc 0 ns cs) false
  | .neg x => !x.ev ns cs
  | .join w xs => w.ev (Frm.evs ns cs xs)
def Frm.evs (ns cs : List Nat) : List Frm → List Bool
  | [] => []
  | x :: xs => x.ev ns cs :: Frm.evs ns cs xs
end
def TestOk (ns : List Nat) (c : Cond) : Prop := ∃ n, ns[c.1]? = some n ∧ AscFrom 0 n c.2
def CondsOk (ns : List Nat) (cs : List Cond) : Prop := AscFrom 0 ns.length (cs.map Prod.fst) ∧ ∀ c ∈ cs, TestOk ns c
mutual
def Frm.Ok (ns : List Nat) : Frm → Prop
  | .say _ => True
  | .test f vs => TestOk ns (f, vs)
  | .tree f bs => ns[f]? = some bs.length ∧ Frm.Oks ns bs
  | .rules rs _ => rs.length ≤ 1000 ∧ ∀ r ∈ rs, CondsOk ns r.1
  | .card ws _ => ws.length = ns.length ∧ ∀ (i n : Nat) (w : List Int), ns[i]? = some n → ws[i]? = some w → w.length = n
  | .table rs => prod ns ≤ 1024 ∧ rs.length = prod ns
  | .neg x => x.Ok ns
  | .join _ xs => xs.length ≤ 1000 ∧ Frm.Oks ns xs
def Frm.Oks (ns : List Nat) : List Frm → Prop
  | [] => True
  | x :: xs => x.Ok ns ∧ Frm.Oks ns xs
end
mutual
def Frm.dp : Frm → Nat
  | .tree _ bs => 1 + Frm.dps bs
  | .neg x => 1 + x.dp
  | .join _ xs => 1 + Frm.dps xs
  | _ => 0
def Frm.dps : List Frm → Nat
  | [] => 0
  | x :: xs => max x.dp (Frm.dps xs)
end
mutual
def Frm.sz : Frm → Nat
  | .tree _ bs => 1 + Frm.szs bs
  | .neg x => 1 + x.sz
  | .join _ xs => 1 + Frm.szs xs
  | _ => 1
def Frm.szs : List Frm → Nat
  | [] => 0
  | x :: xs => x.sz + Frm.szs xs
end
theorem Frm.ind {P : Frm → Prop} (say : ∀ b, P (.say b)) (test : ∀ f vs, P (.test f vs)) (tree : ∀ f bs, (∀ b ∈ bs, P b) → P (.tree f bs)) (rules : ∀ rs l, P (.rules rs l)) (card : ∀ ws t, P (.card ws t)) (table : ∀ rs, P (.table rs)) (neg : ∀ x, P x → P (.neg x)) (join : ∀ w xs, (∀ b ∈ xs, P b) → P (.join w xs)) (x : Frm) : P x :=
  Frm.rec (motive_1 := P) (motive_2 := fun bs => ∀ b ∈ bs, P b) say test tree rules card table neg join (fun _ h => nomatch h) (fun _ _ h1 h2 b hb => (List.mem_cons.mp hb).elim (fun e => e ▸ h1) (h2 b)) x
section
variable {α : Type} {vs : List Nat} {mi : M (List PyData)} {g : PyData → En → Option En} {mt : M Bool} {me : M PyData} {r : En}
theorem lcy (f : α → PyData) (F : α → PyData) (e : α → En) {xs : List α} (hi : mi r = some (.ok (xs.map f) r)) (hf : freeAt r vs = true) (hl : xs.length ≤ 1000000)
    (hg : ∀ x ∈ xs, g (f x) (wipeE r vs) = some (e x)) (hw : ∀ x ∈ xs, wipeE (e x) vs = wipeE r vs) (he : ∀ x ∈ xs, me (e x) = some (.ok (F x) (e x))) :
    mLc vs mi g mYes me r = some (.ok (xs.map F) r) := lc_y f F e hi hf hl hg hw he
theorem lcm (f : α → PyData) (p : α → Bool) (F : α → PyData) (e : α → En) {xs : List α} (hi : mi r = some (.ok (xs.map f) r)) (hf : freeAt r vs = true) (hl : xs.length ≤ 1000000)
    (hg : ∀ x ∈ xs, g (f x) (wipeE r vs) = some (e x)) (hw : ∀ x ∈ xs, wipeE (e x) vs = wipeE r vs) (ht : ∀ x ∈ xs, mt (e x) = some (.ok (p x) (e x))) (he : ∀ x ∈ xs, p x = true → me (e x) = some (.ok (F x) (e x))) :
    mLc vs mi g mt me r = some (.ok ((xs.filter p).map F) r) := lc_m f p F e hi hf hl hg hw ht he
end
end DL
namespace DL
open PySem PySem.Spec PyProof.Rows L2 Lk
theorem canLay_map {α : Type} {f : α → PyData} : ∀ {xs : List α}, (∀ x ∈ xs, (f x).canLay0 = true) → PyData.canLayAll0 (xs.map f) = true
  | [], _ => rfl
  | x :: xs, h => by
    rw [List.map_cons, PyData.canLayAll0, h x (List.mem_cons_self ..), canLay_map fun y hy => h y (List.mem_cons_of_mem _ hy)]
    rfl
theorem depth_map {α : Type} {f : α → PyData} {n : Nat} : ∀ {xs : List α}, (∀ x ∈ xs, (f x).depth ≤ n) → PyData.depthAll (xs.map f) ≤ n
  | [], _ => by rw [List.map_nil, PyData.depthAll]; omega
  | x :: xs, h => by
    have h1 := h x (List.mem_cons_self ..)
    have h2 := depth_map (xs := xs) fun y hy => h y (List.mem_cons_of_mem _ hy)
    rw [List.map_cons, PyData.depthAll]
    omega
/-- plain data: may be compared, n levels deep at most -/
def Sh (n : Nat) (d : PyData) : Prop := d.canLay0 = true ∧ d.depth ≤ n
theorem Sh.int {i : Int} : Sh 0 (.int i) := ⟨by rw [PyData.canLay0], by rw [PyData.depth]; omega⟩
theorem Sh.n {i : Nat} : Sh 0 (nD i) := Sh.int
theorem Sh.bool {b : Bool} : Sh 0 (.bool b) := ⟨by rw [PyData.canLay0], by rw [PyData.depth]; omega⟩
theorem Sh.none : Sh 0 .none := ⟨by rw [PyData.canLay0], by rw [PyData.depth]; omega⟩
theorem Sh.o {o : Option Nat} : Sh 0 (oD o) := by cases o; exact Sh.none; exact Sh.n
theorem Sh.list {α : Type} {f : α → PyData} {xs : List α} {n : Nat} (h : ∀ x ∈ xs, Sh n (f x)) : Sh (n + 1) (.list (xs.map f)) :=
  ⟨by rw [PyData.canLay0]; exact canLay_map fun x hx => (h x hx).1, by rw [PyData.depth]; have := depth_map fun x hx => (h x hx).2; omega⟩
theorem Sh.tup {α : Type} {f : α → PyData} {xs : List α} {n : Nat} (h : ∀ x ∈ xs, Sh n (f x)) : Sh (n + 1) (.tuple (xs.map f)) :=
  ⟨by rw [PyData.canLay0]; exact canLay_map fun x hx => (h x hx).1, by rw [PyData.depth]; have := depth_map fun x hx => (h x hx).2; omega⟩
theorem Sh.sh {n : Nat} {d : PyData} (h : Sh n d) (hn : n ≤ 64 := by decide) : SeqAt.shaped d = true := shaped_of h.1 (Nat.le_trans h.2 hn)
theorem eqv_n {a b : Nat} : PyData.eqv (nD a) (nD b) = (a == b) := by
  unfold nD
  rw [PyData.eqv, Bool.eq_iff_iff, beq_iff_eq, beq_iff_eq]
  omega
theorem memD_map {α : Type} {f : α → PyData} {xs : List α} {v : PyData} {p : α → Bool} (h : ∀ x ∈ xs, PyData.eqv (f x) v = p x) : memD v (xs.map f) = xs.any p := by
  unfold memD
  rw [List.any_map]
  induction xs with
  | nil => rfl
  | cons x xs ih =>
    rw [List.any_cons, List.any_cons, ih fun y hy => h y (List.mem_cons_of_mem _ hy)]
    congr 1
    exact h x (List.mem_cons_self ..)
theorem any_eq {xs : List Nat} {v : Nat} : (xs.any fun x => x == v) = xs.contains v := by
  induction xs with
  | nil => rfl
  | cons x xs ih =>
    rw [List.any_cons, ih, List.contains_cons, Bool.beq_comm]
theorem flat_n {xs : List Nat} : (xs.map nD).all flatD = true := by rw [List.all_map]; exact List.all_eq_true.mpr fun _ _ => rfl
@[simp] theorem e_in_tn {v : Nat} {xs : List Nat} : inM (nD v) (.tuple (xs.map nD)) = some (.bool (xs.contains v)) := by
  show (if flatD (nD v) && (xs.map nD).all flatD then _ else _) = _
  rw [flat_n]
  show some (PyData.bool (memD _ _)) = _
  rw [memD_map (p := fun x => x == v) fun x _ => eqv_n, any_eq]
theorem sh_bools {bs : List Bool} : SeqAt.shaped (.list (bs.map PyData.bool)) = true := (Sh.list fun _ _ => Sh.bool).sh
theorem mem_bools {b : Bool} {bs : List Bool} : memD (.bool b) (bs.map PyData.bool) = bs.contains b := by
  rw [memD_map (p := fun x => x == b) fun x _ => by rw [PyData.eqv]]
  induction bs with
  | nil => rfl
  | cons x xs ih => rw [List.any_cons, ih, List.contains_cons, Bool.beq_comm]
@[simp] theorem e_in_b {b : Bool} {bs : List Bool} : inM (.bool b) (.list (bs.map PyData.bool)) = some (.bool (bs.contains b)) := by
  show (if SeqAt.shaped (.bool b) && SeqAt.shaped (.list (bs.map PyData.bool)) then _ else _) = _
  rw [sh_bools, (Sh.bool).sh, mem_bools]
  rfl
@[simp] theorem e_notIn_b {b : Bool} {bs : List Bool} : notInM (.bool b) (.list (bs.map PyData.bool)) = some (.bool (!bs.contains b)) := by
  show (if SeqAt.shaped (.bool b) && SeqAt.shaped (.list (bs.map PyData.bool)) then _ else _) = _
  rw [sh_bools, (Sh.bool).sh, mem_bools]
  rfl
@[simp] theorem e_eq_l {a n : Nat} : eqM (nD a) (.int (no_index (@OfNat.ofNat Int n instOfNat))) = some (.bool (a == n)) := e_eq_n
@[simp] theorem e_ne_l {a n : Nat} : neM (nD a) (.int (no_index (@OfNat.ofNat Int n instOfNat))) = some (.bool (!(a == n))) := e_ne_n
@[simp] theorem e_lt_l {a n : Nat} : ltM (nD a) (.int (no_index (@OfNat.ofNat Int n instOfNat))) = some (.bool (decide (a < n))) := e_lt_n
theorem e_mod_n {a b : Nat} (h : 0 < b) : modM (nD a) (nD b) = some (nD (a % b)) := by
  have := e_modI (a := (a : Int)) (b := b) (by omega)
  show modM (.int a) (.int b) = _
  rw [this]
  rfl
@[simp] theorem e_mod_2 {a : Nat} : modM (nD a) (.int 2) = some (nD (a % 2)) := e_mod_n (b := 2) (by decide)
theorem Case.at {ns cs : List Nat} (h : Case ns cs) {i n : Nat} (e : ns[i]? = some n) : ∃ c, cs[i]? = some c ∧ c < n := by
  have li : i < ns.length := (List.getElem?_eq_some_iff.mp e).1
  have lc : i < cs.length := by rw [h.1]; exact li
  exact ⟨cs[i], List.getElem?_eq_getElem lc, h.2 i n _ e (List.getElem?_eq_getElem lc)⟩
theorem Case.nil : Case [] [] := ⟨rfl, fun _ _ _ h => by simp at h⟩
theorem Case.cons {n c : Nat} {ns cs : List Nat} : Case (n :: ns) (c :: cs) ↔ c < n ∧ Case ns cs := by
  constructor
  · intro h
    exact ⟨h.2 0 n c rfl rfl, by simpa using h.1, fun i m d e e' => h.2 (i + 1) m d (by simpa using e) (by simpa using e')⟩
  · rintro ⟨h1, h2, h3⟩
    refine ⟨by simpa using h2, fun i m d e e' => ?_⟩
    cases i with
    | zero => cases e; cases e'; exact h1
    | succ i => exact h3 i m d (by simpa using e) (by simpa using e')
theorem e_add_n {a b : Nat} : addM (nD a) (nD b) = some (nD (a + b)) := by
  show some (PyData.int ((a : Int) + b)) = _
  rw [← Int.natCast_add]
  rfl
@[simp] theorem e_add_nn {a b : Nat} : addM (nD a) (nD b) = some (nD (a + b)) := e_add_n
@[simp] theorem e_add_l {a n : Nat} : addM (nD a) (.int (no_index (@OfNat.ofNat Int n instOfNat))) = some (nD (a + n)) := e_add_n
@[simp] theorem e_add_r {a n : Nat} : addM (.int (no_index (@OfNat.ofNat Int n instOfNat))) (nD a) = some (nD (n + a)) := e_add_n
theorem asc_of : ∀ {xs : List Nat} {lo n : Nat}, xs.Pairwise (· < ·) → (∀ x ∈ xs, lo ≤ x ∧ x < n) → AscFrom lo n xs
  | [], _, _, _, _ => trivial
  | x :: xs, lo, n, hp, h => by
    obtain ⟨h1, h2⟩ := List.pairwise_cons.mp hp
    have hx := h x (List.mem_cons_self ..)
    exact ⟨hx.1, hx.2, asc_of h2 fun y hy => ⟨h1 y hy, (h y (List.mem_cons_of_mem _ hy)).2⟩⟩
theorem asc_filter {n : Nat} {p : Nat → Bool} : AscFrom 0 n ((List.range n).filter p) :=
  asc_of (List.Pairwise.filter _ List.pairwise_lt_range) fun x hx => ⟨Nat.zero_le _, List.mem_range.mp (List.mem_filter.mp hx).1⟩
end DL
namespace DL
open PySem PySem.Spec PyProof.Rows L2 Lk
section
variable {r : En} {m : M (List PyData)} {mq : M PQ} {md : M PyData} {i : Nat} {z : PyData} {ds bs : List PyData}
@[simp] theorem e_callQ {g : List PyData → Option PQ} : mCallQ g m r = M.bind m (fun ds => M.lift (g ds)) r := rfl
@[simp] theorem s_setQ : sSetQ i mq r = sBind mq (fun z => match z with
  | .inl d => sPut i d
  | .inr ds => sPutO i ds) r := rfl
@[simp] theorem s_retF : sRetF m r = sBind m (fun ds r => some (.rf ds r)) r := rfl
@[simp] theorem s_retQ : sRetQ mq r = sBind mq (fun z r => match z with
  | .inl d => some (.rt d r)
  | .inr ds => some (.rf ds r)) r := rfl
@[simp] theorem s_retO : sRetO i r = (match r[i]? with
  | some (.ow ds) => some (.rf ds r)
  | _ => none) := rfl
@[simp] theorem q_rt : outQ (some (.rt z r)) = some (.inl z) := rfl
@[simp] theorem q_nx : outQ (some (.nx r)) = some (.inl .none) := rfl
@[simp] theorem q_rf : outQ (some (.rf ds r)) = some (.inr ds) := rfl
@[simp] theorem m_rt : outM (some (.rt z r)) = (ioAt r).map fun bs => (z, bs) := rfl
@[simp] theorem m_nx : outM (some (.nx r)) = (ioAt r).map fun bs => (.none, bs) := rfl
@[simp] theorem m_io : ioAt (.io bs :: r) = some bs := rfl
@[simp] theorem e_bits : mBits md r = M.bind md (fun d => M.lift ((asInt d).map fun i => .int (Builtin.Int.intBits i : Nat))) r := rfl
@[simp] theorem e_callM {g : List PyData → List PyData → Option (PyData × List PyData)} : mCallM i m g r = if (ownOf r[i]?).isSome then (m.bind fun ds r => match ownOf r[i]? with
  | some bs => (g bs ds).map fun z => .ok z.1 (upO i z.2 r)
  | none => none) r else none := rfl
@[simp] theorem e_peek {mt : M Bool} : mPeek mt r = if r.all noIo then (match mt (fz r) with
  | some (.ok b _) => some (.ok b r)
  | some (.ex c p) => some (.ex c p)
  | none => none) else none := rfl
@[simp] theorem e_peekV {md : M PyData} : mPeekV md r = if r.all noIo then (match md (fz r) with
  | some (.ok d _) => if atomD d then some (.ok d r) else none
  | some (.ex c p) => some (.ex c p)
  | none => none) else none := rfl
@[simp] theorem e_peekF {m : M (List PyData)} : mPeekF m r = if r.all noIo then (match m (fz r) with
  | some (.ok ds _) => if ds.all atomD then some (.ok ds r) else none
  | some (.ex c p) => some (.ex c p)
  | none => none) else none := rfl
@[simp] theorem e_callX {g : List PyData → Option PX} : mCallX g m r = M.bind m (fun ds r => match g ds with
  | some (.inl z) => some (.ok z r)
  | some (.inr c) => some (.ex c [])
  | none => none) r := rfl
@[simp] theorem s_raise {c : Str} : sRaise c r = some (.ex c []) := rfl
@[simp] theorem x_rt : outX (some (.rt z r)) = some (.inl z) := rfl
@[simp] theorem x_nx : outX (some (.nx r)) = some (.inl .none) := rfl
@[simp] theorem x_ex {c : Str} : outX (some (.ex c [])) = some (.inr c) := rfl
@[simp] theorem s_okNx {d : PyData} : okNx d r = some (.nx r) := rfl
@[simp] theorem s_try {L : List Str} {g : List PyData → Option PX} {hs : List (Str × SM)} {ok : PyData → SM} : sTry L g m hs ok r = (match m r with
  | some (.ok ds r') => match g ds with
    | some (.inl z) => ok z r'
    | some (.inr c) => if L.contains c then (match pick c hs with
      | some sv => sv r'
      | none => none) else none
    | none => none
  | _ => none) := rfl
end
def fzC : Cel → Cel
  | .ow ds => .pl (.list ds)
  | c => c
theorem fzTo_at {r : En} : ∀ {n j : Nat}, (fzTo n r)[j]? = if j < n then r[j]?.map fzC else r[j]?
  | 0, j => by simp [fzTo]
  | n + 1, j => by
    have ih := @fzTo_at r n
    have hn := ih (j := n)
    rw [if_neg (by omega)] at hn
    have len : ∀ m, (fzTo m r).length = r.length := fun m => by
      induction m with
      | zero => rfl
      | succ m im =>
        rw [fzTo]
        split
        · rw [List.length_set]; exact im
        · exact im
    rw [fzTo]
    by_cases hj : j = n
    · subst hj
      rw [if_pos (by omega)]
      split
      · rename_i ds e
        rw [hn] at e
        rw [List.getElem?_set_self (by rw [len]; exact (List.getElem?_eq_some_iff.mp e).1), e]
        rfl
      · rename_i e
        rw [hn]
        cases h : r[j]? with
        | none => rfl
        | some c =>
          cases c with
          | ow ds => exact (e ds (hn.trans h)).elim
          | _ => rfl
    · have q : (fzTo n r)[j]? = if j < n + 1 then r[j]?.map fzC else r[j]? := by
        rw [ih]
        by_cases h : j < n
        · rw [if_pos h, if_pos (by omega)]
        · rw [if_neg h, if_neg (by omega)]
      split
      · rw [List.getElem?_set_ne (Ne.symm hj)]
        exact q
      · exact q
theorem fz_map {r : En} : fz r = r.map fzC := List.ext_getElem? fun j => by
  unfold fz
  rw [fzTo_at, List.getElem?_map]
  split
  · rfl
  · rename_i h
    rw [List.getElem?_eq_none (by omega)]
    rfl
@[simp] theorem fz_nil : fz [] = [] := rfl
@[simp] theorem fz_cons {c : Cel} {r : En} : fz (c :: r) = fzC c :: fz r := by rw [fz_map, fz_map]; rfl
@[simp] theorem fzC_ow {ds : List PyData} : fzC (.ow ds) = .pl (.list ds) := rfl
@[simp] theorem fzC_pl {d : PyData} : fzC (.pl d) = .pl d := rfl
@[simp] theorem fzC_un : fzC .un = .un := rfl
@[simp] theorem noIo_ow {ds : List PyData} : noIo (.ow ds) = true := rfl
@[simp] theorem noIo_pl {d : PyData} : noIo (.pl d) = true := rfl
@[simp] theorem noIo_un : noIo .un = true := rfl
@[simp] theorem atom_int {i : Int} : atomD (.int i) = true := rfl
@[simp] theorem atom_bool {i : Bool} : atomD (.bool i) = true := rfl
@[simp] theorem atom_none : atomD .none = true := rfl
@[simp] theorem atom_str {s : Str} : atomD (.str s) = true := rfl
end DL
namespace DL
open PySem PySem.Spec PyProof.Rows L2 Lk
theorem band_n (a b : Nat) : andM (nD a) (nD b) = some (nD (a &&& b)) := by
  show some (PyData.int (Builtin.bitAnd (a : Int) (b : Int))) = _
  rw [bitAnd_pp (Int.natCast_nonneg a) (Int.natCast_nonneg b), Int.toNat_natCast, Int.toNat_natCast]
  rfl
theorem bor_n (a b : Nat) : orM (nD a) (nD b) = some (nD (a ||| b)) := by
  show some (PyData.int (Builtin.bitOr (a : Int) (b : Int))) = _
  rw [bitOr_nn (Int.natCast_nonneg _) (Int.natCast_nonneg _), Int.toNat_natCast, Int.toNat_natCast]
  rfl
theorem shl_n {n : Nat} (h : n ≤ 1000) : shlM (.int 1) (nD n) = some (nD (2 ^ n)) := by
  show (if _ then _ else _) = _
  have b1 : Builtin.Int.intBits (1 : Int) = 1 := by decide
  rw [if_pos (by rw [b1]; omega), Int.toNat_natCast, Int.one_mul]
  show some (PyData.int _) = some (PyData.int _)
  congr 2
theorem shr_n {v k : Nat} : shrM (nD v) (nD k) = some (nD (v / 2 ^ k)) := by
  have := e_shrI (a := (v : Int)) (b := (k : Int)) (by omega)
  rw [Int.toNat_natCast] at this
  refine Eq.trans this ?_
  show some (PyData.int _) = some (PyData.int _)
  congr 2
theorem bit1_n {v k : Nat} : andM (nD (v / 2 ^ k)) (.int 1) = some (nD (v / 2 ^ k % 2)) := by
  have := band_n (v / 2 ^ k) 1
  rw [Nat.and_one_is_mod] at this
  exact this
theorem bit_eq {v k : Nat} : (v / 2 ^ k % 2 == 1) = v.testBit k := by
  rw [Nat.testBit_eq_decide_div_mod_eq, Bool.eq_iff_iff, beq_iff_eq, decide_eq_true_iff]
theorem tru_n {v : Nat} : truD (nD v) = some (v != 0) := by
  show some (((v : Nat) : Int) != 0) = _
  congr 1
  rw [Bool.eq_iff_iff, bne_iff_ne, bne_iff_ne]
  omega
theorem bit_ne {v k : Nat} : (v / 2 ^ k % 2 != 0) = v.testBit k := by
  rw [← bit_eq, Bool.eq_iff_iff, bne_iff_ne, beq_iff_eq]
  omega
theorem eq_nQ {a b : Nat} : eqM (nD a) (nD b) = some (.bool (a == b)) := by
  rw [e_eqD (Sh.n).sh (Sh.n).sh, eqv_n]
theorem ne_nQ {a b : Nat} : neM (nD a) (nD b) = some (.bool (!(a == b))) := by
  rw [e_neD (Sh.n).sh (Sh.n).sh, eqv_n]
theorem g_mask_of_ok {n : Nat} {ms : List Nat} (hn : n ≤ 100) (hm : ∀ m ∈ ms, m < n) : g_mask_of [nD n, nsD ms] = some (nD (Fa.maskOf n ms)) := by
  rw [r_mask_of]
  obtain ⟨r2, e, done, c3, rfl, _, hd, _⟩ := for_i (g := gN 3) (b := sSet 2 (mOp2 orM (mV 2) (mOp2 shlM (M.ret (.int 1)) (mOp2 subM (mOp2 subM (mV 0) (M.ret (.int 1))) (mV 3))))) nD
    (fun xs r => ∃ (a : Nat) (c3 : Cel), r = [.pl (nD n), .pl (nsD ms), .pl (nD a), c3] ∧ c3.own = false ∧ xs.foldl (fun a m => a ||| 2 ^ (n - 1 - m)) a = Fa.maskOf n ms ∧ ∀ m ∈ xs, m < n)
    (xs := ms) (r := [.pl (nD n), .pl (nsD ms), .pl (nD 0), .un]) ⟨0, .un, rfl, rfl, rfl, hm⟩ (by
      rintro m xs r ⟨a, c3, rfl, h3, ha, hx⟩
      have lm := hx m (List.mem_cons_self ..)
      have s1 : subM (nD n) (.int 1) = some (nD (n - 1)) := by
        show some (PyData.int ((n : Int) - 1)) = some (PyData.int ((n - 1 : Nat) : Int))
        congr 2
        omega
      have s2 : subM (nD (n - 1)) (nD m) = some (nD (n - 1 - m)) := by
        show some (PyData.int (((n - 1 : Nat) : Int) - m)) = some (PyData.int ((n - 1 - m : Nat) : Int))
        congr 2
        omega
      exact ⟨[.pl (nD n), .pl (nsD ms), .pl (nD a), .pl (nD m)], [.pl (nD n), .pl (nsD ms), .pl (nD (a ||| 2 ^ (n - 1 - m))), .pl (nD m)], by simp [h3], by simp [s1, s2, shl_n (n := n - 1 - m) (by omega), bor_n], _, _, rfl, rfl, ha, fun k hk => hx k (List.mem_cons_of_mem _ hk)⟩)
  rw [List.foldl_nil] at hd
  subst hd
  have n0 : PyData.int 0 = nD 0 := rfl
  rw [← n0] at e
  simp [v_mask_of]
  rw [e]
  simp
def memL (n b : Nat) : List Nat := (List.range n).filter fun m => b.testBit (n - 1 - m)
theorem g_members_of_ok {n b : Nat} (hn : n ≤ 100) : g_members_of [nD n, nD b] = some (nsD (memL n b)) := by
  rw [r_members_of]
  have lc := lcm (vs := [2]) (mi := mRng1 (mCons (mV 0) mNil)) (g := gN 2) (mt := mTru (mOp2 andM (mOp2 shrM (mV 1) (mOp2 subM (mOp2 subM (mV 0) (M.ret (.int 1))) (mV 2))) (M.ret (.int 1)))) (me := mV 2) (r := [.pl (nD n), .pl (nD b), .un])
    nD (fun m => b.testBit (n - 1 - m)) nD (fun m => [.pl (nD n), .pl (nD b), .pl (nD m)]) (xs := List.range n) (by simp [e_rng_n n (by omega)]) (by simp [freeAt]) (by simp; omega) (by simp) (by simp) (by
      intro m hm
      have lm := List.mem_range.mp hm
      have s1 : subM (nD n) (.int 1) = some (nD (n - 1)) := by
        show some (PyData.int ((n : Int) - 1)) = some (PyData.int ((n - 1 : Nat) : Int))
        congr 2
        omega
      have s2 : subM (nD (n - 1)) (nD m) = some (nD (n - 1 - m)) := by
        show some (PyData.int (((n - 1 : Nat) : Int) - m)) = some (PyData.int ((n - 1 - m : Nat) : Int))
        congr 2
        omega
      simp [s1, s2, shr_n, bit1_n, tru_n, bit_ne, bit_eq]) (by simp)
  simp [v_members_of, lc]
  rfl
def srt (M : List Nat) : List Nat := (sortI (M.map Int.ofNat)).map Int.toNat
theorem srt_perm (M : List Nat) : (srt M).Perm M := by
  have h := (sortI_perm (M.map Int.ofNat)).map Int.toNat
  rw [List.map_map] at h
  refine h.trans (List.Perm.of_eq ?_)
  refine (List.map_congr_left fun x _ => ?_).trans (List.map_id M)
  rfl
theorem srt_ints (M : List Nat) : sortI (M.map Int.ofNat) = (srt M).map Int.ofNat := by
  unfold srt
  rw [List.map_map]
  refine ((List.map_congr_left fun x hx => ?_).trans (List.map_id _)).symm
  have := (sortI_perm (M.map Int.ofNat)).mem_iff.mp hx
  obtain ⟨m, _, rfl⟩ := List.mem_map.mp this
  rfl
theorem srt_sorted (M : List Nat) : (srt M).Pairwise (· ≤ ·) := by
  have h := sortI_sorted (M.map Int.ofNat)
  rw [srt_ints, List.pairwise_map] at h
  exact h.imp fun h => by simpa using h
theorem intsOf_n (M : List Nat) : intsOf (M.map nD) = some (M.map Int.ofNat) := by
  induction M with
  | nil => rfl
  | cons m M ih =>
    show (intsOf (M.map nD)).map ((m : Int) :: ·) = _
    rw [ih]
    rfl
theorem g_ascending_ok {M : List Nat} (hl : M.length ≤ 1000000) : g_ascending_numbers [nsD M] = some (nsD (srt M)) := by
  rw [r_ascending_numbers]
  have i1 : ∀ n : Nat, intM [nD n] = some (nD n) := fun _ => rfl
  have lc := lcy (vs := [1]) (mi := mSeq (mV 0)) (g := gN 1) (me := mCall intM (mCons (mV 1) mNil)) (r := [.pl (nsD M), .un]) nD nD (fun m => [.pl (nsD M), .pl (nD m)]) (xs := M) (by simp) (by simp [freeAt]) hl (by simp) (by simp) (by
    intro m _
    simp [i1])
  have so : sortedM [.list (M.map nD)] = some ((srt M).map nD) := by
    show (intsOf (M.map nD)).map _ = _
    rw [intsOf_n]
    show some ((sortI (M.map Int.ofNat)).map PyData.int) = _
    rw [srt_ints, List.map_map]
    rfl
  simp [v_ascending_numbers, lc, so]
end DL
namespace DL
open PySem PySem.Spec PyProof.Rows L2 Lk
abbrev setsD (n : Nat) (rows : List Nat) : PyData := .list (rows.map fun b => nsD (Fa.lset n b))
theorem lset_asc (n b : Nat) : AscFrom 0 n (Fa.lset n b) := asc_filter
theorem lset_len (n b : Nat) : (Fa.lset n b).length ≤ n := Nat.le_trans (List.length_filter_le ..) (by simp)
theorem all_trueQ {α : Type} {xs : List α} : allM [.list (xs.map fun _ => PyData.bool true)] = some (.bool true) := by
  have := e_all (bs := xs.map fun _ => true)
  rw [List.map_map] at this
  refine Eq.trans this ?_
  simp
theorem g_read_family_ok {n : Nat} {rows : List Nat} (hn : n ≤ 10) (hl : rows.length ≤ 300) : g_p_read_family [nD n, setsD n rows] = some (nsD (rows.map (Fa.rev n))) := by
  rw [r_p_read_family]
  have bl : g_is_integer_below [nD n, .int 11] = some (.bool true) := by
    have := g_below_n n 11
    rw [decide_eq_true (by omega)] at this
    exact this
  have is : ∀ b, g_p_is_set [nD n, nsD (Fa.lset n b)] = some (.bool true) := fun b => by
    rw [r_p_is_set]
    have := g_asc (d := nsD (Fa.lset n b)) (lim := n) rfl (lset_asc n b)
    simp [v_p_is_set, this]
  have l1 := lcy (vs := [2]) (mi := mSeq (mV 1)) (g := gN 2) (me := mCall g_p_is_set (mCons (mV 0) (mCons (mV 2) mNil))) (r := [.pl (nD n), .pl (setsD n rows), .un]) (fun b => nsD (Fa.lset n b)) (fun _ => .bool true) (fun b => [.pl (nD n), .pl (setsD n rows), .pl (nsD (Fa.lset n b))]) (xs := rows) (by simp) (by simp [freeAt]) (by omega) (by simp) (by simp) (by
    intro b _
    simp [is])
  have l2 := lcy (vs := [2]) (mi := mSeq (mV 1)) (g := gN 2) (me := mCall g_mask_of (mCons (mV 0) (mCons (mV 2) mNil))) (r := [.pl (nD n), .pl (setsD n rows), .un]) (fun b => nsD (Fa.lset n b)) (fun b => nD (Fa.rev n b)) (fun b => [.pl (nD n), .pl (setsD n rows), .pl (nsD (Fa.lset n b))]) (xs := rows) (by simp) (by simp [freeAt]) (by omega) (by simp) (by simp) (by
    intro b _
    have := g_mask_of_ok (n := n) (ms := Fa.lset n b) (by omega) fun m hm => (Fa.lset_mem.mp hm).1
    simp [this]
    rfl)
  have gl : gtM (.int (rows.length : Int)) (.int 300) = some (.bool false) := by
    show some (PyData.bool (decide ((300 : Int) < rows.length))) = _
    rw [decide_eq_false (by omega)]
  have a11 : addM (.int 10) (.int 1) = some (.int 11) := rfl
  simp [-List.map_map, v_p_read_family, a11, bl, l1, gl, all_trueQ, l2]
  rw [List.map_map]
  rfl
structure Least (M L : List Nat) : Prop where
  sub : ∀ x ∈ L, x ∈ M
  cov : ∀ y ∈ M, ∃ x ∈ L, x &&& y = x
  min : ∀ x ∈ L, ∀ y ∈ M, y &&& x = y → y = x
theorem part_trans {x y z : Nat} (h1 : x &&& y = x) (h2 : y &&& z = y) : x &&& z = x := by
  apply Nat.eq_of_testBit_eq
  intro i
  have e1 := congrArg (fun w => w.testBit i) h1
  have e2 := congrArg (fun w => w.testBit i) h2
  simp only [Nat.testBit_and] at e1 e2 ⊢
  revert e1 e2
  cases x.testBit i <;> cases y.testBit i <;> cases z.testBit i <;> simp
theorem mpart_le {x y : Nat} (h : x &&& y = x) : x ≤ y := by
  rw [← h]
  exact Nat.and_le_right
theorem Least.iff {M L : List Nat} (h : Least M L) {x : Nat} : x ∈ L ↔ x ∈ M ∧ ∀ y ∈ M, y &&& x = y → y = x := by
  constructor
  · exact fun hx => ⟨h.sub x hx, h.min x hx⟩
  · rintro ⟨hx, hm⟩
    obtain ⟨z, hz, hzx⟩ := h.cov x hx
    rw [← hm z (h.sub z hz) hzx]
    exact hz
end DL
namespace DL
open PySem PySem.Spec PyProof.Rows L2 Lk
end DL
namespace DL
open PySem PySem.Spec PyProof.Rows L2 Lk
variable {n : Nat} {S rows : List Nat}
end DL
namespace DL
open PySem PySem.Spec PyProof.Rows L2 Lk
theorem mergeSort_fam {n : Nat} (X : List Nat) : (X.map fun m => nsD (memL n m)).mergeSort leLen = (X.mergeSort fun p q => leLen (nsD (memL n p)) (nsD (memL n q))).map fun m => nsD (memL n m) :=
  (List.map_mergeSort (s := leLen) fun p _ q _ => rfl).symm
end DL
namespace DL
open PySem PySem.Spec PyProof.Rows L2 Lk
variable {n : Nat}
theorem pair_or {α : Type} {a b : α} : ∀ {l : List α}, a ∈ l → b ∈ l → a ≠ b → List.Sublist [a, b] l ∨ List.Sublist [b, a] l
  | [], h, _, _ => by cases h
  | x :: l, ha, hb, hn => by
    by_cases ea : a = x
    · subst ea
      have hb' : b ∈ l := (List.mem_cons.mp hb).resolve_left fun e => hn e.symm
      exact .inl (List.Sublist.cons_cons _ (List.singleton_sublist.mpr hb'))
    · have ha' : a ∈ l := (List.mem_cons.mp ha).resolve_left ea
      by_cases eb : b = x
      · subst eb
        exact .inr (List.Sublist.cons_cons _ (List.singleton_sublist.mpr ha'))
      · have hb' : b ∈ l := (List.mem_cons.mp hb).resolve_left eb
        rcases pair_or ha' hb' hn with h | h
        · exact .inl (h.cons _)
        · exact .inr (h.cons _)
theorem pair_no {α : Type} {a b : α} : ∀ {l : List α}, l.Nodup → List.Sublist [a, b] l → List.Sublist [b, a] l → False
  | [], _, h, _ => by cases h
  | x :: l, hn, h1, h2 => by
    obtain ⟨nx, nl⟩ := List.nodup_cons.mp hn
    cases h1 with
    | cons _ h1 =>
      cases h2 with
      | cons _ h2 => exact pair_no nl h1 h2
      | cons_cons _ h2 => exact nx (h1.subset (by simp))
    | cons_cons _ h1 =>
      cases h2 with
      | cons _ h2 => exact nx (h2.subset (by simp))
      | cons_cons _ h2 => exact nx (List.singleton_sublist.mp h1)
theorem stable {α : Type} {le : α → α → Bool} (tr : ∀ a b c : α, le a b = true → le b c = true → le a c = true) (tot : ∀ a b : α, (le a b || le b a) = true) {P : α → α → Prop} {l : List α} (hn : l.Nodup) (hp : l.Pairwise P) :
    (l.mergeSort le).Pairwise fun a b => le a b = true ∧ (le b a = true → P a b) := by
  rw [List.pairwise_iff_forall_sublist]
  intro a b hs
  have nd : (l.mergeSort le).Nodup := (List.mergeSort_perm l le).nodup_iff.mpr hn
  have h1 := List.pairwise_iff_forall_sublist.mp (List.pairwise_mergeSort tr tot l) hs
  refine ⟨h1, fun h2 => ?_⟩
  have ne : a ≠ b := List.pairwise_iff_forall_sublist.mp nd hs
  have ma : a ∈ l := (List.mergeSort_perm l le).mem_iff.mp (hs.subset (by simp))
  have mb : b ∈ l := (List.mergeSort_perm l le).mem_iff.mp (hs.subset (by simp))
  rcases pair_or ma mb ne with h | h
  · exact List.pairwise_iff_forall_sublist.mp hp h
  · exact (pair_no nd hs (List.pair_sublist_mergeSort tr tot h2 h)).elim
def ordM (n p q : Nat) : Prop := (memL n p).length ≤ (memL n q).length ∧ ((memL n q).length ≤ (memL n p).length → q < p)
theorem leLen_mem {n p q : Nat} : leLen (nsD (memL n p)) (nsD (memL n q)) = decide ((memL n p).length ≤ (memL n q).length) := by
  have la : ∀ l : List Nat, lenOf (nsD l) = l.length := fun l => by
    show (l.map nD).length = _
    rw [List.length_map]
  unfold leLen
  rw [la, la]
  congr 1
  exact propext Int.ofNat_le
theorem famO {n : Nat} {X : List Nat} (sd : X.Nodup) (sg : X.Pairwise fun p q => q < p) : (X.mergeSort fun p q => leLen (nsD (memL n p)) (nsD (memL n q))).Pairwise (ordM n) := by
  have := stable (le := fun p q => leLen (nsD (memL n p)) (nsD (memL n q))) (fun a b c => by
    simp only [leLen_mem, decide_eq_true_eq]
    exact Nat.le_trans) (fun a b => by
    simp only [leLen_mem, Bool.or_eq_true, decide_eq_true_eq]
    exact Nat.le_total _ _) sd sg
  refine this.imp fun {p q} h => ?_
  simp only [leLen_mem, decide_eq_true_eq] at h
  exact h
theorem g_least_masksN_ok {M : List Nat} (hl : M.length ≤ 2000) : ∃ L : List Nat, g_least_masks [nsD M] = some (nsD L) ∧ Least M L ∧ L.length ≤ M.length ∧ L.Nodup := by
  rw [r_least_masks]
  have sp := srt_perm M
  have ss := srt_sorted M
  have ls := sp.length_eq
  obtain ⟨r2, e, P, L, c2, rfl, _, hP, hLl, hN, hL⟩ := for_i (g := gN 2) (b := sIf (mPeek (mNotT (mTru (mCall anyM (mCons (mNew (mLc [3] (mSeq (mV 1)) (gN 3) mYes (mOp2 eqM (mOp2 andM (mV 3) (mV 2)) (mV 3)))) mNil)))))
    (sApp 1 (mV 2))
    sNil) nD
    (fun xs r => ∃ (P L : List Nat) (c2 : Cel), r = [.pl (nsD M), .ow (L.map nD), c2, .un] ∧ c2.own = false ∧ srt M = P ++ xs ∧ L.length ≤ P.length ∧ L.Nodup ∧ Least P L)
    (xs := srt M) (r := [.pl (nsD M), .ow [], .un, .un]) ⟨[], [], .un, rfl, rfl, rfl, Nat.le_refl _, List.nodup_nil, by simp, by simp, by simp⟩ (by
      rintro m xs r ⟨P, L, c2, rfl, h2, hP, hLl, hN, hL⟩
      have hPl : P.length ≤ 2000 := by
        have := congrArg List.length hP
        rw [List.length_append] at this
        omega
      have lc := lcy (vs := [3]) (mi := mSeq (mV 1)) (g := gN 3) (me := mOp2 eqM (mOp2 andM (mV 3) (mV 2)) (mV 3)) (r := [.pl (nsD M), .pl (nsD L), .pl (nD m), .un]) nD (fun p => .bool (p &&& m == p)) (fun p => [.pl (nsD M), .pl (nsD L), .pl (nD m), .pl (nD p)]) (xs := L) (by simp) (by simp [freeAt]) (by omega) (by simp) (by simp) (by
        intro p _
        simp only [e_op2, e_bind, e_V, List.getElem?_cons_zero, List.getElem?_cons_succ, band_n, e_lift_some, eq_nQ])
      have an : anyM [.list (L.map fun p => .bool (p &&& m == p))] = some (.bool (L.any fun p => p &&& m == p)) := by
        have := e_any (bs := L.map fun p => p &&& m == p)
        rw [List.map_map, List.any_map] at this
        exact this
      have le : ∀ y ∈ P, y ≤ m := fun y hy => by
        rw [hP, List.pairwise_append] at ss
        exact ss.2.2 y hy m (List.mem_cons_self ..)
      have lL : L.length ≤ 1000000 := by omega
      cases q : L.any fun p => p &&& m == p with
      | true =>
        rw [q] at an
        refine ⟨[.pl (nsD M), .ow (L.map nD), .pl (nD m), .un], [.pl (nsD M), .ow (L.map nD), .pl (nD m), .un], by simp [h2], by simp [-List.map_map, lc, an], P ++ [m], L, .pl (nD m), rfl, rfl, by rw [List.append_assoc]; exact hP, by simp; omega, hN, ?_⟩
        obtain ⟨z, hz, hzm⟩ := List.any_eq_true.mp q
        have hzm := beq_iff_eq.mp hzm
        refine ⟨fun x hx => List.mem_append_left _ (hL.sub x hx), fun y hy => ?_, fun x hx y hy hyx => ?_⟩
        · rcases List.mem_append.mp hy with hy | hy
          · exact hL.cov y hy
          · rw [List.mem_singleton.mp hy]; exact ⟨z, hz, hzm⟩
        · rcases List.mem_append.mp hy with hy | hy
          · exact hL.min x hx y hy hyx
          · rw [List.mem_singleton.mp hy] at hyx ⊢
            have := mpart_le hyx
            have := le x (hL.sub x hx)
            omega
      | false =>
        rw [q] at an
        have nd : (L ++ [m]).Nodup := by
          rw [List.nodup_append]
          refine ⟨hN, by simp, fun a ha b hb e => ?_⟩
          rw [List.mem_singleton.mp hb] at e
          subst e
          have := List.any_eq_false.mp q a ha
          simp at this
        refine ⟨[.pl (nsD M), .ow (L.map nD), .pl (nD m), .un], [.pl (nsD M), .ow ((L ++ [m]).map nD), .pl (nD m), .un], by simp [h2], by simp [-List.map_map, lc, an, lL], P ++ [m], L ++ [m], .pl (nD m), rfl, rfl, by rw [List.append_assoc]; exact hP, by simp; omega, nd, ?_⟩
        have no : ∀ z ∈ L, ¬ z &&& m = z := fun z hz h => by
          have := List.any_eq_false.mp q z hz
          rw [h] at this
          simp at this
        refine ⟨fun x hx => ?_, fun y hy => ?_, fun x hx y hy hyx => ?_⟩
        · rcases List.mem_append.mp hx with hx | hx
          · exact List.mem_append_left _ (hL.sub x hx)
          · exact List.mem_append_right _ hx
        · rcases List.mem_append.mp hy with hy | hy
          · obtain ⟨x, hx, h⟩ := hL.cov y hy
            exact ⟨x, List.mem_append_left _ hx, h⟩
          · rw [List.mem_singleton.mp hy]
            exact ⟨m, List.mem_append_right _ (List.mem_singleton.mpr rfl), Nat.and_self m⟩
        · rcases List.mem_append.mp hx with hx | hx <;> rcases List.mem_append.mp hy with hy | hy
          · exact hL.min x hx y hy hyx
          · rw [List.mem_singleton.mp hy] at hyx ⊢
            have := mpart_le hyx
            have := le x (hL.sub x hx)
            omega
          · rw [List.mem_singleton.mp hx] at hyx ⊢
            obtain ⟨z, hz, h⟩ := hL.cov y hy
            exact absurd (part_trans h hyx) (no z hz)
          · rw [List.mem_singleton.mp hx, List.mem_singleton.mp hy])
  rw [List.append_nil] at hP
  subst hP
  refine ⟨L, ?_, ⟨fun x hx => sp.mem_iff.mp (hL.sub x hx), fun y hy => hL.cov y (sp.mem_iff.mpr hy), fun x hx y hy => hL.min x hx y (sp.mem_iff.mpr hy)⟩, by omega, hN⟩
  simp [v_least_masks, g_ascending_ok (M := M) (by omega)]
  rw [e]
  simp
theorem g_family_ofO_ok {L : List Nat} (hn : n ≤ 100) (hl : L.length ≤ 1000000) (hd : L.Nodup) : ∃ R : List Nat, R.Perm L ∧ R.Pairwise (ordM n) ∧ g_family_of [nD n, nsD L] = some (.list (R.map fun m => nsD (memL n m))) := by
  rw [r_family_of]
  have ga := g_ascending_ok (M := L) hl
  have sd : ((srt L).reverse).Nodup := ((List.reverse_perm _).trans (srt_perm L)).nodup_iff.mpr hd
  have sg : ((srt L).reverse).Pairwise fun p q => q < p := by
    have h1 : ((srt L).reverse).Pairwise fun p q => q ≤ p := List.pairwise_reverse.mpr (srt_sorted L)
    exact (List.Pairwise.and h1 sd).imp fun ⟨h, h2⟩ => by omega
  have pm : ((srt L).reverse).Perm L := (List.reverse_perm _).trans (srt_perm L)
  have lr : (srt L).reverse.length ≤ 1000000 := by rw [pm.length_eq]; exact hl
  have rv : ((srt L).map nD).reverse = (srt L).reverse.map nD := by rw [List.map_reverse]
  generalize hX : (srt L).reverse = X at pm lr rv sd sg
  have lc := lcy (vs := [2]) (mi := (mSeq (mNew (mRevL (mCall g_ascending_numbers (mCons (mV 1) mNil)))))) (g := gN 2) (me := (mCall g_members_of (mCons (mV 0) (mCons (mV 2) mNil)))) (r := [.pl (nD n), .pl (nsD L), .un]) nD (fun m => nsD (memL n m)) (fun m => [.pl (nD n), .pl (nsD L), .pl (nD m)]) (xs := X) (by
    have as : asList (nsD (srt L)) = some ((srt L).map nD) := rfl
    simp [-List.map_reverse, mRevL, ga, as, rv]) (by simp [freeAt]) lr (by simp) (by simp) (by
    intro m _
    simp [g_members_of_ok hn])
  have al : (X.map fun m => nsD (memL n m)).all isLst = true := by
    rw [List.all_map, List.all_eq_true]
    intro m _
    rfl
  have sl : sortLenM (.list (X.map fun m => nsD (memL n m))) = some ((X.mergeSort fun p q => leLen (nsD (memL n p)) (nsD (memL n q))).map fun m => nsD (memL n m)) := by
    show (if _ then _ else _) = _
    rw [if_pos al, mergeSort_fam]
  refine ⟨X.mergeSort fun p q => leLen (nsD (memL n p)) (nsD (memL n q)), (List.mergeSort_perm _ _).trans pm, famO sd sg, ?_⟩
  generalize ((X.mergeSort fun p q => leLen (nsD (memL n p)) (nsD (memL n q))).map fun m => nsD (memL n m)) = Z at sl
  generalize (X.map fun m => nsD (memL n m)) = Y at lc sl
  simp [v_family_of, lc, sl]
end DL
namespace DL
open PySem PySem.Spec PyProof.Rows L2 Lk
variable {n : Nat} {a b : List Nat}
abbrev lpD (a : List Nat) : PyData := .tuple [.int a.length, .tuple (a.map nD)]
abbrev numK (m : Nat) : NestedKey := .num (m : Int)
theorem keyNs_ns : ∀ (a : List Nat), keyNs (a.map nD) = some (a.map numK)
  | [] => by rw [List.map_nil, keyNs]; rfl
  | m :: a => by
    rw [List.map_cons, keyNs, keyNs_ns a, List.map_cons]
    show (keyN (.int m)).bind _ = _
    rw [keyN]
    rfl
theorem keyN_pr (a : List Nat) : keyN (lpD a) = some (.tup [.num (a.length : Int), .tup (a.map numK)]) := by
  rw [keyN, keyNs, keyN, keyNs, keyN, keyNs_ns, keyNs]
  rfl
theorem nums_depth : ∀ (a : List Nat), NestedKey.depthAll (a.map numK) = 0
  | [] => by rw [List.map_nil, NestedKey.depthAll]
  | m :: a => by
    rw [List.map_cons, NestedKey.depthAll, nums_depth a, NestedKey.depth]
    rfl
theorem ints_depth (a : List Nat) : PyData.depthAll (a.map nD) = 0 := by
  have := PySem.W.depth_ints (a.map Int.ofNat)
  rw [List.map_map] at this
  exact this
theorem okN1_pr (a : List Nat) : okN1 (lpD a) = true := by
  show (match keyN (lpD a) with
    | some k => decide (k.depth ≤ 8) && decide (PyData.depth (lpD a) ≤ 8)
    | none => false) = true
  rw [keyN_pr]
  simp [NestedKey.depth, NestedKey.depthAll, nums_depth, PyData.depth, PyData.depthAll, ints_depth]
theorem alike_ns (a b : List Nat) : PySem.W.alikeAll (a.map nD) (b.map nD) = true := by
  have := PySem.W.alike_ints (a.map Int.ofNat) (b.map Int.ofNat)
  rw [List.map_map, List.map_map] at this
  exact this
theorem alike_pr (a b : List Nat) : PySem.W.alike (lpD a) (lpD b) = true := by
  simp [PySem.W.alike, PySem.W.alikeAll, alike_ns]
theorem okN_pr (X : List (List Nat)) : okN (X.map lpD) = true := by
  unfold okN
  rw [Bool.and_eq_true]
  constructor
  · rw [List.all_map, List.all_eq_true]
    intro a _
    exact okN1_pr a
  · rw [List.all_map, List.all_eq_true]
    intro a _
    show (List.map lpD X).all _ = true
    rw [List.all_map, List.all_eq_true]
    intro b _
    exact alike_pr a b
theorem dlt_pr (h : a.length < b.length ∨ (a.length = b.length ∧ a.map Int.ofNat < b.map Int.ofNat)) : dlt (lpD a) (lpD b) = true := by
  show PySem.W.dataLt _ _ = true
  rw [PySem.W.dataLt_pair (by simp [PySem.W.alike]) (by simp [PySem.W.alike, alike_ns])]
  rcases h with h | ⟨h, h2⟩
  · have : PyData.eqv (.int (a.length : Int)) (.int (b.length : Int)) = false := by
      simp [PyData.eqv]
      omega
    rw [this]
    simp only [Bool.false_eq_true, if_false]
    rw [PySem.W.dataLt_int]
    simp
    omega
  · have e1 : PyData.eqv (.int (a.length : Int)) (.int (b.length : Int)) = true := by
      simp [PyData.eqv]
      omega
    have lt : PySem.W.dataLt (.tuple (a.map nD)) (.tuple (b.map nD)) = true := by
      rw [PySem.W.dataLt_tuple]
      have := PySem.W.dataLt_ints (a.map Int.ofNat) (b.map Int.ofNat)
      rw [List.map_map, List.map_map, decide_eq_true h2] at this
      exact this
    rw [e1]
    simp only [if_true]
    cases q : PyData.eqv (.tuple (a.map nD)) (.tuple (b.map nD)) with
    | false => simp only [Bool.false_eq_true, if_false]; exact lt
    | true =>
      have ka : keyN (.tuple (a.map nD)) = some (.tup (a.map numK)) := by rw [keyN, keyNs_ns]; rfl
      have kb : keyN (.tuple (b.map nD)) = some (.tup (b.map numK)) := by rw [keyN, keyNs_ns]; rfl
      have e := keyN_eqv ka kb q
      rw [e] at lt
      have : PySem.W.dataLt (.tuple (b.map nD)) (.tuple (b.map nD)) = false := dlt_irr _
      rw [this] at lt
      cases lt
theorem hi_bit : ∀ (p q : Nat), q < p → ∃ i, p.testBit i = true ∧ q.testBit i = false ∧ ∀ j, i < j → p.testBit j = q.testBit j := by
  intro p
  induction p using Nat.strongRecOn with
  | ind p ih =>
    intro q h
    by_cases hd : q / 2 < p / 2
    · obtain ⟨i, h1, h2, h3⟩ := ih (p / 2) (by omega) (q / 2) hd
      refine ⟨i + 1, by rw [Nat.testBit_succ]; exact h1, by rw [Nat.testBit_succ]; exact h2, fun j hj => ?_⟩
      cases j with
      | zero => omega
      | succ j =>
        rw [Nat.testBit_succ, Nat.testBit_succ]
        exact h3 j (by omega)
    · refine ⟨0, ?_, ?_, fun j hj => ?_⟩
      · rw [Nat.testBit_zero]
        simp
        omega
      · rw [Nat.testBit_zero]
        simp
        omega
      · cases j with
        | zero => omega
        | succ j =>
          rw [Nat.testBit_succ, Nat.testBit_succ]
          have : p / 2 = q / 2 := by omega
          rw [this]
theorem filter_lt {P Q : Nat → Bool} {m : Nat} (p : P m = true) (q : Q m = false) : ∀ {U : List Nat}, U.Pairwise (· < ·) → m ∈ U → (∀ j ∈ U, j < m → P j = Q j) → (U.filter P).length = (U.filter Q).length → (U.filter P).map Int.ofNat < (U.filter Q).map Int.ofNat
  | [], _, hm, _, _ => by cases hm
  | u :: U, h, hm, e, l => by
    have h' := List.pairwise_cons.mp h
    by_cases c : u = m
    · subst c
      rw [List.filter_cons_of_pos p, List.filter_cons_of_neg (by simp [q])] at l ⊢
      cases r : U.filter Q with
      | nil => rw [r] at l; simp at l
      | cons x xs =>
        have hx : x ∈ U := (List.mem_filter.mp (by rw [r]; exact List.mem_cons_self)).1
        rw [List.map_cons, List.map_cons, List.cons_lt_cons_iff]
        have := h'.1 x hx
        exact .inl (by show (u : Int) < x; omega)
    · have hm' : m ∈ U := (List.mem_cons.mp hm).resolve_left fun z => c z.symm
      have eu := e u List.mem_cons_self (h'.1 m hm')
      have ih := filter_lt (U := U) p q h'.2 hm' fun j hj => e j (List.mem_cons_of_mem _ hj)
      cases r : P u with
      | true =>
        rw [List.filter_cons_of_pos r, List.filter_cons_of_pos (by rw [← eu]; exact r)] at l ⊢
        rw [List.map_cons, List.map_cons, List.cons_lt_cons_iff]
        exact .inr ⟨rfl, ih (by simpa using l)⟩
      | false =>
        rw [List.filter_cons_of_neg (by simp [r]), List.filter_cons_of_neg (by rw [← eu]; simp [r])] at l ⊢
        exact ih l
theorem ordM_dlt {p q : Nat} (hp : p < 2 ^ n) (h : ordM n p q) : dlt (lpD (memL n p)) (lpD (memL n q)) = true := by
  obtain ⟨h1, h2⟩ := h
  refine dlt_pr ?_
  rcases Nat.lt_or_ge (memL n p).length (memL n q).length with c | c
  · exact .inl c
  · refine .inr ⟨by omega, ?_⟩
    obtain ⟨i, b1, b2, b3⟩ := hi_bit p q (h2 c)
    have hi : i < n := by
      refine Decidable.byContradiction fun z => ?_
      have := Nat.testBit_lt_two_pow (x := p) (i := i) (Nat.lt_of_lt_of_le hp (Nat.pow_le_pow_right (by decide) (by omega)))
      rw [b1] at this
      cases this
    refine filter_lt (m := n - 1 - i) ?_ ?_ (U := List.range n) List.pairwise_lt_range (List.mem_range.mpr (by omega)) (fun j hj hjm => ?_) (by have : (memL n p).length = (memL n q).length := by omega
                                                                                                                                                exact this)
    · rw [show n - 1 - (n - 1 - i) = i by omega]; exact b1
    · rw [show n - 1 - (n - 1 - i) = i by omega]; exact b2
    · exact b3 _ (by omega)
theorem sortN_pr {X R : List (List Nat)} (up : R.Pairwise fun a b => dlt (lpD a) (lpD b) = true) (m : ∀ a, a ∈ R ↔ a ∈ X) (few : R.length < 77) : sortNM (.list (X.map lpD)) = some (R.map lpD) :=
  sortNM_is (okN_pr X) (List.pairwise_map.mpr up) (fun d => by
    rw [List.mem_map, List.mem_map]
    constructor
    · rintro ⟨x, hx, e⟩; exact ⟨x, (m x).mp hx, e⟩
    · rintro ⟨x, hx, e⟩; exact ⟨x, (m x).mpr hx, e⟩) (by rw [List.length_map]; exact few)
/-- sets as a family is listed, each once -/
theorem g_law_listed_ok {X R : List (List Nat)} (hl : X.length ≤ 1000000) (hx : ∀ a ∈ X, a.length ≤ 1000000) (up : R.Pairwise fun a b => dlt (lpD a) (lpD b) = true) (m : ∀ a, a ∈ R ↔ a ∈ X) (few : R.length < 77) : g_law_listed_a3095 [.list (X.map nsD)] = some (.list (R.map nsD)) := by
  rw [r_law_listed_a3095]
  have li := lcy (vs := [2]) (mi := mSeq (mV 0)) (g := gN 2) (me := mTup (mCons (mCall lenM (mCons (mV 2) mNil)) (mCons (mCall tupleM (mCons (mV 2) mNil)) mNil))) (r := [.pl (.list (X.map nsD)), .un, .un]) nsD lpD (fun a => [.pl (.list (X.map nsD)), .un, .pl (nsD a)]) (xs := X) (by simp) (by simp [freeAt]) hl (by simp) (by simp) (by
    intro a ha
    have la := hx a ha
    simp)
  have sn := sortN_pr up m few
  have lo := lcy (vs := [1]) (mi := mSeq (mNew (mSortN (mNew (mLc [2] (mSeq (mV 0)) (gN 2) mYes (mTup (mCons (mCall lenM (mCons (mV 2) mNil)) (mCons (mCall tupleM (mCons (mV 2) mNil)) mNil)))))))) (g := gN 1) (me := mNew (mCallF listM (mCons (mOp2 ixM (mV 1) (M.ret (.int 1))) mNil))) (r := [.pl (.list (X.map nsD)), .un, .un]) lpD nsD (fun a => [.pl (.list (X.map nsD)), .pl (lpD a), .un]) (xs := R) (by
      simp [-List.map_map, li, sn]) (by simp [freeAt]) (by omega) (by simp) (by simp) (by
    intro a ha
    simp [ixM]
    )
  simp [v_law_listed_a3095, lo]
end DL
namespace DL
open PySem PySem.Spec PyProof.Rows L2 Lk
end DL
namespace DL
open PySem PySem.Spec PyProof.Rows L2 Lk
variable {n : Nat} {S rows : List Nat}
theorem sh_nil : SeqAt.shaped (.list []) = true := shaped_of (by rw [PyData.canLay0, PyData.canLayAll0]) (by rw [PyData.depth, PyData.depthAll]; omega)
theorem sh_nsQ {as : List Nat} : SeqAt.shaped (nsD as) = true := (Sh.list fun _ _ => Sh.n).sh
theorem eq_nilQ {P : List Nat} : eqM (nsD P) (.list []) = some (.bool P.isEmpty) := by
  rw [e_eqD sh_nsQ sh_nil, PyData.eqv]
  cases P <;> simp [PyData.eqvAll]
theorem eqv_nsQ : ∀ {as bs : List Nat}, PyData.eqvAll (as.map nD) (bs.map nD) = (as == bs)
  | [], [] => by simp [PyData.eqvAll]
  | [], _ :: _ => by simp [PyData.eqvAll]
  | _ :: _, [] => by simp [PyData.eqvAll]
  | a :: as, b :: bs => by
    rw [List.map_cons, List.map_cons, PyData.eqvAll, eqv_nsQ, eqv_n]
    rfl
theorem ne_nsQ {as bs : List Nat} : neM (nsD as) (nsD bs) = some (.bool (!(as == bs))) := by
  rw [e_neD sh_nsQ sh_nsQ, PyData.eqv, eqv_nsQ]
theorem g_law_setQ {b : Nat} (hn : n ≤ 1000) : g_law_set_3b7aa [nD b, nD n] = some (nsD (Fa.lset n b)) := by
  rw [r_law_set_3b7aa]
  have e1 : ∀ k : Nat, eqM (nD (b / 2 ^ k % 2)) (.int 1) = some (.bool (b.testBit k)) := fun k => by
    have := eq_nQ (a := b / 2 ^ k % 2) (b := 1)
    rw [bit_eq] at this
    exact this
  have lc := lcm (vs := [2]) (mi := mRng1 (mCons (mV 1) mNil)) (g := gN 2) (mt := mOpT eqM (mOp2 andM (mOp2 shrM (mV 0) (mV 2)) (M.ret (.int 1))) (M.ret (.int 1))) (me := mV 2) (r := [.pl (nD b), .pl (nD n), .un]) nD b.testBit nD (fun k => [.pl (nD b), .pl (nD n), .pl (nD k)]) (xs := List.range n) (by simp [e_rng_n n (by omega)]) (by simp [freeAt]) (by simp; omega) (by simp) (by simp) (by
    intro k _
    simp only [e_opT, e_op2, e_bind, e_V, List.getElem?_cons_zero, List.getElem?_cons_succ, shr_n, e_lift_some, e_ret, bit1_n, e1, Option.bind_some, e_asBool]) (by simp)
  simp [v_law_set_3b7aa, lc]
  rfl
def lawL (rows : List Nat) : List Nat := rows.filter fun b => !rows.any fun o => !(o == b) && (o &&& b == o)
theorem filter_empty {α : Type} {p : α → Bool} : ∀ {l : List α}, (l.filter p).isEmpty = !l.any p
  | [] => rfl
  | a :: l => by
    rw [List.filter_cons, List.any_cons]
    cases h : p a with
    | true => rfl
    | false =>
      rw [if_neg (by simp), Bool.false_or]
      exact filter_empty
theorem g_law_leastQ (hl : rows.length ≤ 1000) : g_law_least_0e04d [nsD rows] = some (nsD (lawL rows)) := by
  rw [r_law_least_0e04d]
  have lc := lcm (vs := [1]) (mi := mSeq (mV 0)) (g := gN 1) (mt := mOpT eqM (mNew (mLc [2] (mSeq (mV 0)) (gN 2) (mAnd (mOpT neM (mV 2) (mV 1)) (mOpT eqM (mOp2 andM (mV 2) (mV 1)) (mV 2))) (mV 2))) (mNew (mLst mNil))) (me := mV 1) (r := [.pl (nsD rows), .un, .un]) nD
    (fun b => !rows.any fun o => !(o == b) && (o &&& b == o)) nD (fun b => [.pl (nsD rows), .pl (nD b), .un]) (xs := rows) (by simp) (by simp [freeAt]) (by omega) (by simp) (by simp) (by
      intro b _
      have l2 := lcm (vs := [2]) (mi := mSeq (mV 0)) (g := gN 2) (mt := mAnd (mOpT neM (mV 2) (mV 1)) (mOpT eqM (mOp2 andM (mV 2) (mV 1)) (mV 2))) (me := mV 2) (r := [.pl (nsD rows), .pl (nD b), .un]) nD (fun o => !(o == b) && (o &&& b == o)) nD (fun o => [.pl (nsD rows), .pl (nD b), .pl (nD o)]) (xs := rows) (by simp) (by simp [freeAt]) (by omega) (by simp) (by simp) (by
        intro o _
        cases h : o == b <;> simp [-beq_iff_eq, -beq_eq_false_iff_ne, ne_nQ, eq_nQ, band_n, h]) (by simp)
      have en := eq_nilQ (P := rows.filter fun o => !(o == b) && (o &&& b == o))
      have ee : (rows.filter fun o => !(o == b) && (o &&& b == o)).isEmpty = !rows.any fun o => !(o == b) && (o &&& b == o) := filter_empty
      rw [ee] at en
      simp only [e_opT, e_new, e_bind, l2, e_ret, e_lst, e_nil, e_lst0, e_lift_some, en, Option.bind_some, e_asBool]) (by simp)
  unfold lawL
  simp [v_law_least_0e04d, lc]
theorem lawL_iff {x : Nat} : x ∈ lawL rows ↔ x ∈ rows ∧ ∀ y ∈ rows, y &&& x = y → y = x := by
  unfold lawL
  rw [List.mem_filter, Bool.not_eq_true', List.any_eq_false]
  constructor
  · rintro ⟨h1, h2⟩
    refine ⟨h1, fun y hy e => Decidable.byContradiction fun z => h2 y hy ?_⟩
    rw [Bool.and_eq_true, Bool.not_eq_true', beq_eq_false_iff_ne, beq_iff_eq]
    exact ⟨z, e⟩
  · rintro ⟨h1, h2⟩
    refine ⟨h1, fun y hy e => ?_⟩
    rw [Bool.and_eq_true, Bool.not_eq_true', beq_eq_false_iff_ne, beq_iff_eq] at e
    exact e.1 (h2 y hy e.2)
/-- the least masks are the law's least sets, turned about -/
theorem least_rev {L : List Nat} (hr : ∀ b ∈ rows, b < 2 ^ n) (h : Least (rows.map (Fa.rev n)) L) {x : Nat} : x ∈ L ↔ ∃ b ∈ lawL rows, Fa.rev n b = x := by
  rw [h.iff]
  constructor
  · rintro ⟨hx, hm⟩
    obtain ⟨b, hb, rfl⟩ := List.mem_map.mp hx
    refine ⟨b, lawL_iff.mpr ⟨hb, fun y hy e => ?_⟩, rfl⟩
    have := hm (Fa.rev n y) (List.mem_map.mpr ⟨y, hy, rfl⟩) (by rw [Fa.rev_and, e])
    exact Fa.rev_inj (hr y hy) (hr b hb) this
  · rintro ⟨b, hb, rfl⟩
    obtain ⟨h1, h2⟩ := lawL_iff.mp hb
    refine ⟨List.mem_map.mpr ⟨b, h1, rfl⟩, fun y hy e => ?_⟩
    obtain ⟨o, ho, rfl⟩ := List.mem_map.mp hy
    rw [Fa.rev_and] at e
    have hlt : o &&& b < 2 ^ n := Fa.and_lt (hr o ho)
    have := Fa.rev_inj hlt (hr o ho) e
    rw [h2 o ho this]
theorem memL_rev {m : Nat} : memL n m = Fa.lset n (Fa.rev n m) := by
  unfold memL Fa.lset
  refine List.filter_congr fun k hk => ?_
  have lk := List.mem_range.mp hk
  rw [Fa.rev_bit, decide_eq_true lk, Bool.true_and]
end DL
namespace DL
variable {S P l : List Nat} {room k v u m a b : Nat}
theorem and_bits : a &&& b = a ↔ ∀ i, a.testBit i = true → b.testBit i = true := by
  constructor
  · intro h i hi
    rw [← h, Nat.testBit_and] at hi
    exact (Bool.and_eq_true_iff.mp hi).2
  · intro h
    apply Nat.eq_of_testBit_eq
    intro i
    rw [Nat.testBit_and]
    cases hi : a.testBit i with
    | false => rfl
    | true => rw [h i hi]; rfl
theorem sub_bits (h : m &&& room = m) (i : Nat) : (room - m).testBit i = (room.testBit i && !m.testBit i) := by
  have x := Fa.xor_add room m
  rw [Nat.and_comm, h] at x
  have e : room - m = room ^^^ m := by omega
  rw [e, Nat.testBit_xor]
  have := and_bits.mp h i
  cases hm : m.testBit i with
  | false => cases room.testBit i <;> rfl
  | true => rw [this hm]; rfl
end DL
namespace DL
open PySem PySem.Spec PyProof.Rows L2 Lk
variable {n : Nat} {rows : List Nat}
/-- the least sets, told as a family, are listed as the law lists them -/
theorem fam_least (hn : n ≤ 10) (hl : rows.length ≤ 300) (hr : ∀ b ∈ rows, b < 2 ^ n) : ∃ L R : List Nat, g_least_masks [nsD (rows.map (Fa.rev n))] = some (nsD L) ∧ g_family_of [nD n, nsD L] = some (.list (R.map fun m => nsD (memL n m))) ∧
    (R.map (memL n)).Pairwise (fun a b => dlt (lpD a) (lpD b) = true) ∧ (∀ a, a ∈ R.map (memL n) ↔ a ∈ (lawL rows).map (Fa.lset n)) ∧ R.length ≤ rows.length := by
  obtain ⟨L, e1, hL, ll, nd⟩ := g_least_masksN_ok (M := rows.map (Fa.rev n)) (by rw [List.length_map]; omega)
  rw [List.length_map] at ll
  obtain ⟨R, pm, od, e2⟩ := g_family_ofO_ok (n := n) (L := L) (by omega) (by omega) nd
  refine ⟨L, R, e1, e2, List.pairwise_map.mpr (od.imp_of_mem fun {p q} hp hq h => ordM_dlt ?_ h), fun a => ?_, by rw [pm.length_eq]; exact ll⟩
  · obtain ⟨b, _, rfl⟩ := (least_rev hr hL).mp (pm.mem_iff.mp hp)
    exact Fa.rev_lt _ _
  · rw [List.mem_map, List.mem_map]
    constructor
    · rintro ⟨m, hm, rfl⟩
      obtain ⟨b, hb, rfl⟩ := (least_rev hr hL).mp (pm.mem_iff.mp hm)
      exact ⟨b, hb, by rw [memL_rev, Fa.rev_rev (hr b (lawL_iff.mp hb).1)]⟩
    · rintro ⟨b, hb, rfl⟩
      exact ⟨Fa.rev n b, pm.mem_iff.mpr ((least_rev hr hL).mpr ⟨b, hb, rfl⟩), by rw [memL_rev, Fa.rev_rev (hr b (lawL_iff.mp hb).1)]⟩
theorem listed_least {R : List Nat} (hn : n ≤ 10) (hl : rows.length ≤ 76) (up : (R.map (memL n)).Pairwise (fun a b => dlt (lpD a) (lpD b) = true)) (m : ∀ a, a ∈ R.map (memL n) ↔ a ∈ (lawL rows).map (Fa.lset n)) (lR : R.length ≤ rows.length) :
    g_law_listed_a3095 [.list ((lawL rows).map fun b => nsD (Fa.lset n b))] = some (.list (R.map fun m => nsD (memL n m))) := by
  have ll : (lawL rows).length ≤ rows.length := List.length_filter_le ..
  have := g_law_listed_ok (X := (lawL rows).map (Fa.lset n)) (R := R.map (memL n)) (by rw [List.length_map]; omega) (fun a ha => by
    obtain ⟨b, _, rfl⟩ := List.mem_map.mp ha
    have := lset_len n b
    omega) up m (by rw [List.length_map]; omega)
  rw [List.map_map, List.map_map] at this
  exact this
theorem g_read_members_ok {b : Nat} (hn : n ≤ 10) : g_p_read_members [nD n, nsD (Fa.lset n b)] = some (nD (Fa.rev n b)) := by
  rw [r_p_read_members]
  have is : g_p_is_set [nD n, nsD (Fa.lset n b)] = some (.bool true) := by
    rw [r_p_is_set]
    have := g_asc (d := nsD (Fa.lset n b)) (lim := n) rfl (lset_asc n b)
    simp [v_p_is_set, this]
  have mk := g_mask_of_ok (n := n) (ms := Fa.lset n b) (by omega) fun m hm => (Fa.lset_mem.mp hm).1
  simp [v_p_read_members, is, mk]
  rfl
theorem g_dropped_ok {b : Nat} (hn : n ≤ 10) (hl : rows.length ≤ 76) (hr : ∀ x ∈ rows, x < 2 ^ n) (hb : b < 2 ^ n) : ∃ R : List Nat, g_dropped [nD n, setsD n rows, nsD (Fa.lset n b)] = some (.list (R.map fun m => nsD (memL n m))) ∧ R.length ≤ 76 ∧
    g_law_listed_a3095 [.list ((lawL (rows.filter fun x => x &&& b == 0)).map fun b => nsD (Fa.lset n b))] = some (.list (R.map fun m => nsD (memL n m))) := by
  have lf : (rows.filter fun x => x &&& b == 0).length ≤ rows.length := List.length_filter_le ..
  obtain ⟨L, R, e1, e2, up, m, lR⟩ := fam_least (n := n) (rows := rows.filter fun x => x &&& b == 0) hn (by omega) fun x hx => hr x (List.mem_filter.mp hx).1
  refine ⟨R, ?_, by omega, listed_least hn (by omega) up m lR⟩
  rw [r_dropped]
  have rf := g_read_family_ok (n := n) (rows := rows) hn (by omega)
  have rm := g_read_members_ok (n := n) (b := b) hn
  have eq0 : ∀ x : Nat, eqM (nD x) (.int 0) = some (.bool (x == 0)) := fun x => eq_nQ (a := x) (b := 0)
  have lc := lcm (vs := [5]) (mi := mSeq (mV 3)) (g := gN 5) (mt := mOpT eqM (mOp2 andM (mV 5) (mV 4)) (M.ret (.int 0))) (me := mV 5) (r := [.pl (nD n), .pl (setsD n rows), .pl (nsD (Fa.lset n b)), .pl (nsD (rows.map (Fa.rev n))), .pl (nD (Fa.rev n b)), .un]) nD (fun x => x &&& Fa.rev n b == 0) nD (fun x => [.pl (nD n), .pl (setsD n rows), .pl (nsD (Fa.lset n b)), .pl (nsD (rows.map (Fa.rev n))), .pl (nD (Fa.rev n b)), .pl (nD x)]) (xs := rows.map (Fa.rev n)) (by simp) (by simp [freeAt]) (by rw [List.length_map]; omega) (by simp) (by simp) (by
    intro x _
    simp [band_n, eq0]) (by simp)
  have ef : (rows.map (Fa.rev n)).filter (fun x => x &&& Fa.rev n b == 0) = (rows.filter fun x => x &&& b == 0).map (Fa.rev n) := by
    rw [List.filter_map]
    congr 1
    refine List.filter_congr fun x hx => ?_
    show (Fa.rev n x &&& Fa.rev n b == 0) = (x &&& b == 0)
    rw [Fa.rev_and, Bool.eq_iff_iff, beq_iff_eq, beq_iff_eq, Fa.rev_eq_zero (Fa.and_lt (hr x hx))]
  rw [ef] at lc
  simp [-List.map_map, v_dropped, rf, rm, lc, e1, e2]
theorem g_taken_ok {b : Nat} (hn : n ≤ 10) (hl : rows.length ≤ 76) (hr : ∀ x ∈ rows, x < 2 ^ n) (hb : b < 2 ^ n) : ∃ R : List Nat, g_taken [nD n, setsD n rows, nsD (Fa.lset n b)] = some (.list (R.map fun m => nsD (memL n m))) ∧ R.length ≤ 76 ∧
    g_law_listed_a3095 [.list ((lawL (rows.map fun x => x - (x &&& b))).map fun b => nsD (Fa.lset n b))] = some (.list (R.map fun m => nsD (memL n m))) := by
  obtain ⟨L, R, e1, e2, up, m, lR⟩ := fam_least (n := n) (rows := rows.map fun x => x - (x &&& b)) hn (by rw [List.length_map]; omega) fun x hx => by
    obtain ⟨y, hy, rfl⟩ := List.mem_map.mp hx
    have := hr y hy
    omega
  rw [List.length_map] at lR
  refine ⟨R, ?_, by omega, listed_least hn (by rw [List.length_map]; omega) up m (by rw [List.length_map]; exact lR)⟩
  rw [r_taken]
  have rf := g_read_family_ok (n := n) (rows := rows) hn (by omega)
  have rm := g_read_members_ok (n := n) (b := b) hn
  have sb : ∀ x y : Nat, subM (nD x) (nD (x &&& y)) = some (nD (x - (x &&& y))) := fun x y => by
    show some (PyData.int ((x : Int) - ((x &&& y : Nat) : Int))) = some (PyData.int ((x - (x &&& y) : Nat) : Int))
    have : x &&& y ≤ x := Nat.and_le_left
    congr 2
    omega
  have lc := lcy (vs := [5]) (mi := mSeq (mV 3)) (g := gN 5) (me := mOp2 subM (mV 5) (mOp2 andM (mV 5) (mV 4))) (r := [.pl (nD n), .pl (setsD n rows), .pl (nsD (Fa.lset n b)), .pl (nsD (rows.map (Fa.rev n))), .pl (nD (Fa.rev n b)), .un]) nD (fun x => nD (x - (x &&& Fa.rev n b))) (fun x => [.pl (nD n), .pl (setsD n rows), .pl (nsD (Fa.lset n b)), .pl (nsD (rows.map (Fa.rev n))), .pl (nD (Fa.rev n b)), .pl (nD x)]) (xs := rows.map (Fa.rev n)) (by simp) (by simp [freeAt]) (by rw [List.length_map]; omega) (by simp) (by simp) (by
    intro x _
    simp [band_n, sb])
  have ef : (rows.map (Fa.rev n)).map (fun x => nD (x - (x &&& Fa.rev n b))) = ((rows.map fun x => x - (x &&& b)).map (Fa.rev n)).map nD := by
    rw [List.map_map, List.map_map, List.map_map]
    refine List.map_congr_left fun x hx => ?_
    show nD (Fa.rev n x - (Fa.rev n x &&& Fa.rev n b)) = nD (Fa.rev n (x - (x &&& b)))
    congr 1
    refine Nat.eq_of_testBit_eq fun i => ?_
    rw [sub_bits (by rw [Nat.and_comm, ← Nat.and_assoc, Nat.and_self]), Nat.testBit_and, Fa.rev_bit, Fa.rev_bit, Fa.rev_bit, sub_bits (by rw [Nat.and_comm, ← Nat.and_assoc, Nat.and_self]), Nat.testBit_and]
    cases decide (i < n) <;> cases x.testBit (n - 1 - i) <;> cases b.testBit (n - 1 - i) <;> rfl
  rw [ef] at lc
  simp [-List.map_map, v_taken, rf, rm, lc, e1, e2]
end DL
namespace DL
open PySem PySem.Spec PyProof.Rows L2 Lk
variable {n : Nat} {rows : List Nat}
def ioZ : Cel → Bool
  | .io _ => true
  | _ => false
theorem s_putZ {i : Nat} {d : PyData} {r : En} : sPut i d r = (match r[i]? with
  | some c => if ioZ c then none else some (.nx (r.set i (.pl d)))
  | none => none) := by
  rw [s_put]
  cases r[i]? with
  | none => rfl
  | some c => cases c <;> rfl
theorem own_ioZ {c : Cel} (h : c.own = false) : ioZ c = false := by cases c <;> first | rfl | cases h
theorem io_plZ {d : PyData} : ioZ (Cel.pl d) = false := rfl
theorem mem_sets (R : List Nat) : PyData.list (R.map fun m => nsD (memL n m)) = setsD n (R.map (Fa.rev n)) := by
  unfold setsD
  rw [List.map_map]
  congr 1
  refine List.map_congr_left fun m _ => ?_
  rw [memL_rev]
  rfl
theorem ne_setsZ {rows : List Nat} : neM (setsD n rows) (setsD n rows) = some (.bool false) := by
  have sh : SeqAt.shaped (setsD n rows) = true := Sh.sh (n := 2) (Sh.list (f := fun b => nsD (Fa.lset n b)) (xs := rows) (n := 1) fun _ _ => Sh.list fun _ _ => Sh.n) (by decide)
  rw [e_neD sh sh, PyData.eqv]
  have : PyData.eqvAll (rows.map fun b => nsD (Fa.lset n b)) (rows.map fun b => nsD (Fa.lset n b)) = true := by
    clear sh
    induction rows with
    | nil => simp [PyData.eqvAll]
    | cons b rows ih => rw [List.map_cons, PyData.eqvAll, ih, PyData.eqv, eqv_nsQ]; simp
  rw [this]
  rfl
theorem g_fam {told : List Nat} (hl : told.length ≤ 100000) (hn : n ≤ 1000) : g_law_is_family_66f5c [setsD n told] = some (.bool true) := by
  rw [r_law_is_family_66f5c]
  have t1 : ∀ m : Nat, isTy "int" (nD m) = true := fun _ => rfl
  have t2 : ∀ m : Nat, isTy "bool" (nD m) = false := fun _ => rfl
  have ne : neM (.list []) (.list []) = some (.bool false) := ne_nsQ (as := []) (bs := [])
  obtain ⟨r2, e, c1, rfl, _⟩ := for_i (g := gN 1) (b := (sSeq (sIf (mNotT (mTru (mIsi "list" (mV 1))))
    (sRet (M.ret (.bool false)))
    sNil)
  (sIf (mOpT neM (mNew (mLc [2] (mSeq (mV 1)) (gN 2) (mOr (mNotT (mTru (mIsi "int" (mV 2)))) (mTru (mIsi "bool" (mV 2)))) (mV 2))) (mNew (mLst mNil)))
    (sRet (M.ret (.bool false)))
    sNil))) (fun w => nsD (Fa.lset n w))
    (fun xs r => ∃ c1 : Cel, r = [.pl (setsD n told), c1, .un] ∧ c1.own = false) (xs := told) (r := [.pl (setsD n told), .un, .un]) ⟨.un, rfl, rfl⟩ (by
      rintro w xs r ⟨c1, rfl, h1⟩
      have ll : (Fa.lset n w).length ≤ n := Nat.le_trans (List.length_filter_le ..) (by simp)
      generalize Fa.lset n w = S at ll
      unfold setsD
      generalize (told.map fun w => nsD (Fa.lset n w)) = Z
      have tl : isTy "list" (nsD S) = true := rfl
      have lc := lcm (vs := [2]) (mi := mSeq (mV 1)) (g := gN 2) (mt := mOr (mNotT (mTru (mIsi "int" (mV 2)))) (mTru (mIsi "bool" (mV 2)))) (me := mV 2) (r := [.pl (.list Z), .pl (nsD S), .un]) nD (fun _ => false) nD (fun m => [.pl (.list Z), .pl (nsD S), .pl (nD m)]) (xs := S) (by simp) (by simp [freeAt]) (by omega) (by simp) (by simp) (by
        intro m _
        simp [t1, t2]) (by simp)
      have f0 : (S.filter fun _ => false).map nD = [] := by simp
      rw [f0] at lc
      exact ⟨[.pl (.list Z), .pl (nsD S), .un], [.pl (.list Z), .pl (nsD S), .un], by simp [h1], by simp [tl, lc, ne], _, rfl, rfl⟩)
  unfold setsD at e ⊢
  generalize (told.map fun w => nsD (Fa.lset n w)) = Z at e
  have tl : isTy "list" (.list Z) = true := rfl
  simp [v_law_is_family_66f5c, tl, e]
/-- a cell of the script -/
theorem g_cellQ {l : List Int} {k : Nat} : g_law_cell_e350a [.list (l.map PyData.int), nD k] = some (.int (l.getD k 0)) := by
  rw [r_law_cell_e350a]
  have i1 : ∀ z : Int, intM [.int z] = some (.int z) := fun _ => rfl
  have el : ltM (nD k) (.int (((l.map PyData.int).length : Nat) : Int)) = some (.bool (decide (k < l.length))) := by
    rw [List.length_map]
    show some (PyData.bool (decide ((k : Int) < (l.length : Int)))) = _
    simp
  by_cases h : k < l.length
  · rw [decide_eq_true h] at el
    have ix : ixM (.list (l.map PyData.int)) (nD k) = some (.int (l.getD k 0)) := by
      show atI _ _ = _
      refine e_at ?_
      rw [List.getElem?_map, List.getElem?_eq_getElem h, List.getD_eq_getElem?_getD, List.getElem?_eq_getElem h]
      rfl
    generalize l.map PyData.int = Z at el ix
    simp [v_law_cell_e350a, el, ix, i1]
  · rw [decide_eq_false h] at el
    have e0 : l.getD k 0 = 0 := by
      rw [List.getD_eq_getElem?_getD, List.getElem?_eq_none (by omega)]
      rfl
    rw [e0]
    generalize l.map PyData.int = Z at el
    simp [v_law_cell_e350a, el]
theorem e_cutZ {α : Type} {f : α → PyData} {xs : List α} {lo hi : Nat} : cutD (xs.map f) (some (lo : Int)) (some (hi : Int)) = ((xs.drop lo).take (hi - lo)).map f := by
  unfold cutD
  rw [HT.sIx_nat, HT.sIx_nat, List.map_take, List.map_drop, List.length_map]
  by_cases h : lo ≤ xs.length
  · rw [Nat.min_eq_left h]
    by_cases h2 : hi ≤ xs.length
    · rw [Nat.min_eq_left h2]
    · rw [Nat.min_eq_right (by omega)]
      rw [List.take_of_length_le (by simp), List.take_of_length_le (by simp; omega)]
  · rw [Nat.min_eq_right (show xs.length ≤ lo by omega)]
    rw [List.drop_eq_nil_of_le (by simp), List.drop_eq_nil_of_le (by simp; omega)]
    simp
def body18 : SM := (sSeq (sSet 6 (mCall g_law_set_3b7aa (mCons (mV 5) (mCons (mV 1) mNil))))
  (sSeq (sSet 7 (mCall g_law_least_0e04d (mCons (mNew (mLc [11] (mSeq (mV 2)) (gN 11) (mOpT eqM (mOp2 andM (mV 11) (mV 5)) (M.ret (.int 0))) (mV 11))) mNil)))
  (sSeq (sSet 8 (mCall g_dropped (mCons (mV 1) (mCons (mV 4) (mCons (mV 6) mNil)))))
  (sSeq (sIf (mOr (mNotT (mTru (mCall g_law_is_family_66f5c (mCons (mV 8) mNil)))) (mOpT neM (mV 8) (mCall g_law_listed_a3095 (mCons (mNew (mLc [11] (mSeq (mV 7)) (gN 11) mYes (mCall g_law_set_3b7aa (mCons (mV 11) (mCons (mV 1) mNil))))) mNil))))
    (sRet (M.ret (.bool false)))
    sNil)
  (sSeq (sSet 9 (mCall g_law_least_0e04d (mCons (mNew (mLc [11] (mSeq (mV 2)) (gN 11) mYes (mOp2 subM (mV 11) (mOp2 andM (mV 11) (mV 5))))) mNil)))
  (sSeq (sSet 8 (mCall g_taken (mCons (mV 1) (mCons (mV 4) (mCons (mV 6) mNil)))))
  (sSeq (sIf (mOr (mNotT (mTru (mCall g_law_is_family_66f5c (mCons (mV 8) mNil)))) (mOpT neM (mV 8) (mCall g_law_listed_a3095 (mCons (mNew (mLc [11] (mSeq (mV 9)) (gN 11) mYes (mCall g_law_set_3b7aa (mCons (mV 11) (mCons (mV 1) mNil))))) mNil))))
    (sRet (M.ret (.bool false)))
    sNil)
  (sIf (mOr (mOpT neM (mV 6) (mCall g_law_set_3b7aa (mCons (mV 5) (mCons (mV 1) mNil)))) (mOpT neM (mV 4) (mV 3)))
    (sRet (M.ret (.bool false)))
    sNil))))))))
def St18 (S : PyData) (n : Nat) (rows : List Nat) (r : En) : Prop := ∃ c5 c6 c7 c8 c9 : Cel, r = [.pl S, .pl (nD n), .pl (nsD rows), .pl (setsD n rows), .pl (setsD n rows), c5, c6, c7, c8, c9, .un, .un, .un] ∧ c5.own = false ∧ c6.own = false ∧ c7.own = false ∧ c8.own = false ∧ c9.own = false
theorem body18_ok {S : PyData} {b : Nat} (hn : n ≤ 10) (hl : rows.length ≤ 76) (hr : ∀ x ∈ rows, x < 2 ^ n) (hb : b < 2 ^ n) {c6 c7 c8 c9 : Cel} (h6 : c6.own = false) (h7 : c7.own = false) (h8 : c8.own = false) (h9 : c9.own = false) :
    ∃ r2, body18 [.pl S, .pl (nD n), .pl (nsD rows), .pl (setsD n rows), .pl (setsD n rows), .pl (nD b), c6, c7, c8, c9, .un, .un, .un] = some (.nx r2) ∧ St18 S n rows r2 := by
  obtain ⟨R, e1, l1, e2⟩ := g_dropped_ok (n := n) (rows := rows) hn hl hr hb
  obtain ⟨T, e3, l3, e4⟩ := g_taken_ok (n := n) (rows := rows) hn hl hr hb
  rw [mem_sets] at e1 e2 e3 e4
  have lR : (R.map (Fa.rev n)).length ≤ 76 := by rw [List.length_map]; exact l1
  have lT : (T.map (Fa.rev n)).length ≤ 76 := by rw [List.length_map]; exact l3
  generalize R.map (Fa.rev n) = R' at e1 e2 lR
  generalize T.map (Fa.rev n) = T' at e3 e4 lT
  have f1 := g_fam (n := n) (told := R') (by omega) (by omega)
  have f2 := g_fam (n := n) (told := T') (by omega) (by omega)
  have n1 := ne_setsZ (n := n) (rows := R')
  have n2 := ne_setsZ (n := n) (rows := T')
  have n3 := ne_setsZ (n := n) (rows := rows)
  have sb := g_law_setQ (n := n) (b := b) (by omega)
  have nb : neM (nsD (Fa.lset n b)) (nsD (Fa.lset n b)) = some (.bool false) := by
    rw [ne_nsQ]
    simp
  have eq0 : ∀ x : Nat, eqM (nD x) (.int 0) = some (.bool (x == 0)) := fun x => eq_nQ (a := x) (b := 0)
  have sub : ∀ x y : Nat, subM (nD x) (nD (x &&& y)) = some (nD (x - (x &&& y))) := fun x y => by
    show some (PyData.int ((x : Int) - ((x &&& y : Nat) : Int))) = some (PyData.int ((x - (x &&& y) : Nat) : Int))
    have : x &&& y ≤ x := Nat.and_le_left
    congr 2
    omega
  have lf : (rows.filter fun x => x &&& b == 0).length ≤ rows.length := List.length_filter_le ..
  have g1 := g_law_leastQ (rows := rows.filter fun x => x &&& b == 0) (by omega)
  have g2 := g_law_leastQ (rows := rows.map fun x => x - (x &&& b)) (by rw [List.length_map]; omega)
  have lF : (lawL (rows.filter fun x => x &&& b == 0)).length ≤ 76 := Nat.le_trans (List.length_filter_le ..) (by omega)
  have lG : (lawL (rows.map fun x => x - (x &&& b))).length ≤ 76 := Nat.le_trans (List.length_filter_le ..) (by rw [List.length_map]; omega)
  have lc1 := lcm (vs := [11]) (mi := mSeq (mV 2)) (g := gN 11) (mt := mOpT eqM (mOp2 andM (mV 11) (mV 5)) (M.ret (.int 0))) (me := mV 11) (r := [.pl S, .pl (nD n), .pl (nsD rows), .pl (setsD n rows), .pl (setsD n rows), .pl (nD b), .pl (nsD (Fa.lset n b)), c7, c8, c9, .un, .un, .un]) nD (fun x => x &&& b == 0) nD (fun x => [.pl S, .pl (nD n), .pl (nsD rows), .pl (setsD n rows), .pl (setsD n rows), .pl (nD b), .pl (nsD (Fa.lset n b)), c7, c8, c9, .un, .pl (nD x), .un]) (xs := rows) (by simp) (by simp [freeAt]) (by omega) (by simp) (by simp) (by
    intro x _
    simp [band_n, eq0]) (by simp)
  have lc2 := lcy (vs := [11]) (mi := mSeq (mV 7)) (g := gN 11) (me := mCall g_law_set_3b7aa (mCons (mV 11) (mCons (mV 1) mNil))) (r := [.pl S, .pl (nD n), .pl (nsD rows), .pl (setsD n rows), .pl (setsD n rows), .pl (nD b), .pl (nsD (Fa.lset n b)), .pl (nsD (lawL (rows.filter fun x => x &&& b == 0))), .pl (setsD n R'), c9, .un, .un, .un]) nD (fun x => nsD (Fa.lset n x)) (fun x => [.pl S, .pl (nD n), .pl (nsD rows), .pl (setsD n rows), .pl (setsD n rows), .pl (nD b), .pl (nsD (Fa.lset n b)), .pl (nsD (lawL (rows.filter fun x => x &&& b == 0))), .pl (setsD n R'), c9, .un, .pl (nD x), .un]) (xs := lawL (rows.filter fun x => x &&& b == 0)) (by simp) (by simp [freeAt]) (by omega) (by simp) (by simp) (by
    intro x _
    have := g_law_setQ (n := n) (b := x) (by omega)
    simp [this])
  have lc3 := lcy (vs := [11]) (mi := mSeq (mV 2)) (g := gN 11) (me := mOp2 subM (mV 11) (mOp2 andM (mV 11) (mV 5))) (r := [.pl S, .pl (nD n), .pl (nsD rows), .pl (setsD n rows), .pl (setsD n rows), .pl (nD b), .pl (nsD (Fa.lset n b)), .pl (nsD (lawL (rows.filter fun x => x &&& b == 0))), .pl (setsD n R'), c9, .un, .un, .un]) nD (fun x => nD (x - (x &&& b))) (fun x => [.pl S, .pl (nD n), .pl (nsD rows), .pl (setsD n rows), .pl (setsD n rows), .pl (nD b), .pl (nsD (Fa.lset n b)), .pl (nsD (lawL (rows.filter fun x => x &&& b == 0))), .pl (setsD n R'), c9, .un, .pl (nD x), .un]) (xs := rows) (by simp) (by simp [freeAt]) (by omega) (by simp) (by simp) (by
    intro x _
    simp [band_n, sub])
  have em : rows.map (fun x => nD (x - (x &&& b))) = (rows.map fun x => x - (x &&& b)).map nD := by rw [List.map_map]; rfl
  rw [em] at lc3
  generalize (rows.map fun x => x - (x &&& b)) = M3 at g2 lG lc3 e4
  have lc4 := lcy (vs := [11]) (mi := mSeq (mV 9)) (g := gN 11) (me := mCall g_law_set_3b7aa (mCons (mV 11) (mCons (mV 1) mNil))) (r := [.pl S, .pl (nD n), .pl (nsD rows), .pl (setsD n rows), .pl (setsD n rows), .pl (nD b), .pl (nsD (Fa.lset n b)), .pl (nsD (lawL (rows.filter fun x => x &&& b == 0))), .pl (setsD n T'), .pl (nsD (lawL M3)), .un, .un, .un]) nD (fun x => nsD (Fa.lset n x)) (fun x => [.pl S, .pl (nD n), .pl (nsD rows), .pl (setsD n rows), .pl (setsD n rows), .pl (nD b), .pl (nsD (Fa.lset n b)), .pl (nsD (lawL (rows.filter fun x => x &&& b == 0))), .pl (setsD n T'), .pl (nsD (lawL M3)), .un, .pl (nD x), .un]) (xs := lawL M3) (by simp) (by simp [freeAt]) (by omega) (by simp) (by simp) (by
    intro x _
    have := g_law_setQ (n := n) (b := x) (by omega)
    simp [this])
  refine ⟨[.pl S, .pl (nD n), .pl (nsD rows), .pl (setsD n rows), .pl (setsD n rows), .pl (nD b), .pl (nsD (Fa.lset n b)), .pl (nsD (lawL (rows.filter fun x => x &&& b == 0))), .pl (setsD n T'), .pl (nsD (lawL M3)), .un, .un, .un], ?_, _, _, _, _, _, rfl, rfl, rfl, rfl, rfl, rfl⟩
  generalize setsD n R' = DR at *
  generalize setsD n T' = DT at *
  generalize setsD n rows = DS at *
  simp [-List.map_map, -s_put, s_putZ, io_plZ, own_ioZ h6, own_ioZ h7, own_ioZ h8, own_ioZ h9, body18, sb, lc1, g1, e1, f1, lc2, e2, n1, lc3, g2, e3, f2, lc4, e4, n2, nb, n3]
end DL
namespace DL
open PySem PySem.Spec PyProof.Rows L2 Lk
variable {n : Nat} {rows : List Nat}
def mid18 : SM := (sSeq (sSet 2 (mNew (mLc [10] (mSeq (mNew (mSlice (mV 0) (mPart (M.ret (.int 2))) (mPart (M.ret (.int 302)))))) (gN 10) mYes (mOp2 modM (mCall intM (mCons (mV 10) mNil)) (mOp2 shlM (M.ret (.int 1)) (mV 1))))))
  (sSeq (sSet 3 (mNew (mLc [11] (mSeq (mV 2)) (gN 11) mYes (mCall g_law_set_3b7aa (mCons (mV 11) (mCons (mV 1) mNil))))))
  (sSeq (sSet 4 (mNew (mLc [12] (mSeq (mV 3)) (gN 12) mYes (mNew (mCallF listM (mCons (mV 12) mNil))))))
  (sSeq (sFor (mSeq (mNew (mLst (mCons (mOp2 modM (mCall intM (mCons (mCall g_law_cell_e350a (mCons (mV 0) (mCons (M.ret (.int 1)) mNil))) mNil)) (mOp2 shlM (M.ret (.int 1)) (mV 1))) (mCons (M.ret (.int 0)) (mCons (mOp2 subM (mOp2 shlM (M.ret (.int 1)) (mV 1)) (M.ret (.int 1))) mNil)))))) (gN 5) body18)
  (sRet (M.ret (.bool true)))))))
theorem split18 : v_law_k18 = (sSeq (sSet 1 (mOp2 modM (mCall intM (mCons (mCall g_law_cell_e350a (mCons (mV 0) (mCons (M.ret (.int 0)) mNil))) mNil)) (M.ret (.int 11)))) mid18) := rfl
theorem mid18_ok {l : List Int} (h63 : l.length ≤ 63) (hn : n ≤ 10) : outD (mid18 [.pl (.list (l.map PyData.int)), .pl (nD n), .un, .un, .un, .un, .un, .un, .un, .un, .un, .un, .un]) = some (.bool true) := by
  have N1 : 2 ^ n ≤ 1024 := Nat.le_trans (Nat.pow_le_pow_right (by decide) hn) (by decide)
  have N0 : 0 < 2 ^ n := Nat.two_pow_pos n
  have sh := shl_n (n := n) (by omega)
  have cut : cutD (l.map PyData.int) (some 2) (some 302) = ((l.drop 2).take 300).map PyData.int := e_cutZ (lo := 2) (hi := 302)
  have lc60 : ((l.drop 2).take 300).length ≤ 76 := by simp; omega
  generalize (l.drop 2).take 300 = cells at cut lc60
  obtain ⟨rows, hrows⟩ : ∃ rows : List Nat, rows = cells.map fun z => (z % ((2 ^ n : Nat) : Int)).toNat := ⟨_, rfl⟩
  have lr : rows.length ≤ 76 := by rw [hrows, List.length_map]; exact lc60
  have lt : ∀ z : Int, (z % ((2 ^ n : Nat) : Int)).toNat < 2 ^ n := fun z => by
    have h1 := Int.emod_lt_of_pos z (show (0 : Int) < ((2 ^ n : Nat) : Int) by omega)
    have h2 := Int.emod_nonneg z (show ((2 ^ n : Nat) : Int) ≠ 0 by omega)
    omega
  have hr : ∀ b ∈ rows, b < 2 ^ n := fun b hb => by
    rw [hrows] at hb
    obtain ⟨z, _, rfl⟩ := List.mem_map.mp hb
    exact lt z
  have B := fun (S : PyData) (b : Nat) (hb : b < 2 ^ n) => @body18_ok n rows S b hn lr hr hb
  have c1 : g_law_cell_e350a [.list (l.map PyData.int), .int 1] = some (.int (l.getD 1 0)) := g_cellQ (l := l) (k := 1)
  have lz := lt (l.getD 1 0)
  generalize l.getD 1 0 = z1 at c1 lz
  generalize 2 ^ n = N at N1 N0 sh B hrows lz
  have md : ∀ z : Int, modM (.int z) (nD N) = some (nD (z % (N : Int)).toNat) := fun z => by
    have := e_modI (a := z) (b := (N : Int)) (by omega)
    show modM (.int z) (.int N) = _
    rw [this]
    unfold nD
    rw [Int.toNat_of_nonneg (Int.emod_nonneg _ (by omega))]
  have i1 : ∀ z : Int, intM [.int z] = some (.int z) := fun _ => rfl
  have l2 := lcy (vs := [10]) (mi := mSeq (mNew (mSlice (mV 0) (mPart (M.ret (.int 2))) (mPart (M.ret (.int 302)))))) (g := gN 10) (me := mOp2 modM (mCall intM (mCons (mV 10) mNil)) (mOp2 shlM (M.ret (.int 1)) (mV 1))) (r := [.pl (.list (l.map PyData.int)), .pl (nD n), .un, .un, .un, .un, .un, .un, .un, .un, .un, .un, .un])
    PyData.int (fun z => nD (z % (N : Int)).toNat) (fun z => [.pl (.list (l.map PyData.int)), .pl (nD n), .un, .un, .un, .un, .un, .un, .un, .un, .pl (.int z), .un, .un]) (xs := cells) (by simp [cut]) (by simp [freeAt]) (by omega) (by simp) (by simp) (by
      intro z _
      simp [i1, sh, md])
  have e2 : cells.map (fun z => nD (z % (N : Int)).toNat) = rows.map nD := by
    rw [hrows, List.map_map]
    rfl
  rw [e2] at l2
  have l4 := lcy (vs := [11]) (mi := mSeq (mV 2)) (g := gN 11) (me := mCall g_law_set_3b7aa (mCons (mV 11) (mCons (mV 1) mNil))) (r := [.pl (.list (l.map PyData.int)), .pl (nD n), .pl (nsD rows), .un, .un, .un, .un, .un, .un, .un, .un, .un, .un])
    nD (fun b => nsD (Fa.lset n b)) (fun b => [.pl (.list (l.map PyData.int)), .pl (nD n), .pl (nsD rows), .un, .un, .un, .un, .un, .un, .un, .un, .pl (nD b), .un]) (xs := rows) (by simp) (by simp [freeAt]) (by omega) (by simp) (by simp) (by
      intro b _
      have := g_law_setQ (n := n) (b := b) (by omega)
      simp [this])
  have l5 := lcy (vs := [12]) (mi := mSeq (mV 3)) (g := gN 12) (me := mNew (mCallF listM (mCons (mV 12) mNil))) (r := [.pl (.list (l.map PyData.int)), .pl (nD n), .pl (nsD rows), .pl (setsD n rows), .un, .un, .un, .un, .un, .un, .un, .un, .un])
    (fun b => nsD (Fa.lset n b)) (fun b => nsD (Fa.lset n b)) (fun b => [.pl (.list (l.map PyData.int)), .pl (nD n), .pl (nsD rows), .pl (setsD n rows), .un, .un, .un, .un, .un, .un, .un, .un, .pl (nsD (Fa.lset n b))]) (xs := rows) (by simp) (by simp [freeAt]) (by omega) (by simp) (by simp) (by
      intro b _
      simp)
  have s1 : subM (nD N) (.int 1) = some (nD (N - 1)) := by
    show some (PyData.int ((N : Int) - 1)) = some (PyData.int ((N - 1 : Nat) : Int))
    congr 2
    omega
  obtain ⟨r2, e, _, c5, c6, c7, c8, c9, rfl, h5, h6, h7, h8, h9⟩ := for_i (g := gN 5) (b := body18) nD
    (fun xs r => (∀ b ∈ xs, b < N) ∧ St18 (.list (l.map PyData.int)) n rows r)
    (xs := [(z1 % (N : Int)).toNat, 0, N - 1]) (r := [.pl (.list (l.map PyData.int)), .pl (nD n), .pl (nsD rows), .pl (setsD n rows), .pl (setsD n rows), .un, .un, .un, .un, .un, .un, .un, .un]) ⟨fun b hb => by
      rcases List.mem_cons.mp hb with rfl | hb
      · exact lz
      · rcases List.mem_cons.mp hb with rfl | hb
        · exact N0
        · rw [List.mem_singleton.mp hb]
          omega, .un, .un, .un, .un, .un, rfl, rfl, rfl, rfl, rfl, rfl⟩ (by
      rintro b xs r ⟨hb, c5, c6, c7, c8, c9, rfl, h5, h6, h7, h8, h9⟩
      obtain ⟨r2, e, st⟩ := B (.list (l.map PyData.int)) b (hb b List.mem_cons_self) h6 h7 h8 h9
      exact ⟨_, r2, by simp [h5], e, fun x hx => hb x (List.mem_cons_of_mem _ hx), st⟩)
  have e' : forGo (gN 5) body18 [nD (z1 % (N : Int)).toNat, .int 0, nD (N - 1)] [.pl (.list (l.map PyData.int)), .pl (nD n), .pl (nsD rows), .pl (setsD n rows), .pl (setsD n rows), .un, .un, .un, .un, .un, .un, .un, .un] = _ := e
  have i2 : ∀ z : Nat, intM [nD z] = some (nD z) := fun _ => rfl
  simp [-List.map_map, mid18, l2, l4, l5, c1, i1, md, sh, s1]
  rw [show PyData.list (rows.map fun b => nsD (Fa.lset n b)) = setsD n rows from rfl, e']
  rfl
theorem true_k18 (l : List Int) (hl : l.length ≤ 63) (hb : ∀ z ∈ l, Builtin.Int.intBits z ≤ 1048576) : g_law_k18 [.list (l.map PyData.int)] = some (.bool true) := by
  rw [r_law_k18, split18]
  have g0 : g_law_cell_e350a [.list (l.map PyData.int), .int 0] = some (.int (l.getD 0 0)) := g_cellQ (l := l) (k := 0)
  have i1 : ∀ z : Int, intM [.int z] = some (.int z) := fun _ => rfl
  generalize l.getD 0 0 = c at g0
  have m11 : modM (.int c) (.int 11) = some (.int (c % 11)) := e_modI (by decide)
  have b1 := Int.emod_nonneg c (show (11 : Int) ≠ 0 by decide)
  have b2 := Int.emod_lt_of_pos c (show (0 : Int) < 11 by decide)
  have T := mid18_ok (l := l) (n := (c % 11).toNat) hl (by omega)
  have e1 : nD (c % 11).toNat = .int (c % 11) := by unfold nD; rw [Int.toNat_of_nonneg b1]
  rw [e1] at T
  simp [g0, i1, m11, T]
end DL
namespace DL
open PySem PySem.Spec PyProof.Rows L2 Lk
theorem all_mk {l : PySem.W.OpenLaw} {w : World} {K : PySem.W.Frag} {h : Heap} {mg : Str → Option Value} {fa : Addr} (X : K.In h) (G : h.Ns mainGlobals mg) (hfa : mg "law" = some (.ref fa))
    {f0 : Addr} {od0 an0 : Option Addr} {sl0 : Array (Option Value)} {oc0 kV0 dc0 pm0 cd0 ct0 : Value}
    {f1 : Addr} {od1 an1 : Option Addr} {sl1 : Array (Option Value)} {oc1 kV1 dc1 pm1 cd1 ct1 : Value}
    {f2 : Addr} {od2 an2 : Option Addr} {sl2 : Array (Option Value)} {oc2 kV2 dc2 pm2 cd2 ct2 : Value}
    {f3 : Addr} {od3 an3 : Option Addr} {sl3 : Array (Option Value)} {oc3 kV3 dc3 pm3 cd3 ct3 : Value}
    {f4 : Addr} {od4 an4 : Option Addr} {sl4 : Array (Option Value)} {oc4 kV4 dc4 pm4 cd4 ct4 : Value}
    {f5 : Addr} {od5 an5 : Option Addr} {sl5 : Array (Option Value)} {oc5 kV5 dc5 pm5 cd5 ct5 : Value}
    {f6 : Addr} {od6 an6 : Option Addr} {sl6 : Array (Option Value)} {oc6 kV6 dc6 pm6 cd6 ct6 : Value}
    {f7 : Addr} {od7 an7 : Option Addr} {sl7 : Array (Option Value)} {oc7 kV7 dc7 pm7 cd7 ct7 : Value}
    {f8 : Addr} {od8 an8 : Option Addr} {sl8 : Array (Option Value)} {oc8 kV8 dc8 pm8 cd8 ct8 : Value}
    {f9 : Addr} {od9 an9 : Option Addr} {sl9 : Array (Option Value)} {oc9 kV9 dc9 pm9 cd9 ct9 : Value}
    {f10 : Addr} {od10 an10 : Option Addr} {sl10 : Array (Option Value)} {oc10 kV10 dc10 pm10 cd10 ct10 : Value}
    {f11 : Addr} {od11 an11 : Option Addr} {sl11 : Array (Option Value)} {oc11 kV11 dc11 pm11 cd11 ct11 : Value}
    {f12 : Addr} {od12 an12 : Option Addr} {sl12 : Array (Option Value)} {oc12 kV12 dc12 pm12 cd12 ct12 : Value}
    {f13 : Addr} {od13 an13 : Option Addr} {sl13 : Array (Option Value)} {oc13 kV13 dc13 pm13 cd13 ct13 : Value}
    {f14 : Addr} {od14 an14 : Option Addr} {sl14 : Array (Option Value)} {oc14 kV14 dc14 pm14 cd14 ct14 : Value}
    {f15 : Addr} {od15 an15 : Option Addr} {sl15 : Array (Option Value)} {oc15 kV15 dc15 pm15 cd15 ct15 : Value}
    {f16 : Addr} {od16 an16 : Option Addr} {sl16 : Array (Option Value)} {oc16 kV16 dc16 pm16 cd16 ct16 : Value}
    {f17 : Addr} {od17 an17 : Option Addr} {sl17 : Array (Option Value)} {oc17 kV17 dc17 pm17 cd17 ct17 : Value}
    {f18 : Addr} {od18 an18 : Option Addr} {sl18 : Array (Option Value)} {oc18 kV18 dc18 pm18 cd18 ct18 : Value}
    {t0 : Tok}
    {t1 : Tok}
    (a0 : PySem.W.nsIn K mainGlobals "ascending_numbers" = some (some (.ref f0))) (l0 : K.lookup f0 = some ⟨oc0, od0, .func (PySem.W.fnOf "ascending_numbers" "ascending_numbers" (defArgs s_ascending_numbers) (defBody s_ascending_numbers) (defScope s_ascending_numbers) .none kV0 dc0 pm0 an0 cd0 ct0), sl0⟩)
    (c0 : PySem.W.codeIn K cd0 "ascending_numbers" = true) (k0 : PySem.W.keepIn K (.ref f0) = true)
    (a1 : PySem.W.nsIn K mainGlobals "members_of" = some (some (.ref f1))) (l1 : K.lookup f1 = some ⟨oc1, od1, .func (PySem.W.fnOf "members_of" "members_of" (defArgs s_members_of) (defBody s_members_of) (defScope s_members_of) .none kV1 dc1 pm1 an1 cd1 ct1), sl1⟩)
    (c1 : PySem.W.codeIn K cd1 "members_of" = true) (k1 : PySem.W.keepIn K (.ref f1) = true)
    (a2 : PySem.W.nsIn K mainGlobals "family_of" = some (some (.ref f2))) (l2 : K.lookup f2 = some ⟨oc2, od2, .func (PySem.W.fnOf "family_of" "family_of" (defArgs s_family_of) (defBody s_family_of) (defScope s_family_of) .none kV2 dc2 pm2 an2 cd2 ct2), sl2⟩)
    (c2 : PySem.W.codeIn K cd2 "family_of" = true) (k2 : PySem.W.keepIn K (.ref f2) = true)
    (a3 : PySem.W.nsIn K mainGlobals "least_masks" = some (some (.ref f3))) (l3 : K.lookup f3 = some ⟨oc3, od3, .func (PySem.W.fnOf "least_masks" "least_masks" (defArgs s_least_masks) (defBody s_least_masks) (defScope s_least_masks) .none kV3 dc3 pm3 an3 cd3 ct3), sl3⟩)
    (c3 : PySem.W.codeIn K cd3 "least_masks" = true) (k3 : PySem.W.keepIn K (.ref f3) = true)
    (a4 : PySem.W.nsIn K mainGlobals "is_integer" = some (some (.ref f4))) (l4 : K.lookup f4 = some ⟨oc4, od4, .func (PySem.W.fnOf "is_integer" "is_integer" (defArgs s_is_integer) (defBody s_is_integer) (defScope s_is_integer) .none kV4 dc4 pm4 an4 cd4 ct4), sl4⟩)
    (c4 : PySem.W.codeIn K cd4 "is_integer" = true) (k4 : PySem.W.keepIn K (.ref f4) = true)
    (a5 : PySem.W.nsIn K mainGlobals "is_integer_below" = some (some (.ref f5))) (l5 : K.lookup f5 = some ⟨oc5, od5, .func (PySem.W.fnOf "is_integer_below" "is_integer_below" (defArgs s_is_integer_below) (defBody s_is_integer_below) (defScope s_is_integer_below) .none kV5 dc5 pm5 an5 cd5 ct5), sl5⟩)
    (c5 : PySem.W.codeIn K cd5 "is_integer_below" = true) (k5 : PySem.W.keepIn K (.ref f5) = true)
    (a6 : PySem.W.nsIn K mainGlobals "mask_of" = some (some (.ref f6))) (l6 : K.lookup f6 = some ⟨oc6, od6, .func (PySem.W.fnOf "mask_of" "mask_of" (defArgs s_mask_of) (defBody s_mask_of) (defScope s_mask_of) .none kV6 dc6 pm6 an6 cd6 ct6), sl6⟩)
    (c6 : PySem.W.codeIn K cd6 "mask_of" = true) (k6 : PySem.W.keepIn K (.ref f6) = true)
    (a7 : PySem.W.nsIn K mainGlobals "are_ascending_below" = some (some (.ref f7))) (l7 : K.lookup f7 = some ⟨oc7, od7, .func (PySem.W.fnOf "are_ascending_below" "are_ascending_below" (defArgs s_are_ascending_below) (defBody s_are_ascending_below) (defScope s_are_ascending_below) .none kV7 dc7 pm7 an7 cd7 ct7), sl7⟩)
    (c7 : PySem.W.codeIn K cd7 "are_ascending_below" = true) (k7 : PySem.W.keepIn K (.ref f7) = true)
    (a8 : PySem.W.nsIn K mainGlobals "_is_set" = some (some (.ref f8))) (l8 : K.lookup f8 = some ⟨oc8, od8, .func (PySem.W.fnOf "_is_set" "_is_set" (defArgs s_p_is_set) (defBody s_p_is_set) (defScope s_p_is_set) .none kV8 dc8 pm8 an8 cd8 ct8), sl8⟩)
    (c8 : PySem.W.codeIn K cd8 "_is_set" = true) (k8 : PySem.W.keepIn K (.ref f8) = true)
    (a9 : PySem.W.nsIn K mainGlobals "_read_family" = some (some (.ref f9))) (l9 : K.lookup f9 = some ⟨oc9, od9, .func (PySem.W.fnOf "_read_family" "_read_family" (defArgs s_p_read_family) (defBody s_p_read_family) (defScope s_p_read_family) .none kV9 dc9 pm9 an9 cd9 ct9), sl9⟩)
    (c9 : PySem.W.codeIn K cd9 "_read_family" = true) (k9 : PySem.W.keepIn K (.ref f9) = true)
    (a10 : PySem.W.nsIn K mainGlobals "_read_members" = some (some (.ref f10))) (l10 : K.lookup f10 = some ⟨oc10, od10, .func (PySem.W.fnOf "_read_members" "_read_members" (defArgs s_p_read_members) (defBody s_p_read_members) (defScope s_p_read_members) .none kV10 dc10 pm10 an10 cd10 ct10), sl10⟩)
    (c10 : PySem.W.codeIn K cd10 "_read_members" = true) (k10 : PySem.W.keepIn K (.ref f10) = true)
    (a11 : PySem.W.nsIn K mainGlobals "dropped" = some (some (.ref f11))) (l11 : K.lookup f11 = some ⟨oc11, od11, .func (PySem.W.fnOf "dropped" "dropped" (defArgs s_dropped) (defBody s_dropped) (defScope s_dropped) .none kV11 dc11 pm11 an11 cd11 ct11), sl11⟩)
    (c11 : PySem.W.codeIn K cd11 "dropped" = true) (k11 : PySem.W.keepIn K (.ref f11) = true)
    (a12 : PySem.W.nsIn K mainGlobals "taken" = some (some (.ref f12))) (l12 : K.lookup f12 = some ⟨oc12, od12, .func (PySem.W.fnOf "taken" "taken" (defArgs s_taken) (defBody s_taken) (defScope s_taken) .none kV12 dc12 pm12 an12 cd12 ct12), sl12⟩)
    (c12 : PySem.W.codeIn K cd12 "taken" = true) (k12 : PySem.W.keepIn K (.ref f12) = true)
    (a13 : PySem.W.nsIn K mainGlobals "_law_cell" = some (some (.ref f13))) (l13 : K.lookup f13 = some ⟨oc13, od13, .func (PySem.W.fnOf "_law_cell" "_law_cell" (defArgs s_law_cell_e350a) (defBody s_law_cell_e350a) (defScope s_law_cell_e350a) .none kV13 dc13 pm13 an13 cd13 ct13), sl13⟩)
    (c13 : PySem.W.codeIn K cd13 "_law_cell" = true) (k13 : PySem.W.keepIn K (.ref f13) = true)
    (a14 : PySem.W.nsIn K mainGlobals "_law_set" = some (some (.ref f14))) (l14 : K.lookup f14 = some ⟨oc14, od14, .func (PySem.W.fnOf "_law_set" "_law_set" (defArgs s_law_set_3b7aa) (defBody s_law_set_3b7aa) (defScope s_law_set_3b7aa) .none kV14 dc14 pm14 an14 cd14 ct14), sl14⟩)
    (c14 : PySem.W.codeIn K cd14 "_law_set" = true) (k14 : PySem.W.keepIn K (.ref f14) = true)
    (a15 : PySem.W.nsIn K mainGlobals "_law_is_family" = some (some (.ref f15))) (l15 : K.lookup f15 = some ⟨oc15, od15, .func (PySem.W.fnOf "_law_is_family" "_law_is_family" (defArgs s_law_is_family_66f5c) (defBody s_law_is_family_66f5c) (defScope s_law_is_family_66f5c) .none kV15 dc15 pm15 an15 cd15 ct15), sl15⟩)
    (c15 : PySem.W.codeIn K cd15 "_law_is_family" = true) (k15 : PySem.W.keepIn K (.ref f15) = true)
    (a16 : PySem.W.nsIn K mainGlobals "_law_listed" = some (some (.ref f16))) (l16 : K.lookup f16 = some ⟨oc16, od16, .func (PySem.W.fnOf "_law_listed" "_law_listed" (defArgs s_law_listed_a3095) (defBody s_law_listed_a3095) (defScope s_law_listed_a3095) .none kV16 dc16 pm16 an16 cd16 ct16), sl16⟩)
    (c16 : PySem.W.codeIn K cd16 "_law_listed" = true) (k16 : PySem.W.keepIn K (.ref f16) = true)
    (a17 : PySem.W.nsIn K mainGlobals "_law_least" = some (some (.ref f17))) (l17 : K.lookup f17 = some ⟨oc17, od17, .func (PySem.W.fnOf "_law_least" "_law_least" (defArgs s_law_least_0e04d) (defBody s_law_least_0e04d) (defScope s_law_least_0e04d) .none kV17 dc17 pm17 an17 cd17 ct17), sl17⟩)
    (c17 : PySem.W.codeIn K cd17 "_law_least" = true) (k17 : PySem.W.keepIn K (.ref f17) = true)
    (a18 : PySem.W.nsIn K mainGlobals "law" = some (some (.ref f18))) (l18 : K.lookup f18 = some ⟨oc18, od18, .func (PySem.W.fnOf "law" "law" (defArgs s_law_k18) (defBody s_law_k18) (defScope s_law_k18) .none kV18 dc18 pm18 an18 cd18 ct18), sl18⟩)
    (c18 : PySem.W.codeIn K cd18 "law" = true) (k18 : PySem.W.keepIn K (.ref f18) = true)
    (n0 : PySem.W.nsIn K mainGlobals "GREATEST_SET_SIZE" = some (some (.int 10 t0)))
    (n1 : PySem.W.nsIn K mainGlobals "MOST_SETS" = some (some (.int 300 t1)))
    (z0 : PySem.W.nsIn K mainGlobals "all" = some none)
    (z1 : PySem.W.nsIn K mainGlobals "any" = some none)
    (z2 : PySem.W.nsIn K mainGlobals "bool" = some none)
    (z3 : PySem.W.nsIn K mainGlobals "int" = some none)
    (z4 : PySem.W.nsIn K mainGlobals "isinstance" = some none)
    (z5 : PySem.W.nsIn K mainGlobals "len" = some none)
    (z6 : PySem.W.nsIn K mainGlobals "list" = some none)
    (z7 : PySem.W.nsIn K mainGlobals "range" = some none)
    (z8 : PySem.W.nsIn K mainGlobals "set" = some none)
    (z9 : PySem.W.nsIn K mainGlobals "sorted" = some none)
    (z10 : PySem.W.nsIn K mainGlobals "tuple" = some none)
    : ∃ fd : FuncData, (∀ (s : Shared) (v : Value), BindsTo s fd ⟨[v], []⟩ [("script", v)]) ∧ ∀ base : Heap, K.In base → base.Ns mainGlobals mg → Lk.FnG l.prog w K mg base CX0 7 fa fd ["script"] (spLaw K g_law_k18) := by
  have e := hfa.symm.trans (PySem.W.mg_of X G a18)
  cases e
  have F0 := fun_mk (st := s_ascending_numbers) l0 c0 k0
  have g0 := PySem.W.mg_of X G a0
  have b0 := F0.binds (ps := ["numbers"]) fun _ _ _ _ _ _ us hl => match us, hl with | [_], _ => rfl
  have F1 := fun_mk (st := s_members_of) l1 c1 k1
  have g1 := PySem.W.mg_of X G a1
  have b1 := F1.binds (ps := ["size", "mask"]) fun _ _ _ _ _ _ us hl => match us, hl with | [_, _], _ => rfl
  have F2 := fun_mk (st := s_family_of) l2 c2 k2
  have g2 := PySem.W.mg_of X G a2
  have b2 := F2.binds (ps := ["size", "masks"]) fun _ _ _ _ _ _ us hl => match us, hl with | [_, _], _ => rfl
  have F3 := fun_mk (st := s_least_masks) l3 c3 k3
  have g3 := PySem.W.mg_of X G a3
  have b3 := F3.binds (ps := ["masks"]) fun _ _ _ _ _ _ us hl => match us, hl with | [_], _ => rfl
  have F4 := fun_mk (st := s_is_integer) l4 c4 k4
  have g4 := PySem.W.mg_of X G a4
  have b4 := F4.binds (ps := ["value"]) fun _ _ _ _ _ _ us hl => match us, hl with | [_], _ => rfl
  have F5 := fun_mk (st := s_is_integer_below) l5 c5 k5
  have g5 := PySem.W.mg_of X G a5
  have b5 := F5.binds (ps := ["value", "limit"]) fun _ _ _ _ _ _ us hl => match us, hl with | [_, _], _ => rfl
  have F6 := fun_mk (st := s_mask_of) l6 c6 k6
  have g6 := PySem.W.mg_of X G a6
  have b6 := F6.binds (ps := ["size", "members"]) fun _ _ _ _ _ _ us hl => match us, hl with | [_, _], _ => rfl
  have F7 := fun_mk (st := s_are_ascending_below) l7 c7 k7
  have g7 := PySem.W.mg_of X G a7
  have b7 := F7.binds (ps := ["values", "limit"]) fun _ _ _ _ _ _ us hl => match us, hl with | [_, _], _ => rfl
  have F8 := fun_mk (st := s_p_is_set) l8 c8 k8
  have g8 := PySem.W.mg_of X G a8
  have b8 := F8.binds (ps := ["size", "value"]) fun _ _ _ _ _ _ us hl => match us, hl with | [_, _], _ => rfl
  have F9 := fun_mk (st := s_p_read_family) l9 c9 k9
  have g9 := PySem.W.mg_of X G a9
  have b9 := F9.binds (ps := ["size", "family"]) fun _ _ _ _ _ _ us hl => match us, hl with | [_, _], _ => rfl
  have F10 := fun_mk (st := s_p_read_members) l10 c10 k10
  have g10 := PySem.W.mg_of X G a10
  have b10 := F10.binds (ps := ["size", "members"]) fun _ _ _ _ _ _ us hl => match us, hl with | [_, _], _ => rfl
  have F11 := fun_mk (st := s_dropped) l11 c11 k11
  have g11 := PySem.W.mg_of X G a11
  have b11 := F11.binds (ps := ["size", "family", "members"]) fun _ _ _ _ _ _ us hl => match us, hl with | [_, _, _], _ => rfl
  have F12 := fun_mk (st := s_taken) l12 c12 k12
  have g12 := PySem.W.mg_of X G a12
  have b12 := F12.binds (ps := ["size", "family", "members"]) fun _ _ _ _ _ _ us hl => match us, hl with | [_, _, _], _ => rfl
  have F13 := fun_mk (st := s_law_cell_e350a) l13 c13 k13
  have g13 := PySem.W.mg_of X G a13
  have b13 := F13.binds (ps := ["script", "k"]) fun _ _ _ _ _ _ us hl => match us, hl with | [_, _], _ => rfl
  have F14 := fun_mk (st := s_law_set_3b7aa) l14 c14 k14
  have g14 := PySem.W.mg_of X G a14
  have b14 := F14.binds (ps := ["bits", "many"]) fun _ _ _ _ _ _ us hl => match us, hl with | [_, _], _ => rfl
  have F15 := fun_mk (st := s_law_is_family_66f5c) l15 c15 k15
  have g15 := PySem.W.mg_of X G a15
  have b15 := F15.binds (ps := ["found"]) fun _ _ _ _ _ _ us hl => match us, hl with | [_], _ => rfl
  have F16 := fun_mk (st := s_law_listed_a3095) l16 c16 k16
  have g16 := PySem.W.mg_of X G a16
  have b16 := F16.binds (ps := ["rows"]) fun _ _ _ _ _ _ us hl => match us, hl with | [_], _ => rfl
  have F17 := fun_mk (st := s_law_least_0e04d) l17 c17 k17
  have g17 := PySem.W.mg_of X G a17
  have b17 := F17.binds (ps := ["rows"]) fun _ _ _ _ _ _ us hl => match us, hl with | [_], _ => rfl
  have F18 := fun_mk (st := s_law_k18) l18 c18 k18
  have g18 := PySem.W.mg_of X G a18
  have m_GREATEST_SET_SIZE : ∃ t, mg "GREATEST_SET_SIZE" = some (.int 10 t) := ⟨_, PySem.W.mg_of X G n0⟩
  have m_MOST_SETS : ∃ t, mg "MOST_SETS" = some (.int 300 t) := ⟨_, PySem.W.mg_of X G n1⟩
  have y_all := PySem.W.mg_none_of X G z0
  have y_any := PySem.W.mg_none_of X G z1
  have y_bool := PySem.W.mg_none_of X G z2
  have y_int := PySem.W.mg_none_of X G z3
  have y_isinstance := PySem.W.mg_none_of X G z4
  have y_len := PySem.W.mg_none_of X G z5
  have y_list := PySem.W.mg_none_of X G z6
  have y_range := PySem.W.mg_none_of X G z7
  have y_set := PySem.W.mg_none_of X G z8
  have y_sorted := PySem.W.mg_none_of X G z9
  have y_tuple := PySem.W.mg_none_of X G z10
  refine ⟨PySem.W.fnOf "law" "law" (defArgs s_law_k18) (defBody s_law_k18) (defScope s_law_k18) .none kV18 dc18 pm18 an18 cd18 ct18, fun s v => .of_eq rfl, fun base _ _ => ?_⟩
  have H_ascending_numbers : Has l.prog w K mg base 1 "ascending_numbers" ["numbers"] (spD K g_ascending_numbers) := t_ascending_numbers (k := 0) F0 b0 g0 y_int y_sorted
  have H_members_of : Has l.prog w K mg base 1 "members_of" ["size", "mask"] (spD K g_members_of) := t_members_of (k := 0) F1 b1 g1 y_range
  have H_family_of : Has l.prog w K mg base 2 "family_of" ["size", "masks"] (spD K g_family_of) := t_family_of (k := 1) F2 b2 g2 y_len y_sorted (H_ascending_numbers.mono (by decide)) (H_members_of.mono (by decide))
  have H_least_masks : Has l.prog w K mg base 2 "least_masks" ["masks"] (spD K g_least_masks) := t_least_masks (k := 1) F3 b3 g3 y_any (H_ascending_numbers.mono (by decide))
  have H_is_integer : Has l.prog w K mg base 1 "is_integer" ["value"] (spD K g_is_integer) := t_is_integer (k := 0) F4 b4 g4 y_bool y_int y_isinstance
  have H_is_integer_below : Has l.prog w K mg base 2 "is_integer_below" ["value", "limit"] (spD K g_is_integer_below) := t_is_integer_below (k := 1) F5 b5 g5 (H_is_integer.mono (by decide))
  have H_mask_of : Has l.prog w K mg base 1 "mask_of" ["size", "members"] (spD K g_mask_of) := t_mask_of (k := 0) F6 b6 g6 
  have H_are_ascending_below : Has l.prog w K mg base 3 "are_ascending_below" ["values", "limit"] (spD K g_are_ascending_below) := t_are_ascending_below (k := 2) F7 b7 g7 (H_is_integer_below.mono (by decide))
  have H_p_is_set : Has l.prog w K mg base 4 "_is_set" ["size", "value"] (spD K g_p_is_set) := t_p_is_set (k := 3) F8 b8 g8 y_isinstance y_list (H_are_ascending_below.mono (by decide))
  have H_p_read_family : Has l.prog w K mg base 5 "_read_family" ["size", "family"] (spD K g_p_read_family) := t_p_read_family (k := 4) F9 b9 g9 y_all m_GREATEST_SET_SIZE m_MOST_SETS y_isinstance y_len y_list (H_is_integer_below.mono (by decide)) (H_mask_of.mono (by decide)) (H_p_is_set.mono (by decide))
  have H_p_read_members : Has l.prog w K mg base 5 "_read_members" ["size", "members"] (spD K g_p_read_members) := t_p_read_members (k := 4) F10 b10 g10 (H_mask_of.mono (by decide)) (H_p_is_set.mono (by decide))
  have H_dropped : Has l.prog w K mg base 6 "dropped" ["size", "family", "members"] (spD K g_dropped) := t_dropped (k := 5) F11 b11 g11 (H_family_of.mono (by decide)) (H_least_masks.mono (by decide)) (H_p_read_family.mono (by decide)) (H_p_read_members.mono (by decide))
  have H_taken : Has l.prog w K mg base 6 "taken" ["size", "family", "members"] (spD K g_taken) := t_taken (k := 5) F12 b12 g12 (H_family_of.mono (by decide)) (H_least_masks.mono (by decide)) (H_p_read_family.mono (by decide)) (H_p_read_members.mono (by decide))
  have H_law_cell_e350a : Has l.prog w K mg base 1 "_law_cell" ["script", "k"] (spD K g_law_cell_e350a) := t_law_cell_e350a (k := 0) F13 b13 g13 y_int y_len
  have H_law_set_3b7aa : Has l.prog w K mg base 1 "_law_set" ["bits", "many"] (spD K g_law_set_3b7aa) := t_law_set_3b7aa (k := 0) F14 b14 g14 y_range
  have H_law_is_family_66f5c : Has l.prog w K mg base 1 "_law_is_family" ["found"] (spD K g_law_is_family_66f5c) := t_law_is_family_66f5c (k := 0) F15 b15 g15 y_bool y_int y_isinstance y_list
  have H_law_listed_a3095 : Has l.prog w K mg base 1 "_law_listed" ["rows"] (spD K g_law_listed_a3095) := t_law_listed_a3095 (k := 0) F16 b16 g16 y_len y_list y_set y_sorted y_tuple
  have H_law_least_0e04d : Has l.prog w K mg base 1 "_law_least" ["rows"] (spD K g_law_least_0e04d) := t_law_least_0e04d (k := 0) F17 b17 g17 
  have LB : Binds K _ ["script"] [] := F18.binds (ps := ["script"]) fun _ _ _ _ _ _ us hl => match us, hl with | [_], _ => rfl
  exact Lk.FnG.ofOk (law_fn (f_law_k18 (k := 6) F18 LB g18 y_int y_list (H_dropped.mono (by decide)) (H_taken.mono (by decide)) (H_law_cell_e350a.mono (by decide)) (H_law_set_3b7aa.mono (by decide)) (H_law_is_family_66f5c.mono (by decide)) (H_law_listed_a3095.mono (by decide)) (H_law_least_0e04d.mono (by decide))))
end DL
open PySem PySem.W PyProof.Rows in
set_option maxRecDepth 100000 in
set_option maxHeartbeats 0 in
theorem PySem.Challenge.cw_leastreasons_k18_members_dropped_and_tak_holds : PySem.Challenge.rw_leastreasons_k18_members_dropped_and_tak.Holds := by
  w_on; o_law; k_head; (case hw => w_witness2)
  k_fill
  refine Lk.walk_ofGB (l := PySem.Challenge.rw_leastreasons_k18_members_dropped_and_tak) (n := 63) (k := 7) (x := "script") (sp := fun w => DL.spLaw _ DL.g_law_k18) rfl (by decide) rfl ⟨rfl, by decide, by decide⟩ (fun w h Y => PySem.W.kIn_of Y) ?F (fun _ _ a ns hl hb _ hS => ⟨a, ns, rfl, hS, DL.true_k18 ns hl hb, fun _ => rfl⟩)
  case F =>
    intro w mg fa h KX G hmg
    refine' DL.all_mk KX G hmg ?a0 ?l0 ?c0 ?k0 ?a1 ?l1 ?c1 ?k1 ?a2 ?l2 ?c2 ?k2 ?a3 ?l3 ?c3 ?k3 ?a4 ?l4 ?c4 ?k4 ?a5 ?l5 ?c5 ?k5 ?a6 ?l6 ?c6 ?k6 ?a7 ?l7 ?c7 ?k7 ?a8 ?l8 ?c8 ?k8 ?a9 ?l9 ?c9 ?k9 ?a10 ?l10 ?c10 ?k10 ?a11 ?l11 ?c11 ?k11 ?a12 ?l12 ?c12 ?k12 ?a13 ?l13 ?c13 ?k13 ?a14 ?l14 ?c14 ?k14 ?a15 ?l15 ?c15 ?k15 ?a16 ?l16 ?c16 ?k16 ?a17 ?l17 ?c17 ?k17 ?a18 ?l18 ?c18 ?k18 ?n0 ?n1 ?z0 ?z1 ?z2 ?z3 ?z4 ?z5 ?z6 ?z7 ?z8 ?z9 ?z10
    (case a0 => k_is)
    (case l0 => k_is)
    (case c0 => k_is)
    (case k0 => k_is)
    (case a1 => k_is)
    (case l1 => k_is)
    (case c1 => k_is)
    (case k1 => k_is)
    (case a2 => k_is)
    (case l2 => k_is)
    (case c2 => k_is)
    (case k2 => k_is)
    (case a3 => k_is)
    (case l3 => k_is)
    (case c3 => k_is)
    (case k3 => k_is)
    (case a4 => k_is)
    (case l4 => k_is)
    (case c4 => k_is)
    (case k4 => k_is)
    (case a5 => k_is)
    (case l5 => k_is)
    (case c5 => k_is)
    (case k5 => k_is)
    (case a6 => k_is)
    (case l6 => k_is)
    (case c6 => k_is)
    (case k6 => k_is)
    (case a7 => k_is)
    (case l7 => k_is)
    (case c7 => k_is)
    (case k7 => k_is)
    (case a8 => k_is)
    (case l8 => k_is)
    (case c8 => k_is)
    (case k8 => k_is)
    (case a9 => k_is)
    (case l9 => k_is)
    (case c9 => k_is)
    (case k9 => k_is)
    (case a10 => k_is)
    (case l10 => k_is)
    (case c10 => k_is)
    (case k10 => k_is)
    (case a11 => k_is)
    (case l11 => k_is)
    (case c11 => k_is)
    (case k11 => k_is)
    (case a12 => k_is)
    (case l12 => k_is)
    (case c12 => k_is)
    (case k12 => k_is)
    (case a13 => k_is)
    (case l13 => k_is)
    (case c13 => k_is)
    (case k13 => k_is)
    (case a14 => k_is)
    (case l14 => k_is)
    (case c14 => k_is)
    (case k14 => k_is)
    (case a15 => k_is)
    (case l15 => k_is)
    (case c15 => k_is)
    (case k15 => k_is)
    (case a16 => k_is)
    (case l16 => k_is)
    (case c16 => k_is)
    (case k16 => k_is)
    (case a17 => k_is)
    (case l17 => k_is)
    (case c17 => k_is)
    (case k17 => k_is)
    (case a18 => k_is)
    (case l18 => k_is)
    (case c18 => k_is)
    (case k18 => k_is)
    (case n0 => k_is)
    (case n1 => k_is)
    (case z0 => k_is)
    (case z1 => k_is)
    (case z2 => k_is)
    (case z3 => k_is)
    (case z4 => k_is)
    (case z5 => k_is)
    (case z6 => k_is)
    (case z7 => k_is)
    (case z8 => k_is)
    (case z9 => k_is)
    (case z10 => k_is)
