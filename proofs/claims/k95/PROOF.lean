import PyProof.Rows.All
import Wide.All
import OpenK.AllK
import Wide.FinOn
import HandS.ForMost
import HandS.IsInst
import HandS.Wide
import KE.KDictKeyed
import KE.KeyNested
import HandS.SetKeys
import HandS.SortInts
import HandS.WideBits
import HandS.Style
import HandS.Deep
import HandS.TupAny
import HandS.Star
import HandS.SetFor
import HandS.Conv
import HandS.EndBits
import HandS.RevRange
import HandS.More
import HandS.Iter
import HandS.WordsExc
import HandS.ExcOwn
import HandS.ExcIs
import HandS.TryMany
import KE.DataFind
import KE.DataMinMax
import HandS.SortKw
import KE.DataAny
import HandS.Set
import HandS.Strs
import HandS.DictComp
import KE.SortKeyHeap
import KE.SortData
import HandS.TupLe
import PyProof.ZipIter
import HandS.Zip0
import KE.KItemsList
import HandS.Zip
import HandS.TupSets
import PySem.Challenge.RW_leastreasons_k95_whole_prime_rules_of_bo
set_option exponentiation.threshold 2000
set_option Elab.async false
set_option linter.all false
set_option maxRecDepth 100000
set_option maxHeartbeats 8000000
namespace Lk
open PySem PySem.Spec PyProof.Rows L2
structure FnG (P : Program) (w : World) (K : PySem.W.Frag) (mg : Str → Option Value) (base : Heap) (CX : CXT)
    (k : Nat) (f : Addr) (fd : FuncData) (ps : List Str) (sp : Sp) : Prop where
  len : ∀ vs H Q E, sp vs H Q E → vs.length = ps.length
  run : ∀ (A : Around) (outer : List Env) (s : Shared) (H : Hp) (args : Args) (us : List Value) (vs : List V) (Q : VK) (E : XK),
    A.guards = some [] → Room k A → Env0 P w K mg base A outer s H → BindsTo s fd args (ps.zip us) → Vals vs us → sp vs H Q E →
    codeAny (model P w) A (.call (.ref f) args) (CR CX outer P w H s Q E) s
section
variable {P : Program} {w : World} {K : PySem.W.Frag} {mg : Str → Option Value} {base : Heap} {CX : CXT} {k : Nat} {f : Addr}
theorem FnG.ofOk {fd : FuncData} {ps : List Str} {sp : Sp} (F : FnOk P w K mg base CX k f fd ps sp) : FnG P w K mg base CX k f fd ps sp :=
  ⟨F.len, fun A outer s H args us vs Q E _ r e b v h => F.run A outer s H args us vs Q E r e b v h⟩
theorem FnG.mono {fd : FuncData} {ps : List Str} {sp : Sp} {j : Nat} (F : FnG P w K mg base CX j f fd ps sp) (h : j ≤ k) : FnG P w K mg base CX k f fd ps sp :=
  ⟨F.len, fun A outer s H args us vs Q E g r e b v z => F.run A outer s H args us vs Q E g (r.mono h) e b v z⟩
end
section
variable {X : Cx} {CX : CXT} {k : Nat} {f : Addr} {fd : FuncData} {ps : List Str} {sp : Sp} {dvs : List V} {ds : List Value} {E : XK} {x : Str} {p pos : Pos} {e : Expr} {es : List Expr} {t : TA}
end
theorem law_callG {P : Program} {w : World} {K : PySem.W.Frag} {mg mb : Str → Option Value} {k : Nat} {fa a : Addr} {fd : FuncData} {x : Str} {sp : Sp} {s₁ : Shared} {vs : List Value} {ns : List Int}
    (KX : K.In s₁.heap) (hns : s₁.heap.Ns mainGlobals mg) (hb : s₁.heap.Ns builtinsNs mb) (hbb : ∀ x : Str, x ≠ "__name__" → mb x = bootBuiltins x) (hlim : s₁.heap.NoLimit)
    (hg : s₁.gens = #[]) (ha : s₁.heap.get? a = some { cls := .type "list", data := .seq vs.toArray }) (hi : IntsAre vs ns) (hl : ns.length ≤ sizeLine) (hr : Room k callerA)
    (F : ∀ base : Heap, K.In base → base.Ns mainGlobals mg → FnG P w K mg base CX0 k fa fd [x] sp) (bnd : ∀ (s : Shared) (u : Value), BindsTo s fd ⟨[u], []⟩ [(x, u)])
    (hsp : ∀ H : Hp, Only H → SqL K H a (ns.map V.int) → sp [.ref a] H (fun v _ => v = .bl true) fun _ _ _ => False) :
    codeAny (model P w) callerA (.call (.ref fa) ⟨[.ref a], []⟩) (fun r s' => r = .ok (.ret (.bool true)) ∧ OldK s₁.heap s'.heap ∧ s'.os = s₁.os ∧ AllBare s'.gens) s₁ := by
  have rel := vals_ints hi
  have obj : (⟨.type "list", none, .seq vs.toArray 0, #[]⟩ : Obj) = { cls := .type "list", data := .seq vs.toArray } := rfl
  suffices core : ∀ H : Hp, Only H → SqL K H a (ns.map V.int) → HOk P w H s₁.heap → (∀ b, H b ≠ none → b = a ∧ K.lookup a = none) →
      codeAny (model P w) callerA (.call (.ref fa) ⟨[.ref a], []⟩) (fun r s' => r = .ok (.ret (.bool true)) ∧ OldK s₁.heap s'.heap ∧ s'.os = s₁.os ∧ AllBare s'.gens) s₁ by
    cases hk : K.lookup a with
    | some o =>
      have e := KX a o hk
      rw [ha] at e
      cases e
      refine core (fun _ => none) (fun _ => Or.inl rfl) (Or.inr ⟨_, vs.toArray, _, hk, rfl, rfl, rfl, ?_, by simpa using rel⟩) (fun b u z => nomatch z) fun b z => absurd rfl z
      rw [List.size_toArray, hi.length]
      exact hl
    | none =>
      refine core (fun b => if b = a then some (.frz { cls := .type "list", data := .seq vs.toArray } (.lst (ns.map V.int))) else none) ?_ (Or.inl (Or.inr ⟨_, if_pos rfl⟩)) ?_ ?_
      · intro b
        by_cases q : b = a
        · exact Or.inr ⟨_, _, if_pos q⟩
        · exact Or.inl (if_neg q)
      · intro b u z
        by_cases q : b = a
        · subst q
          have z2 := (if_pos rfl).symm.trans z
          cases z2
          exact ⟨ha, by simpa using hl, vs, _, rel, ha⟩
        · exact nomatch (if_neg q).symm.trans z
      · intro b z
        by_cases q : b = a
        · exact ⟨q, hk⟩
        · exact absurd (if_neg q) z
  intro H only seq hok one
  have untr : ∀ {b : Addr} {m : Str → Option Value}, s₁.heap.Ns b m → (hidT s₁.heap H).Ns b m := by
    rintro b m ⟨o, es, ep, e, d, r⟩
    refine ⟨o, es, ep, hidT_get e ?_, d, r⟩
    by_cases q : H b = none
    · exact q
    · obtain ⟨rfl, _⟩ := one b q
      rw [ha] at e
      cases e
      exact absurd d (by simp)
  have inB : K.In (hidT s₁.heap H) := by
    intro b o e
    refine hidT_get (KX b o e) ?_
    by_cases q : H b = none
    · exact q
    · obtain ⟨rfl, z⟩ := one b q
      rw [z] at e
      cases e
  have modu : Mod K mg (hidT s₁.heap H) := ⟨inB, untr hns, ⟨mb, untr hb, hbb⟩, hlim.elim fun mc z => ⟨mc, untr z.1, z.2⟩⟩
  have env : Env0 P w K mg (hidT s₁.heap H) callerA [] s₁ H :=
    ⟨rfl, modu, fun _ _ e => of_hidT e, Nat.le_of_eq (hidT_size _ _), trivial, fun b z => absurd (show b ∈ ([] : List Addr) from z) (by simp), hok, .of_eq hg⟩
  refine codeAny_mono ((F _ inB (untr hns)).run callerA [] s₁ H ⟨[.ref a], []⟩ [.ref a] [.ref a] _ _ rfl hr env (bnd s₁ (.ref a)) (.cons rfl .nil) (hsp H only seq)) ?_
  rintro (e' | fl) s' z
  · exact z.elim
  cases fl with
  | next => exact z.elim
  | brk => exact z.elim
  | cont => exact z.elim
  | ret u =>
    obtain ⟨v, H', os, bare, un, ok', rv, rfl⟩ := z
    obtain rfl : u = Value.bool true := rv
    refine ⟨rfl, OldK.of_keep ?_, os, bare⟩
    intro b o e
    rcases only b with q | ⟨ob, xs, q⟩
    · exact un.keep b o e q (fun z => absurd (show b ∈ ([] : List Addr) from z) (by simp)) (by simp)
    · have q2 := (ok' b _ (un.frzs b ob _ q)).1
      have q1 := (hok b _ q).1
      rw [e] at q1
      cases q1
      exact q2
section
variable {X : Cx}
end
end Lk
namespace Lk
open PySem PySem.Spec PyProof.Rows L2
structure Ok (n w : Nat) (d : PyData) : Prop where
  sh : d.showable = true
  nd : d.hasDict = false
  dp : d.depth ≤ n
  cl : d.canLay0 = true
  lv : d.leavesShort 64 = true
  wt : d.weight ≤ w
namespace Ok
variable {n w n' w' L : Nat} {d : PyData} {ds : List PyData}
theorem mono (h : Ok n w d) (hn : n ≤ n') (hw : w ≤ w') : Ok n' w' d := ⟨h.sh, h.nd, Nat.le_trans h.dp hn, h.cl, h.lv, Nat.le_trans h.wt hw⟩
theorem shaped (h : Ok n w d) (hn : n ≤ 64) : SeqAt.shaped d = true := by
  unfold SeqAt.shaped
  rw [h.cl, decide_eq_true (Nat.le_trans h.dp hn)]
  rfl
theorem fits (h : Ok n w d) (hw : w ≤ 2 ^ 17) : d.shown.length ≤ sizeLine := by
  have a := PyData.shown_le 64 (by decide) d h.lv
  have b : (64 + 2) * d.weight ≤ 66 * 2 ^ 17 := Nat.mul_le_mul_left 66 (Nat.le_trans h.wt hw)
  have c : sizeLine = 2 ^ 24 := rfl
  omega
theorem none : Ok n w .none := ⟨rfl, rfl, Nat.zero_le _, rfl, rfl, Nat.zero_le _⟩
theorem bool (b : Bool) : Ok n w (.bool b) := ⟨rfl, rfl, Nat.zero_le _, rfl, rfl, Nat.zero_le _⟩
end Ok
def okAll (n w : Nat) (ds : List PyData) : Prop := ∀ d ∈ ds, Ok n w d
theorem okAll_facts {n w : Nat} : ∀ {ds : List PyData}, okAll n w ds → PyData.showableAll ds = true ∧ PyData.hasDictAll ds = false ∧ PyData.depthAll ds ≤ n ∧ PyData.canLayAll0 ds = true ∧ PyData.leavesShortAll 64 ds = true ∧ PyData.weightAll ds ≤ ds.length * (w + 1)
  | [], _ => ⟨rfl, rfl, Nat.zero_le _, rfl, rfl, Nat.zero_le _⟩
  | d :: ds, h => by
    have a := h d (List.mem_cons_self ..)
    obtain ⟨b1, b2, b3, b4, b5, b6⟩ := okAll_facts (ds := ds) fun x hx => h x (List.mem_cons_of_mem _ hx)
    refine ⟨?_, ?_, ?_, ?_, ?_, ?_⟩
    · show (d.showable && PyData.showableAll ds) = true
      rw [a.sh, b1]
      rfl
    · show (d.hasDict || PyData.hasDictAll ds) = false
      rw [a.nd, b2]
      rfl
    · show max d.depth (PyData.depthAll ds) ≤ n
      exact Nat.max_le.mpr ⟨a.dp, b3⟩
    · show (d.canLay0 && PyData.canLayAll0 ds) = true
      rw [a.cl, b4]
      rfl
    · show (d.leavesShort 64 && PyData.leavesShortAll 64 ds) = true
      rw [a.lv, b5]
      rfl
    · show d.weight + 1 + PyData.weightAll ds ≤ (ds.length + 1) * (w + 1)
      have := a.wt
      rw [Nat.succ_mul]
      omega
theorem Ok.list {n w L : Nat} {ds : List PyData} (h : okAll n w ds) (hl : ds.length ≤ L) : Ok (n + 1) (L * (w + 1)) (.list ds) := by
  obtain ⟨b1, b2, b3, b4, b5, b6⟩ := okAll_facts h
  refine ⟨b1, b2, ?_, b4, b5, ?_⟩
  · show PyData.depthAll ds + 1 ≤ n + 1
    omega
  · show PyData.weightAll ds ≤ _
    exact Nat.le_trans b6 (Nat.mul_le_mul_right _ hl)
theorem Ok.tuple {n w L : Nat} {ds : List PyData} (h : okAll n w ds) (hl : ds.length ≤ L) : Ok (n + 1) (L * (w + 1)) (.tuple ds) := by
  obtain ⟨b1, b2, b3, b4, b5, b6⟩ := okAll_facts h
  refine ⟨b1, b2, ?_, b4, b5, ?_⟩
  · show PyData.depthAll ds + 1 ≤ n + 1
    omega
  · show PyData.weightAll ds ≤ _
    exact Nat.le_trans b6 (Nat.mul_le_mul_right _ hl)
theorem Ok.int {n w : Nat} {i : Int} (h : i.natAbs < 2 ^ 30) (hw : 30 ≤ w) : Ok n w (.int i) := by
  have l : i.natAbs.log2 < 30 ∨ i.natAbs = 0 := by
    by_cases z : i.natAbs = 0
    · exact .inr z
    · exact .inl ((Nat.log2_lt z).mpr h)
  have l2 : i.natAbs.log2 < 1920 := by
    rcases l with l | l
    · omega
    · rw [l]
      decide
  refine ⟨decide_eq_true l2, rfl, Nat.zero_le _, rfl, ?_, ?_⟩
  · refine decide_eq_true (Nat.le_trans (PyData.shown_int_le (by omega)) (by decide))
  · show (if i == 0 then 0 else i.natAbs.log2 + 1) ≤ w
    split
    · exact Nat.zero_le _
    · rename_i hi
      rcases l with l | l
      · omega
      · exact absurd (by simpa using Int.natAbs_eq_zero.mp l) hi
theorem okAll.nil {n w : Nat} : okAll n w [] := fun _ h => nomatch h
theorem okAll.cons {n w : Nat} {d : PyData} {ds : List PyData} (h : Ok n w d) (t : okAll n w ds) : okAll n w (d :: ds) := fun x hx => by
  rcases List.mem_cons.mp hx with rfl | hx
  · exact h
  · exact t x hx
theorem okAll.append {n w : Nat} {ds es : List PyData} (h : okAll n w ds) (t : okAll n w es) : okAll n w (ds ++ es) := fun x hx => by
  rcases List.mem_append.mp hx with hx | hx
  · exact h x hx
  · exact t x hx
theorem okAll.sub {n w : Nat} {ds es : List PyData} (h : okAll n w ds) (s : ∀ x ∈ es, x ∈ ds) : okAll n w es := fun x hx => h x (s x hx)
theorem okAll.mono {n w n' w' : Nat} {ds : List PyData} (h : okAll n w ds) (hn : n ≤ n') (hw : w ≤ w') : okAll n' w' ds := fun x hx => (h x hx).mono hn hw
theorem okAll.ints {n w : Nat} {ns : List Int} (h : ∀ i ∈ ns, i.natAbs < 2 ^ 30) (hw : 30 ≤ w) : okAll n w (ns.map PyData.int) := fun x hx => by
  obtain ⟨i, hi, rfl⟩ := List.mem_map.mp hx
  exact .int (h i hi) hw
mutual
theorem Dp.same {K : PySem.W.Frag} {H H' : Hp} (f : ∀ a xs, SqL K H a xs → SqL K H' a xs) (g : ∀ a xs, SqT K H a xs → SqT K H' a xs) : ∀ (d : PyData) {v : V}, Dp K H v d → Dp K H' v d
  | .none, _, h => by cases h; exact .non
  | .bool _, _, h => by cases h; exact .bl _
  | .int _, _, h => by cases h; exact .int _
  | .str _, _, h => by cases h; exact .str _
  | .list ds, _, h => by
    cases h with
    | lst hs ha => exact .lst (f _ _ hs) (DpAll.same f g ds ha)
  | .tuple ds, _, h => by
    cases h with
    | tup hs ha => exact .tup (g _ _ hs) (DpAll.same f g ds ha)
  | .dict _, _, h => by cases h
theorem DpAll.same {K : PySem.W.Frag} {H H' : Hp} (f : ∀ a xs, SqL K H a xs → SqL K H' a xs) (g : ∀ a xs, SqT K H a xs → SqT K H' a xs) : ∀ (ds : List PyData) {vs : List V}, DpAll K H vs ds → DpAll K H' vs ds
  | [], _, h => by cases h; exact .nil
  | d :: ds, _, h => by
    cases h with
    | cons h1 h2 => exact .cons (Dp.same f g d h1) (DpAll.same f g ds h2)
end
theorem Same.tup {K : PySem.W.Frag} {H H' : Hp} {a : Addr} {xs : List V} (e : Same H H') (h : SqT K H a xs) : SqT K H' a xs := by
  rcases h with (h | ⟨o, h⟩) | h
  · exact .inl (.inl (e _ _ h))
  · exact .inl (.inr ⟨o, e _ _ h⟩)
  · exact .inr h
theorem Dp.sm {K : PySem.W.Frag} {H H' : Hp} {d : PyData} {v : V} (s : Same H H') (h : Dp K H v d) : Dp K H' v d := Dp.same (fun _ _ => s.seq) (fun _ _ => Same.tup s) d h
theorem DpAll.sm {K : PySem.W.Frag} {H H' : Hp} {ds : List PyData} {vs : List V} (s : Same H H') (h : DpAll K H vs ds) : DpAll K H' vs ds := DpAll.same (fun _ _ => s.seq) (fun _ _ => Same.tup s) ds h
section
variable {K : PySem.W.Frag} {H : Hp}
theorem DpAll.length : ∀ {vs : List V} {ds : List PyData}, DpAll K H vs ds → vs.length = ds.length
  | _, [], h => by cases h; rfl
  | _, d :: ds, h => by
    cases h with
    | cons h1 h2 => rw [List.length_cons, List.length_cons, DpAll.length h2]
theorem DpAll.get : ∀ {vs : List V} {ds : List PyData} {i : Nat} {v : V}, DpAll K H vs ds → vs[i]? = some v → ∃ d, ds[i]? = some d ∧ Dp K H v d
  | _, [], i, v, h, e => by cases h; simp at e
  | _, d :: ds, 0, v, h, e => by
    cases h with
    | cons h1 h2 =>
      cases e
      exact ⟨d, rfl, h1⟩
  | _, d :: ds, i + 1, v, h, e => by
    cases h with
    | cons h1 h2 => exact DpAll.get (i := i) h2 (by simpa using e)
theorem DpAll.ints : ∀ (ns : List Int), DpAll K H (ns.map V.int) (ns.map PyData.int)
  | [] => .nil
  | _ :: ns => .cons (.int _) (DpAll.ints ns)
theorem DpAll.of_ints : ∀ {vs : List V} {ns : List Int}, DpAll K H vs (ns.map PyData.int) → vs = ns.map V.int
  | _, [], h => by cases h; rfl
  | _, n :: ns, h => by
    cases h with
    | cons h1 h2 =>
      cases h1
      rw [DpAll.of_ints h2]
      rfl
theorem DpAll.append : ∀ {vs ws : List V} {ds es : List PyData}, DpAll K H vs ds → DpAll K H ws es → DpAll K H (vs ++ ws) (ds ++ es)
  | _, _, [], _, h, t => by cases h; exact t
  | _, _, d :: ds, _, h, t => by
    cases h with
    | cons h1 h2 => exact .cons h1 (DpAll.append h2 t)
theorem DpAll.take : ∀ (n : Nat) {vs : List V} {ds : List PyData}, DpAll K H vs ds → DpAll K H (vs.take n) (ds.take n)
  | 0, _, _, _ => .nil
  | n + 1, _, [], h => by cases h; exact .nil
  | n + 1, _, d :: ds, h => by
    cases h with
    | cons h1 h2 => exact .cons h1 (DpAll.take n h2)
theorem DpAll.drop : ∀ (n : Nat) {vs : List V} {ds : List PyData}, DpAll K H vs ds → DpAll K H (vs.drop n) (ds.drop n)
  | 0, _, _, h => h
  | n + 1, _, [], h => by cases h; exact .nil
  | n + 1, _, d :: ds, h => by
    cases h with
    | cons h1 h2 => exact DpAll.drop n h2
end
def tyD : PyData → String
  | .none => "NoneType"
  | .bool _ => "bool"
  | .int _ => "int"
  | .str _ => "str"
  | .list _ => "list"
  | .tuple _ => "tuple"
  | .dict _ => "dict"
def isTy (T : String) (d : PyData) : Bool := tyD d == T || (T == "int" && tyD d == "bool")
theorem SqL.ty {K : PySem.W.Frag} {H : Hp} {a : Addr} {xs : List V} (h : SqL K H a xs) : TyX K H (.ref a) (.type "list") := by
  rcases h with (h | ⟨o, h⟩) | ⟨o, its, n, h1, h2, _⟩
  · exact .base (.lst h)
  · exact .base (.frz h)
  · exact .kList h1 h2
theorem SqT.ty {K : PySem.W.Frag} {H : Hp} {a : Addr} {xs : List V} (h : SqT K H a xs) : TyX K H (.ref a) (.type "tuple") := by
  rcases h with (h | ⟨o, h⟩) | ⟨o, its, n, h1, h2, _⟩
  · exact .base (.tup h)
  · exact .fTuple h
  · exact .kTuple h1 h2
theorem Dp.ty {K : PySem.W.Frag} {H : Hp} {v : V} {d : PyData} (h : Dp K H v d) : TyX K H v (.type (tyD d)) := by
  cases h with
  | non => exact .base .non
  | bl b => exact .base (.bl b)
  | int i => exact .base (.int i)
  | str x => exact .base (.str x)
  | lst hs _ => exact SqL.ty hs
  | tup hs _ => exact SqT.ty hs
theorem kit_names : ∀ a ∈ ["NoneType", "bool", "int", "str", "list", "tuple"], ∀ T ∈ ["int", "bool", "list", "tuple", "str"], kitB a T = some (a == T || (T == "int" && a == "bool")) := by decide +kernel
theorem Dp.kit {K : PySem.W.Frag} {H : Hp} {v : V} {d : PyData} (h : Dp K H v d) {T : String} (hT : T ∈ ["int", "bool", "list", "tuple", "str"]) : kitB (tyD d) T = some (isTy T d) := by
  refine kit_names (tyD d) ?_ T hT
  cases h <;> simp [tyD]
section
variable {X : Cx}
theorem call_isiD (T : String) (hT : T ∈ ["int", "bool", "list", "tuple", "str"] := by decide) : CallR X (.builtin "isinstance") (fun xs H Q => ∃ v d, xs = [v, .ty T] ∧ Dp X.K H v d ∧ Q (.bl (isTy T d)) H) := by
  intro pins s σ H xs us Q I r h
  obtain ⟨v, d, rfl, hd, q⟩ := h
  exact call_isi pins s σ H _ us Q I r ⟨v, .ty T, .type (tyD d), .type T, _, rfl, .ty T, Dp.ty hd, kit_ty (Dp.kit hd hT), q⟩
/-- the same within a comprehension, where X.K is K by computation -/
theorem call_isiDK {K : PySem.W.Frag} (T : String) (hK : X.K = K := by rfl) (hT : T ∈ ["int", "bool", "list", "tuple", "str"] := by decide) :
    CallR X (.builtin "isinstance") (fun xs H Q => ∃ v d, xs = [v, .ty T] ∧ Dp K H v d ∧ Q (.bl (isTy T d)) H) := by
  subst hK
  exact call_isiD T hT
end
end Lk
namespace Lk
open PySem PySem.Spec PyProof.Rows L2
section
variable {X : Cx} {CX : CXT} {k : Nat} {f : Addr} {fd : FuncData} {ps ks : List Str} {sp : Sp} {E : XK} {x : Str} {p pos : Pos} {kws : List Keyword} {tk : TA}
  {g : List Value → List Value → List Value} {gV : List V → List V → List V}
end
def g1 {α : Type} : List α → List α → List α
  | [], [a] => [a]
  | _, _ => []
def g21 {α : Type} : List α → List α → List α
  | [], [a, b] => [b, a]
  | _, _ => []
section
variable {K : PySem.W.Frag} {x qual : Str} {st : Stmt} {f : Addr} {fd : FuncData} {n m l : Str}
end
theorem new_of {H : Hp} {o : HO} {Q : V → Hp → Prop} (h : ∀ p H', Same H H' → H p = none → H' p = some o → Q (.ref p) H') : ∀ p, H p = none → Q (.ref p) (upd H p o) := fun p np => h p _ (fun b x e => by
  rw [upd_ne (ne_of_none e np)]
  exact e) np upd_same
theorem eqv_nil (ds : List PyData) : PyData.eqv (.list ds) (.list []) = ds.isEmpty := by
  cases ds <;> rfl
mutual
theorem eqv_rfl : ∀ d : PyData, d.hasDict = false → PyData.eqv d d = true
  | .none, _ => rfl
  | .bool b, _ => by cases b <;> rfl
  | .int i, _ => by
    show (i == i) = true
    exact beq_self_eq_true i
  | .str x, _ => by
    show (x == x) = true
    exact beq_self_eq_true x
  | .list ds, h => eqvAll_rfl ds h
  | .tuple ds, h => eqvAll_rfl ds h
  | .dict _, h => by cases h
theorem eqvAll_rfl : ∀ ds : List PyData, PyData.hasDictAll ds = false → PyData.eqvAll ds ds = true
  | [], _ => rfl
  | d :: ds, h => by
    have h' : (d.hasDict || PyData.hasDictAll ds) = false := h
    rw [Bool.or_eq_false_iff] at h'
    show (PyData.eqv d d && PyData.eqvAll ds ds) = true
    rw [eqv_rfl d h'.1, eqvAll_rfl ds h'.2]
    rfl
end
def New (o : HO) (H : Hp) (Q : V → Hp → Prop) : Prop := ∀ p H', Same H H' → H p = none → H' p = some o → Q (.ref p) H'
section
variable {X : Cx} {es : List Expr} {t : TA} {pos : Pos}
def tLstN (t : TA) : TE := fun σ H Q => t σ H fun xs H1 => xs.length ≤ sizeLine ∧ New (.lst xs) H1 Q
def tTupN (t : TA) : TE := fun σ H Q => t σ H fun xs H1 => xs.length ≤ sizeLine ∧ New (.tup xs) H1 Q
theorem pe_lstN (h : PA X es t) : PE X (.List es pos) (tLstN t) := by
  constructor
  intro pins s σ H Q I hq
  refine wpAny_List_spliced (thn (h.run pos pins s σ H _ I hq) ?_)
  rintro us s1 ⟨xs, H1, I1, r, z, q⟩
  refine ⟨r.length ▸ z, ?_⟩
  have fresh : H1 s1.heap.objs.size = none := I1.hok.fresh (Nat.le_refl _)
  refine ⟨.ref s1.heap.objs.size, upd H1 s1.heap.objs.size (.lst xs), ?_, rfl, new_of q _ fresh⟩
  exact I1.laid (t' := s1.toks) (fun b u e => Heap.get?_push_of_some _ e) (Nat.le_refl _) ⟨z, us, 0, r, Heap.get?_push_size _ rfl⟩
theorem pe_tupN {x1} (h : PA X es t) : PE X (.Tuple es x1 pos) (tTupN t) := by
  constructor
  intro pins s σ H Q I hq
  refine wpAny_Tuple_spliced (thn (h.run pos pins s σ H _ I hq) ?_)
  rintro us s1 ⟨xs, H1, I1, r, z, q⟩
  refine ⟨r.length ▸ z, ?_⟩
  have fresh : H1 s1.heap.objs.size = none := I1.hok.fresh (Nat.le_refl _)
  refine ⟨.ref s1.heap.objs.size, upd H1 s1.heap.objs.size (.tup xs), ?_, rfl, new_of q _ fresh⟩
  exact I1.laid (t' := s1.toks) (fun b u e => Heap.get?_push_of_some _ e) (Nat.le_refl _) ⟨z, us, r, ⟨_, Heap.get?_push_size _ rfl, rfl, _, rfl⟩⟩
theorem call_listN : CallR X (.type "list") (fun xs H Q => ∃ p ys, xs = [.ref p] ∧ (SqL X.K H p ys ∨ SqT X.K H p ys) ∧ New (.lst ys) H Q) := by
  intro pins s σ H xs us Q I r h
  obtain ⟨p, ys, h1, h2, q⟩ := h
  exact call_list_of pins s σ H xs us Q I r ⟨p, ys, h1, h2, new_of q⟩
theorem sl_listN : SlR X (fun x lo hi H Q => ∃ a xs, x = .ref a ∧ SqL X.K H a xs ∧ New (.lst (cutV xs lo hi)) H Q) := by
  intro pins s σ H x v vl vu lo hi sl Q I rx hs pl pu h
  obtain ⟨a, xs, h1, h2, q⟩ := h
  exact sl_list pins s σ H x v vl vu lo hi sl Q I rx hs pl pu ⟨a, xs, h1, h2, new_of q⟩
end
end Lk
namespace DL
open PySem PySem.Spec PyProof.Rows L2 Lk
mutual
def keyN : PyData → Option NestedKey
  | .int i => some (.num i)
  | .tuple ds => (keyNs ds).map NestedKey.tup
  | _ => none
def keyNs : List PyData → Option (List NestedKey)
  | [] => some []
  | d :: ds => (keyN d).bind fun k => (keyNs ds).map fun ks => k :: ks
end
mutual
theorem key_hash : ∀ {d : PyData} {k : NestedKey}, keyN d = some k → ∀ w w' : World, k.hash w = k.hash w'
  | .int i, k, h, w, w' => by
    rw [keyN] at h
    cases h
    rw [NestedKey.hash, NestedKey.hash]
  | .tuple ds, k, h, w, w' => by
    rw [keyN] at h
    obtain ⟨ks, h1, rfl⟩ := Option.map_eq_some_iff.mp h
    rw [NestedKey.hash, NestedKey.hash, keys_hash h1 w w']
  | .none, k, h, _, _ => by simp [keyN] at h
  | .bool _, k, h, _, _ => by simp [keyN] at h
  | .str _, k, h, _, _ => by simp [keyN] at h
  | .list _, k, h, _, _ => by simp [keyN] at h
  | .dict _, k, h, _, _ => by simp [keyN] at h
theorem keys_hash : ∀ {ds : List PyData} {ks : List NestedKey}, keyNs ds = some ks → ∀ w w' : World, NestedKey.hashes w ks = NestedKey.hashes w' ks
  | [], ks, h, w, w' => by
    rw [keyNs] at h
    cases h
    rw [NestedKey.hashes, NestedKey.hashes]
  | d :: ds, ks, h, w, w' => by
    rw [keyNs] at h
    obtain ⟨k, h1, h2⟩ := Option.bind_eq_some_iff.mp h
    obtain ⟨ks', h3, rfl⟩ := Option.map_eq_some_iff.mp h2
    rw [NestedKey.hashes, NestedKey.hashes, key_hash h1 w w', keys_hash h3 w w']
end
/-- the object alone -/
def DkRaw (h : Heap) (d : Addr) (nks : List NestedKey) (as : List Addr) : Prop := ∃ (w : World) (o : Obj) (es : Array DictEntry) (ep : Nat), h.get? d = some o ∧ o.ExactDict ∧ o.data = .dict es ep ∧
  es.toList = (nks.zip as).map fun x => (⟨x.1.hash w, .ref x.2, .bool true⟩ : DictEntry)
def DkO (d : Addr) (nks : List NestedKey) (as : List Addr) : HO := .ext fun h => DkRaw h d nks as ∧ nks.length = as.length ∧ nks.Nodup ∧ nks.length ≤ 1000000 ∧ (d == sysModules) = false
theorem dkRaw_at {h h' : Heap} {d : Addr} {nks : List NestedKey} {as : List Addr} (R : DkRaw h d nks as) (k : ∀ o, h.get? d = some o → h'.get? d = some o) : DkRaw h' d nks as := by
  obtain ⟨w, o, es, ep, ho, r⟩ := R
  exact ⟨w, o, es, ep, k o ho, r⟩
theorem dkO_new {w : World} {P : Program} {H : Hp} {h : Heap} {d : Addr} {nks : List NestedKey} {as : List Addr} (R : DkRaw h d nks as) (hl : nks.length = as.length) (hn : nks.Nodup) (hz : nks.length ≤ 1000000) (hd : (d == sysModules) = false) : ObjOk P w H h d (DkO d nks as) := by
  have ⟨_, o, _, _, ho, _⟩ := R
  exact ⟨⟨R, hl, hn, hz, hd⟩, ⟨o, ho⟩, fun h1 h2 p k => ⟨dkRaw_at p.1 k, p.2⟩⟩
theorem dkO_get {X : Cx} {pins : List (Addr × Obj)} {σ : L2.St} {H : Hp} {s : Shared} {d : Addr} {nks : List NestedKey} {as : List Addr} (I : Inv X pins σ H s) (ha : H d = some (DkO d nks as)) : DkRaw s.heap d nks as ∧ nks.length = as.length ∧ nks.Nodup ∧ nks.length ≤ 1000000 ∧ (d == sysModules) = false := (I.hok d _ ha).1
end DL
namespace DL
open PySem PySem.Spec PyProof.Rows L2 Lk
mutual
inductive Dq (K : PySem.W.Frag) (H : Hp) : V → PyData → Prop
  | non : Dq K H .non .none
  | bl (b : Bool) : Dq K H (.bl b) (.bool b)
  | int (i : Int) : Dq K H (.int i) (.int i)
  | str (x : Str) : Dq K H (.str x) (.str x)
  | lst {a : Addr} {xs : List V} {ds : List PyData} : SqL K H a xs → DqAll K H xs ds → Dq K H (.ref a) (.list ds)
  | tup {a : Addr} {xs : List V} {ds : List PyData} : SqT K H a xs → DqAll K H xs ds → Dq K H (.ref a) (.tuple ds)
inductive DqAll (K : PySem.W.Frag) (H : Hp) : List V → List PyData → Prop
  | nil : DqAll K H [] []
  | cons {v : V} {vs : List V} {d : PyData} {ds : List PyData} : Dq K H v d → DqAll K H vs ds → DqAll K H (v :: vs) (d :: ds)
end
theorem Same.rd {H H' : Hp} (s : Same H H') {a : Addr} {u : HO} (h : Rd H a u) : Rd H' a u := by
  rcases h with h | ⟨o, h⟩
  · exact .inl (s _ _ h)
  · exact .inr ⟨o, s _ _ h⟩
mutual
theorem Dq.sm {K : PySem.W.Frag} {H H' : Hp} {v : V} : ∀ {d : PyData}, Dq K H v d → Same H H' → Dq K H' v d
  | .none, h, _ => by cases h; exact .non
  | .bool _, h, _ => by cases h; exact .bl _
  | .int _, h, _ => by cases h; exact .int _
  | .str _, h, _ => by cases h; exact .str _
  | .list _, h, s => by
    cases h with
    | lst hs ha => exact .lst (s.seq hs) (ha.sm s)
  | .tuple _, h, s => by
    cases h with
    | tup hs ha => exact .tup (Lk.Same.tup s hs) (ha.sm s)
  | .dict _, h, _ => by cases h
theorem DqAll.sm {K : PySem.W.Frag} {H H' : Hp} {vs : List V} : ∀ {ds : List PyData}, DqAll K H vs ds → Same H H' → DqAll K H' vs ds
  | [], h, _ => by cases h; exact .nil
  | _ :: _, h, s => by
    cases h with
    | cons h1 h2 => exact .cons (h1.sm s) (h2.sm s)
end
mutual
theorem Dq.dp {K : PySem.W.Frag} {H : Hp} {v : V} : ∀ {d : PyData}, Dq K H v d → Dp K H v d
  | .none, h => by cases h; exact .non
  | .bool _, h => by cases h; exact .bl _
  | .int _, h => by cases h; exact .int _
  | .str _, h => by cases h; exact .str _
  | .list _, h => by
    cases h with
    | lst hs ha => exact .lst hs ha.dp
  | .tuple _, h => by
    cases h with
    | tup hs ha => exact .tup hs ha.dp
  | .dict _, h => by cases h
theorem DqAll.dp {K : PySem.W.Frag} {H : Hp} {vs : List V} : ∀ {ds : List PyData}, DqAll K H vs ds → DpAll K H vs ds
  | [], h => by cases h; exact .nil
  | _ :: _, h => by
    cases h with
    | cons h1 h2 => exact .cons h1.dp h2.dp
end
section
variable {K : PySem.W.Frag} {H : Hp}
theorem DqAll.length : ∀ {vs : List V} {ds : List PyData}, DqAll K H vs ds → vs.length = ds.length
  | _, [], h => by cases h; rfl
  | _, d :: ds, h => by
    cases h with
    | cons h1 h2 => rw [List.length_cons, List.length_cons, DqAll.length h2]
theorem DqAll.get : ∀ {vs : List V} {ds : List PyData} {i : Nat} {d : PyData}, DqAll K H vs ds → ds[i]? = some d → ∃ v, vs[i]? = some v ∧ Dq K H v d
  | _, [], i, v, h, e => by simp at e
  | _, d :: ds, 0, v, h, e => by
    cases h with
    | cons h1 h2 =>
      cases e
      exact ⟨_, rfl, h1⟩
  | _, d :: ds, i + 1, v, h, e => by
    cases h with
    | cons h1 h2 => exact DqAll.get (i := i) h2 (by simpa using e)
theorem DqAll.append : ∀ {vs ws : List V} {ds es : List PyData}, DqAll K H vs ds → DqAll K H ws es → DqAll K H (vs ++ ws) (ds ++ es)
  | _, _, [], _, h, t => by cases h; exact t
  | _, _, d :: ds, _, h, t => by
    cases h with
    | cons h1 h2 => exact .cons h1 (DqAll.append h2 t)
theorem DqAll.take : ∀ (n : Nat) {vs : List V} {ds : List PyData}, DqAll K H vs ds → DqAll K H (vs.take n) (ds.take n)
  | 0, _, _, _ => .nil
  | n + 1, _, [], h => by cases h; exact .nil
  | n + 1, _, d :: ds, h => by
    cases h with
    | cons h1 h2 => exact .cons h1 (DqAll.take n h2)
theorem DqAll.drop : ∀ (n : Nat) {vs : List V} {ds : List PyData}, DqAll K H vs ds → DqAll K H (vs.drop n) (ds.drop n)
  | 0, _, _, h => h
  | n + 1, _, [], h => by cases h; exact .nil
  | n + 1, _, d :: ds, h => by
    cases h with
    | cons h1 h2 => exact DqAll.drop n h2
theorem DqAll.set {v : V} {d : PyData} (hv : Dq K H v d) : ∀ {vs : List V} {ds : List PyData} (i : Nat), DqAll K H vs ds → DqAll K H (vs.set i v) (ds.set i d)
  | _, _, _, .nil => .nil
  | _, _, 0, .cons _ h2 => .cons hv h2
  | _, _, i + 1, .cons h1 h2 => .cons h1 (DqAll.set hv i h2)
theorem DqAll.dropLast {vs : List V} {ds : List PyData} (h : DqAll K H vs ds) : DqAll K H vs.dropLast ds.dropLast := by
  rw [List.dropLast_eq_take, List.dropLast_eq_take, h.length]
  exact h.take _
theorem DqAll.rep {vs : List V} {ds : List PyData} (h : DqAll K H vs ds) : ∀ n : Nat, DqAll K H (List.replicate n vs).flatten (List.replicate n ds).flatten
  | 0 => .nil
  | n + 1 => by
    rw [List.replicate_succ, List.replicate_succ, List.flatten_cons, List.flatten_cons]
    exact h.append (h.rep n)
theorem DqAll.ints : ∀ (ns : List Int), DqAll K H (ns.map V.int) (ns.map PyData.int)
  | [] => .nil
  | _ :: ns => .cons (.int _) (DqAll.ints ns)
theorem DqAll.of_ints : ∀ {vs : List V} {ns : List Int}, DqAll K H vs (ns.map PyData.int) → vs = ns.map V.int
  | _, [], h => by cases h; rfl
  | _, n :: ns, h => by
    cases h with
    | cons h1 h2 =>
      cases h1
      rw [DqAll.of_ints h2]
      rfl
theorem DqAll.of_bools : ∀ {vs : List V} {ns : List Bool}, DqAll K H vs (ns.map PyData.bool) → vs = ns.map V.bl
  | _, [], h => by cases h; rfl
  | _, n :: ns, h => by
    cases h with
    | cons h1 h2 =>
      cases h1
      rw [DqAll.of_bools h2]
      rfl
end
inductive Cel where
  | un | pl (d : PyData) | ow (ds : List PyData) | io (ds : List PyData) | dk (ks : List PyData)
abbrev En := List Cel
def Cel.own : Cel → Bool
  | .ow _ => true
  | .io _ => true
  | .dk _ => true
  | _ => false
inductive Out (α : Type) where
  | ok (a : α) (r : En) | ex (c : Str) (p : List PyData)
abbrev M (α : Type) := En → Option (Out α)
def M.ret {α : Type} (a : α) : M α := fun r => some (.ok a r)
def M.bind {α β : Type} (m : M α) (k : α → M β) : M β := fun r => match m r with
  | some (.ok a r') => k a r'
  | some (.ex c p) => some (.ex c p)
  | none => none
def M.lift {α : Type} (o : Option α) : M α := fun r => match o with
  | some a => some (.ok a r)
  | none => none
/-- the frame: the heap and the view at the entry, the lists that are handed in and changed -/
structure Fm where
  H0 : Hp
  G0 : Hp
  ios : Nat → Option Addr
abbrev Ow := Nat → Option Addr
structure Rp (K : PySem.W.Frag) (F : Fm) (O : Ow) (G : Hp) (σ : L2.St) (H : Hp) (r : En) : Prop where
  sub : Same G H
  len : σ.length = r.length
  pl : ∀ (i : Nat) (d : PyData), r[i]? = some (Cel.pl d) → ∃ v, σ[i]? = some (some v) ∧ Dq K G v d
  ow : ∀ (i : Nat) (ds : List PyData), r[i]? = some (Cel.ow ds) → ∃ p xs, O i = some p ∧ σ[i]? = some (some (.ref p)) ∧ F.H0 p = none ∧ H p = some (.lst xs) ∧ DqAll K G xs ds
  io : ∀ (i : Nat) (ds : List PyData), r[i]? = some (Cel.io ds) → ∃ p xs, F.ios i = some p ∧ O i = some p ∧ σ[i]? = some (some (.ref p)) ∧ H p = some (.lst xs) ∧ DqAll K G xs ds
  dk : ∀ (i : Nat) (ks : List PyData), r[i]? = some (Cel.dk ks) → ∃ p nks as, σ[i]? = some (some (.ref p)) ∧ G p = some (DkO p nks as) ∧ keyNs ks = some nks ∧ DqAll K G (as.map V.ref) ks
  on : ∀ (i : Nat) (p : Addr), O i = some p → (∃ c, r[i]? = some c ∧ c.own = true) ∧ G p = none ∧ H p ≠ none ∧ (F.H0 p = none ∨ ∃ j, F.ios j = some p)
  inj : ∀ (i j : Nat) (p : Addr), O i = some p → O j = some p → i = j
  old : ∀ c o, F.H0 c = some o → (∀ i, F.ios i ≠ some c) → H c = some o
  nf : ∀ c, H c = none → F.H0 c = none
  g0 : Same F.G0 G
  gn : ∀ c, G c ≠ none → F.G0 c ≠ none ∨ F.H0 c = none
structure Go (O : Ow) (G H G' H' : Hp) : Prop where
  gg : Same G G'
  keep : ∀ c o, H c = some o → (∀ i, O i ≠ some c) → H' c = some o
  gn : ∀ c, G' c ≠ none → G c ≠ none ∨ H c = none
  nf : ∀ c, H' c = none → H c = none
/-- a step that writes nothing that was there -/
structure Ps (G H G' H' : Hp) : Prop where
  gg : Same G G'
  gh : Same G' H'
  hh : Same H H'
  gn : ∀ c, G' c ≠ none → G c ≠ none ∨ H c = none
theorem Go.refl {O : Ow} {G H : Hp} : Go O G H G H := ⟨Same.refl _, fun _ _ e _ => e, fun _ e => .inl e, fun _ e => e⟩
theorem Go.trans {O : Ow} {G H G1 H1 G2 H2 : Hp} (a : Go O G H G1 H1) (b : Go O G1 H1 G2 H2) : Go O G H G2 H2 :=
  ⟨a.gg.trans b.gg, fun c o e n => b.keep c o (a.keep c o e n) n, fun c e => by
    rcases b.gn c e with z | z
    · exact a.gn c z
    · exact .inr (a.nf c z), fun c e => a.nf c (b.nf c e)⟩
theorem Ps.go {O : Ow} {G H G' H' : Hp} (p : Ps G H G' H') : Go O G H G' H' := ⟨p.gg, fun c o e _ => p.hh c o e, p.gn, fun c e => p.hh.free e⟩
theorem Ps.refl {G H : Hp} (s : Same G H) : Ps G H G H := ⟨Same.refl _, s, Same.refl _, fun _ e => .inl e⟩
theorem Ps.trans {G H G1 H1 G2 H2 : Hp} (a : Ps G H G1 H1) (b : Ps G1 H1 G2 H2) : Ps G H G2 H2 :=
  ⟨a.gg.trans b.gg, b.gh, a.hh.trans b.hh, fun c e => by
    rcases b.gn c e with z | z
    · exact a.gn c z
    · exact .inr (a.hh.free z)⟩
theorem Ps.of_same {G H H' : Hp} (s : Same G H) (h : Same H H') : Ps G H G H' := ⟨Same.refl _, s.trans h, h, fun _ e => .inl e⟩
theorem some_ne {H : Hp} {c : Addr} {o : HO} (h : H c = some o) : H c ≠ none := by rw [h]; exact fun z => nomatch z
/-- a new object that is seen from now on -/
theorem same_new {H : Hp} {p : Addr} {o : HO} (h : H p = none) : Same H (upd H p o) := fun b x e => by
  rw [upd_ne (ne_of_none e h)]
  exact e
theorem Ps.new {G H H' : Hp} {p : Addr} {o : HO} (s : Same G H) (h : Same H H') (n : H p = none) (e : H' p = some o) : Ps G H (upd G p o) H' := by
  have gp : G p = none := s.free n
  refine ⟨same_new gp, fun c x q => ?_, h, fun c q => ?_⟩
  · by_cases z : c = p
    · subst z
      rw [upd_same] at q
      cases q
      exact e
    · rw [upd_ne z] at q
      exact h _ _ (s _ _ q)
  · by_cases z : c = p
    · subst z
      exact .inr n
    · rw [upd_ne z] at q
      exact .inl q
section
variable {K : PySem.W.Frag} {F : Fm} {O : Ow} {G G' H H' : Hp} {σ : L2.St} {r : En}
theorem Rp.ps (R : Rp K F O G σ H r) (p : Ps G H G' H') : Rp K F O G' σ H' r where
  sub := p.gh
  len := R.len
  pl := fun i d e => by
    obtain ⟨v, h1, h2⟩ := R.pl i d e
    exact ⟨v, h1, h2.sm p.gg⟩
  ow := fun i ds e => by
    obtain ⟨q, xs, h1, h2, h0, h3, h4⟩ := R.ow i ds e
    exact ⟨q, xs, h1, h2, h0, p.hh _ _ h3, h4.sm p.gg⟩
  io := fun i ds e => by
    obtain ⟨q, xs, h0, h1, h2, h3, h4⟩ := R.io i ds e
    exact ⟨q, xs, h0, h1, h2, p.hh _ _ h3, h4.sm p.gg⟩
  dk := fun i ks e => by
    obtain ⟨q, nks, as, h1, h2, h3, h4⟩ := R.dk i ks e
    exact ⟨q, nks, as, h1, p.gg _ _ h2, h3, h4.sm p.gg⟩
  on := fun i q e => by
    obtain ⟨h1, h2, h3, h4⟩ := R.on i q e
    refine ⟨h1, ?_, ?_, h4⟩
    · cases z : G' q with
      | none => rfl
      | some o =>
        rcases p.gn q (some_ne z) with y | y
        · exact absurd h2 y
        · exact absurd y h3
    · cases z : H q with
      | none => exact absurd z h3
      | some o => exact some_ne (p.hh _ _ z)
  inj := R.inj
  old := fun c o e n => p.hh _ _ (R.old c o e n)
  nf := fun c e => R.nf c (p.hh.free e)
  g0 := R.g0.trans p.gg
  gn := fun c e => by
    rcases p.gn c e with z | z
    · exact R.gn c z
    · exact .inr (R.nf c z)
end
abbrev XE := Str → List PyData → Hp → Prop
abbrev XN : XE := fun _ _ _ => False
/-- the heap at the start, the frame, the view and the heap behind -/
abbrev RR (β α : Type) := Hp → Ow → Fm → Hp → Hp → β → α → Prop
class Anti {β α : Type} (R : RR β α) : Prop where
  anti : ∀ {S S' : Hp} {O : Ow} {F : Fm} {G H : Hp} {b : β} {a : α}, (∀ c, S' c = none → S c = none) → R S' O F G H b a → R S O F G H b a
def rD (K : PySem.W.Frag) : RR V PyData := fun _ _ _ G _ v d => Dq K G v d
instance {K : PySem.W.Frag} : Anti (rD K) := ⟨fun _ h => h⟩
def rA (K : PySem.W.Frag) : RR (List V) (List PyData) := fun _ _ _ G _ vs ds => DqAll K G vs ds
instance {K : PySem.W.Frag} : Anti (rA K) := ⟨fun _ h => h⟩
def rB : RR Bool Bool := fun _ _ _ _ _ b c => b = c
instance : Anti rB := ⟨fun _ h => h⟩
def rF (K : PySem.W.Frag) : RR V (List PyData) := fun S O F G H v ds => ∃ p xs, v = .ref p ∧ S p = none ∧ G p = none ∧ F.H0 p = none ∧ (∀ i, O i ≠ some p) ∧ H p = some (.lst xs) ∧ DqAll K G xs ds
instance {K : PySem.W.Frag} : Anti (rF K) := ⟨fun k ⟨p, xs, h1, h2, h⟩ => ⟨p, xs, h1, k _ h2, h⟩⟩
def Fin {α β : Type} (K : PySem.W.Frag) (E : XE) (R : RR β α) (F : Fm) (O : Ow) (G : Hp) (σ : L2.St) (H : Hp) (Q : β → Hp → Prop) : Out α → Prop
  | .ok a r' => ∀ b G' H', Rp K F O G' σ H' r' → Go O G H G' H' → R H O F G' H' b a → Q b H'
  | .ex c p => ∀ H', (∀ c o, F.H0 c = some o → (∀ i, F.ios i ≠ some c) → H' c = some o) → E c p H'
def tM {α β : Type} (K : PySem.W.Frag) (E : XE) (R : RR β α) (m : M α) : L2.St → Hp → (β → Hp → Prop) → Prop := fun σ H Q =>
  ∃ F O G r out, Rp K F O G σ H r ∧ m r = some out ∧ Fin K E R F O G σ H Q out
section
variable {K : PySem.W.Frag} {E : XE} {F : Fm} {O : Ow} {G G1 H H1 : Hp} {σ : L2.St} {r : En} {α β α1 β1 : Type} {R : RR β α} {R1 : RR β1 α1} {Q : β → Hp → Prop} {Q1 : β1 → Hp → Prop} {out : Out α}
theorem Fin.via [Anti R] (g : Go O G H G1 H1) (f : Fin K E R F O G σ H Q out) : Fin K E R F O G1 σ H1 Q out := by
  cases out with
  | ok a r' => exact fun b G' H' p q z => f b G' H' p (g.trans q) (Anti.anti g.nf z)
  | ex c p => exact f
theorem tM.run [Anti R] {m : M α1} {k : α1 → M α} (P : Rp K F O G σ H r) (f : Fin K E R F O G σ H Q out) (e : m.bind k r = some out)
    (h : ∀ a r1 b G1 H1, Rp K F O G1 σ H1 r1 → Go O G H G1 H1 → R1 H O F G1 H1 b a → k a r1 = some out → Fin K E R F O G1 σ H1 Q out → Q1 b H1) : tM K E R1 m σ H Q1 := by
  cases em : m r with
  | none =>
    rw [M.bind, em] at e
    cases e
  | some o =>
    cases o with
    | ok a r1 =>
      rw [M.bind, em] at e
      exact ⟨F, O, G, r, _, P, em, fun b G1 H1 P1 g1 q => h a r1 b G1 H1 P1 g1 q e (f.via g1)⟩
    | ex c p =>
      rw [M.bind, em] at e
      cases e
      exact ⟨F, O, G, r, _, P, em, f⟩
/-- the last step: by values -/
theorem Fin.ok {a : α} {r' : En} {b : β} {G' H' : Hp} (f : Fin K E R F O G σ H Q (.ok a r')) (p : Ps G H G' H') (P : Rp K F O G σ H r') (q : R H O F G' H' b a) : Q b H' := f b G' H' (P.ps p) p.go q
theorem lift_ok {o : Option α} (h : M.lift o r = some out) : ∃ a, o = some a ∧ out = .ok a r := by
  unfold M.lift at h
  cases o with
  | none => cases h
  | some a => exact ⟨a, rfl, (Option.some.inj h).symm⟩
end
structure DE (K : PySem.W.Frag) (E : XE) (X : Cx) (e : Expr) (m : M PyData) : Prop where
  pe : X.K = K → PE X e (tM K E (rD K) m)
structure DF (K : PySem.W.Frag) (E : XE) (X : Cx) (e : Expr) (m : M (List PyData)) : Prop where
  pe : X.K = K → PE X e (tM K E (rF K) m)
structure DA (K : PySem.W.Frag) (E : XE) (X : Cx) (es : List Expr) (m : M (List PyData)) : Prop where
  pa : X.K = K → PA X es (tM K E (rA K) m)
structure DT (K : PySem.W.Frag) (E : XE) (X : Cx) (e : Expr) (m : M Bool) : Prop where
  pt : X.K = K → PT X e (tM K E rB m)
structure DW (K : PySem.W.Frag) (E : XE) (X : Cx) (e : Expr) (m : M Bool) : Prop where
  pw : X.K = K → PW X e (tM K E rB m)
section
variable {X : Cx} {e : Expr} {es : List Expr}
theorem PE.imp {t t' : TE} (h : PE X e t) (i : ∀ σ H Q, t' σ H Q → t σ H Q) : PE X e t' := ⟨fun pins s σ H Q I q => h.run pins s σ H Q I (i _ _ _ q)⟩
theorem PT.imp {t t' : TT} (h : PT X e t) (i : ∀ σ H Q, t' σ H Q → t σ H Q) : PT X e t' := ⟨fun pins s σ H Q I q => h.run pins s σ H Q I (i _ _ _ q)⟩
theorem PW.imp {t t' : TT} (h : PW X e t) (i : ∀ σ H Q, t' σ H Q → t σ H Q) : PW X e t' := ⟨fun w pins s σ H Q I q => h.run w pins s σ H Q I (i _ _ _ q)⟩
theorem PA.imp {t t' : TA} (h : PA X es t) (i : ∀ σ H Q, t' σ H Q → t σ H Q) : PA X es t' := ⟨fun pos pins s σ H Q I q => h.run pos pins s σ H Q I (i _ _ _ q)⟩
end
def rPure (K : PySem.W.Frag) (g : List PyData → Option PyData) : List V → Hp → VK → Prop := fun vs H Q => ∃ G ds z, Same G H ∧ DqAll K G vs ds ∧ g ds = some z ∧ ∀ v G' H', Ps G H G' H' → Dq K G' v z → Q v H'
def rPure2 (K : PySem.W.Frag) (g : PyData → PyData → Option PyData) : R2 := fun x y H Q => ∃ G d e z, Same G H ∧ Dq K G x d ∧ Dq K G y e ∧ g d e = some z ∧ ∀ v G' H', Ps G H G' H' → Dq K G' v z → Q v H'
/-- a call that lays a list: nobody else knows it -/
def rFresh (K : PySem.W.Frag) (g : List PyData → Option (List PyData)) : List V → Hp → VK → Prop := fun vs H Q => ∃ G ds zs, Same G H ∧ DqAll K G vs ds ∧ g ds = some zs ∧ ∀ p xs G' H', Ps G H G' H' → G' p = none → H p = none → H' p = some (.lst xs) → DqAll K G' xs zs → Q (.ref p) H'
def CallD (K : PySem.W.Frag) (X : Cx) (f : Value) (g : List PyData → Option PyData) : Prop := X.K = K → CallR X f (rPure K g)
def CallF (K : PySem.W.Frag) (X : Cx) (f : Value) (g : List PyData → Option (List PyData)) : Prop := X.K = K → CallR X f (rFresh K g)
def OpD (K : PySem.W.Frag) (X : Cx) (f : Value → Value → Sem Value) (g : PyData → PyData → Option PyData) : Prop := X.K = K → OpR X f (rPure2 K g)
def spD (K : PySem.W.Frag) (g : List PyData → Option PyData) : Sp := fun vs H Q _ => rPure K g vs H Q
def mV (i : Nat) : M PyData := fun r => match r[i]? with
  | some (Cel.pl d) => some (.ok d r)
  | _ => none
section
variable {K : PySem.W.Frag} {E : XE} {X : Cx} {a b e : Expr} {es : List Expr} {ma mb : M PyData} {pos : Pos}
theorem de_v (i : Nat) {x : Str} (hN : X.N[i]? = some x := by rfl) (hv : Vis X.env.scope x := by first | exact Or.inl rfl | exact Or.inr (Or.inl rfl) | exact Or.inr (Or.inr rfl)) (hd : (x == ("__debug__" : Str)) = false := by decide)
    (hcd : (x == ("__classdict__" : Str)) = false := by decide) : DE K E X (.Name x pos) (mV i) := ⟨fun _ => PE.imp (pe_var hN hv hd hcd) fun σ H Q ⟨F, O, G, r, out, P, em, f⟩ => by
  unfold mV at em
  split at em
  · rename_i d hd'
    cases em
    obtain ⟨v, h1, h2⟩ := P.pl i d hd'
    exact ⟨v, h1, f.ok (Ps.refl P.sub) P h2⟩
  · cases em⟩
theorem de_c {v : V} {d : PyData} (h : PE X e (tC v)) (hd : ∀ G, Dq K G v d) : DE K E X e (M.ret d) := ⟨fun _ => PE.imp h fun σ H Q ⟨F, O, G, r, out, P, em, f⟩ => by
  cases em
  exact f.ok (Ps.refl P.sub) P (hd G)⟩
theorem de_int {i : Int} {j} : DE K E X (.Constant (.int i) j pos) (M.ret (.int i)) := de_c pe_int fun _ => .int i
theorem de_bl {b : Bool} {j} : DE K E X (.Constant (.bool b) j pos) (M.ret (.bool b)) := de_c pe_bl fun _ => .bl b
theorem de_non {j} : DE K E X (.Constant .none j pos) (M.ret .none) := de_c pe_non fun _ => .non
theorem de_str {x : Str} {j} : DE K E X (.Constant (.str x) j pos) (M.ret (.str x)) := de_c pe_str fun _ => .str x
/-- a constant of the module -/
theorem de_g {x : Str} {v : V} {u : Value} {d : PyData} (hg : Gl X x) (hm : X.mg x = some u) (r : RelV v u) (hd : ∀ G, Dq K G v d) (hdb : (x == ("__debug__" : Str)) = false := by decide) : DE K E X (.Name x pos) (M.ret d) := de_c (pe_glob hg hm r hdb) hd
theorem da_nil : DA K E X [] (M.ret []) := ⟨fun _ => PA.imp pa_nil fun σ H Q ⟨F, O, G, r, out, P, em, f⟩ => by
  cases em
  exact f.ok (Ps.refl P.sub) P .nil⟩
theorem da_cons {m : M (List PyData)} (ha : DE K E X e ma) (hr : DA K E X es m) (hs : starEach (e :: es) X.env = (false, eval e X.env) :: starEach es X.env := by rfl) :
    DA K E X (e :: es) (ma.bind fun d => m.bind fun ds => M.ret (d :: ds)) := ⟨fun hK => PA.imp (pa_cons (ha.pe hK) (hr.pa hK) hs) fun σ H Q ⟨F, O, G, r, out, P, em, f⟩ => by
  refine tM.run P f em fun d r1 x G1 H1 P1 g1 q1 e1 f1 => ?_
  refine tM.run P1 f1 e1 fun ds r2 xs G2 H2 P2 g2 q2 e2 f2 => ?_
  cases e2
  exact f2.ok (Ps.refl P2.sub) P2 (.cons (q1.sm g2.gg) q2)⟩
theorem de_op {op : Operator} {g : PyData → PyData → Option PyData} (ho : OpD K X (binaryOp op) g) (ha : DE K E X a ma) (hb : DE K E X b mb) :
    DE K E X (.BinOp a op b pos) (ma.bind fun d => mb.bind fun e => M.lift (g d e)) := ⟨fun hK => PE.imp (pe_op (ho hK) (ha.pe hK) (hb.pe hK)) fun σ H Q ⟨F, O, G, r, out, P, em, f⟩ => by
  refine tM.run P f em fun d r1 x G1 H1 P1 g1 q1 e1 f1 => ?_
  refine tM.run P1 f1 e1 fun ds r2 y G2 H2 P2 g2 q2 e2 f2 => ?_
  obtain ⟨z, hz, rfl⟩ := lift_ok e2
  exact ⟨G2, _, _, z, P2.sub, q1.sm g2.gg, q2, hz, fun v G' H' p q => f2.ok p P2 q⟩⟩
theorem de_cmp {op : CmpOp} {g : PyData → PyData → Option PyData} (ho : OpD K X (compareOp op) g) (ha : DE K E X a ma) (hb : DE K E X b mb) (hm : behindInMarks op b = false) :
    DE K E X (.Compare a [op] [b] pos) (ma.bind fun d => mb.bind fun e => M.lift (g d e)) := ⟨fun hK => PE.imp (pe_cmpR (ho hK) (ha.pe hK) (hb.pe hK) hm) fun σ H Q ⟨F, O, G, r, out, P, em, f⟩ => by
  refine tM.run P f em fun d r1 x G1 H1 P1 g1 q1 e1 f1 => ?_
  refine tM.run P1 f1 e1 fun ds r2 y G2 H2 P2 g2 q2 e2 f2 => ?_
  obtain ⟨z, hz, rfl⟩ := lift_ok e2
  exact ⟨G2, _, _, z, P2.sub, q1.sm g2.gg, q2, hz, fun v G' H' p q => f2.ok p P2 q⟩⟩
def asBool : PyData → Option Bool
  | .bool b => some b
  | _ => none
theorem dp_bool {G : Hp} {v : V} {b : Bool} (h : Dq K G v (.bool b)) : v = .bl b := by cases h; rfl
theorem asBool_some {d : PyData} {b : Bool} (h : asBool d = some b) : d = .bool b := by
  cases d <;> first | (cases h; rfl) | cases h
theorem dt_cmp {op : CmpOp} {g : PyData → PyData → Option PyData} (ho : OpD K X (compareOp op) g) (ha : DE K E X a ma) (hb : DE K E X b mb) (hm : behindInMarks op b = false) :
    DT K E X (.Compare a [op] [b] pos) (ma.bind fun d => mb.bind fun e => M.lift ((g d e).bind asBool)) := ⟨fun hK => PT.imp (pt_cmpR (ho hK) (ha.pe hK) (hb.pe hK) hm) fun σ H Q ⟨F, O, G, r, out, P, em, f⟩ => by
  refine tM.run P f em fun d r1 x G1 H1 P1 g1 q1 e1 f1 => ?_
  refine tM.run P1 f1 e1 fun ds r2 y G2 H2 P2 g2 q2 e2 f2 => ?_
  obtain ⟨c, hz, rfl⟩ := lift_ok e2
  obtain ⟨z, h1, h2⟩ := Option.bind_eq_some_iff.mp hz
  cases asBool_some h2
  exact ⟨G2, _, _, _, P2.sub, q1.sm g2.gg, q2, h1, fun v G' H' p q => ⟨c, dp_bool q, f2.ok p P2 rfl⟩⟩⟩
/-- and, or, not -/
def mAnd (m n : M Bool) : M Bool := m.bind fun b => if b then n else M.ret false
def mOr (m n : M Bool) : M Bool := m.bind fun b => if b then M.ret true else n
theorem dw_and1 {m : M Bool} (ha : DT K E X a m) : DW K E X (.BoolOp .And [a] pos) m := ⟨fun hK => pw_and1 (ha.pt hK)⟩
theorem dw_or1 {m : M Bool} (ha : DT K E X a m) : DW K E X (.BoolOp .Or [a] pos) m := ⟨fun hK => pw_or1 (ha.pt hK)⟩
theorem dw_and {m n : M Bool} (ha : DT K E X a m) (hb : DW K E X (.BoolOp .And (b :: es) pos) n) : DW K E X (.BoolOp .And (a :: b :: es) pos) (mAnd m n) :=
  ⟨fun hK => PW.imp (pw_and (ha.pt hK) (hb.pw hK)) fun σ H Q ⟨F, O, G, r, out, P, em, f⟩ => by
  refine tM.run P f em fun d r1 x G1 H1 P1 g1 q1 e1 f1 => ?_
  cases q1
  cases d with
  | true => exact iteT ⟨F, O, G1, r1, _, P1, e1, f1⟩
  | false =>
    cases e1
    exact iteF (f1.ok (Ps.refl P1.sub) P1 rfl)⟩
theorem dw_or {m n : M Bool} (ha : DT K E X a m) (hb : DW K E X (.BoolOp .Or (b :: es) pos) n) : DW K E X (.BoolOp .Or (a :: b :: es) pos) (mOr m n) :=
  ⟨fun hK => PW.imp (pw_or (ha.pt hK) (hb.pw hK)) fun σ H Q ⟨F, O, G, r, out, P, em, f⟩ => by
  refine tM.run P f em fun d r1 x G1 H1 P1 g1 q1 e1 f1 => ?_
  cases q1
  cases d with
  | true =>
    cases e1
    exact iteT (f1.ok (Ps.refl P1.sub) P1 rfl)
  | false => exact iteF ⟨F, O, G1, r1, _, P1, e1, f1⟩⟩
theorem DW.pt {m : M Bool} (h : DW K E X e m) : DT K E X e m := ⟨fun hK => (h.pw hK).pt⟩
theorem dt_not {m : M Bool} (ha : DT K E X a m) : DT K E X (.UnaryOp .Not a pos) (m.bind fun b => M.ret (!b)) := ⟨fun hK => PT.imp (pt_not (ha.pt hK)) fun σ H Q ⟨F, O, G, r, out, P, em, f⟩ => by
  refine tM.run P f em fun d r1 x G1 H1 P1 g1 q1 e1 f1 => ?_
  cases q1
  cases e1
  exact f1.ok (Ps.refl P1.sub) P1 rfl⟩
/-- .. as values -/
def mAndV (m n : M PyData) : M PyData := m.bind fun d => (M.lift (asBool d)).bind fun b => if b then n else M.ret (.bool false)
def mOrV (m n : M PyData) : M PyData := m.bind fun d => (M.lift (asBool d)).bind fun b => if b then M.ret (.bool true) else n
theorem bind_lift_ok {α β : Type} {o : Option α} {k : α → M β} {r : En} {out : Out β} (h : (M.lift o).bind k r = some out) : ∃ a, o = some a ∧ k a r = some out := by
  cases o with
  | none => cases h
  | some a => exact ⟨a, rfl, h⟩
theorem de_one {op} (h : DE K E X a ma) : DE K E X (.BoolOp op [a] pos) ma := ⟨fun hK => pe_one (h.pe hK)⟩
theorem de_and (ha : DE K E X a ma) (hb : DE K E X (.BoolOp .And (b :: es) pos) mb) : DE K E X (.BoolOp .And (a :: b :: es) pos) (mAndV ma mb) :=
  ⟨fun hK => PE.imp (pe_and (ha.pe hK) (hb.pe hK)) fun σ H Q ⟨F, O, G, r, out, P, em, f⟩ => by
  refine tM.run P f em fun d r1 x G1 H1 P1 g1 q1 e1 f1 => ?_
  obtain ⟨c, hc, e2⟩ := bind_lift_ok e1
  cases asBool_some hc
  refine ⟨c, dp_bool q1, ?_⟩
  cases c with
  | true => exact iteT ⟨F, O, G1, r1, _, P1, e2, f1⟩
  | false =>
    cases e2
    exact iteF (f1.ok (Ps.refl P1.sub) P1 (.bl _))⟩
theorem de_not (ha : DE K E X a ma) : DE K E X (.UnaryOp .Not a pos) (ma.bind fun d => (M.lift (asBool d)).bind fun b => M.ret (.bool (!b))) := ⟨fun hK => PE.imp (pe_not (ha.pe hK)) fun σ H Q ⟨F, O, G, r, out, P, em, f⟩ => by
  refine tM.run P f em fun d r1 x G1 H1 P1 g1 q1 e1 f1 => ?_
  obtain ⟨c, hc, e2⟩ := bind_lift_ok e1
  cases asBool_some hc
  cases e2
  exact ⟨c, dp_bool q1, f1.ok (Ps.refl P1.sub) P1 (.bl _)⟩⟩
def mIf {α : Type} (c : M Bool) (m n : M α) : M α := c.bind fun b => if b then m else n
theorem de_if {c : Expr} {mc : M Bool} (hc : DT K E X c mc) (ha : DE K E X a ma) (hb : DE K E X b mb) : DE K E X (.IfExp c a b pos) (mIf mc ma mb) :=
  ⟨fun hK => PE.imp (pe_ifExp (hc.pt hK) (ha.pe hK) (hb.pe hK)) fun σ H Q ⟨F, O, G, r, out, P, em, f⟩ => by
  refine tM.run P f em fun d r1 x G1 H1 P1 g1 q1 e1 f1 => ?_
  cases q1
  cases d with
  | true => exact iteT ⟨F, O, G1, r1, _, P1, e1, f1⟩
  | false => exact iteF ⟨F, O, G1, r1, _, P1, e1, f1⟩⟩
end
end DL
namespace DL
open PySem PySem.Spec PyProof.Rows L2 Lk
def tupM (ds : List PyData) : Option PyData := if ds.length ≤ 1000000 then some (.tuple ds) else none
def lstM (ds : List PyData) : Option (List PyData) := if ds.length ≤ 1000000 then some ds else none
theorem line_le {n : Nat} (h : n ≤ 1000000) : n ≤ sizeLine := by
  have : sizeLine = 2 ^ 24 := rfl
  omega
theorem line_lt {n : Nat} (h : n ≤ 1000000) : n < sizeLine := by
  have : sizeLine = 2 ^ 24 := rfl
  omega
def M.map {α β : Type} (f : α → β) (m : M α) : M β := m.bind fun a => M.ret (f a)
section
variable {K : PySem.W.Frag} {E : XE} {X : Cx} {a b e : Expr} {es : List Expr} {ma mb : M PyData} {m : M (List PyData)} {pos : Pos}
theorem de_tup {x1} (h : DA K E X es m) : DE K E X (.Tuple es x1 pos) (m.bind fun ds => M.lift (tupM ds)) := ⟨fun hK => PE.imp (pe_tupN (h.pa hK)) fun σ H Q ⟨F, O, G, r, out, P, em, f⟩ => by
  refine tM.run P f em fun ds r1 xs G1 H1 P1 g1 q1 e1 f1 => ?_
  obtain ⟨z, hz, rfl⟩ := lift_ok e1
  unfold tupM at hz
  split at hz
  · rename_i hl
    cases hz
    rw [← q1.length] at hl
    exact ⟨line_le hl, fun p H2 s n e2 => f1.ok (Ps.new P1.sub s n e2) P1 (.tup (.inl (.inl upd_same)) (q1.sm (same_new (P1.sub.free n))))⟩
  · cases hz⟩
theorem df_lst (h : DA K E X es m) : DF K E X (.List es pos) (m.bind fun ds => M.lift (lstM ds)) := ⟨fun hK => PE.imp (pe_lstN (h.pa hK)) fun σ H Q ⟨F, O, G, r, out, P, em, f⟩ => by
  refine tM.run P f em fun ds r1 xs G1 H1 P1 g1 q1 e1 f1 => ?_
  obtain ⟨z, hz, rfl⟩ := lift_ok e1
  unfold lstM at hz
  split at hz
  · rename_i hl
    cases hz
    rw [← q1.length] at hl
    refine ⟨line_le hl, fun p H2 s n e2 => f1.ok (Ps.of_same P1.sub s) P1 ⟨p, xs, rfl, n, P1.sub.free n, P1.nf _ n, fun i z => ?_, e2, q1⟩⟩
    exact (P1.on i p z).2.2.1 n
  · cases hz⟩
theorem Rp.see {F : Fm} {O : Ow} {G H : Hp} {σ : L2.St} {r : En} {p : Addr} {xs : List V} (R : Rp K F O G σ H r) (h : H p = some (.lst xs)) (g : G p = none) (h0 : F.H0 p = none) (o : ∀ i, O i ≠ some p) : Rp K F O (upd G p (.lst xs)) σ H r where
  sub := fun c x q => by
    by_cases z : c = p
    · subst z
      rw [upd_same] at q
      cases q
      exact h
    · rw [upd_ne z] at q
      exact R.sub _ _ q
  len := R.len
  pl := fun i d e => by
    obtain ⟨v, h1, h2⟩ := R.pl i d e
    exact ⟨v, h1, h2.sm (same_new g)⟩
  ow := fun i ds e => by
    obtain ⟨q, xs, h1, h2, h0, h3, h4⟩ := R.ow i ds e
    exact ⟨q, xs, h1, h2, h0, h3, h4.sm (same_new g)⟩
  io := fun i ds e => by
    obtain ⟨q, xs, h0, h1, h2, h3, h4⟩ := R.io i ds e
    exact ⟨q, xs, h0, h1, h2, h3, h4.sm (same_new g)⟩
  dk := fun i ks e => by
    obtain ⟨q, nks, as, h1, h2, h3, h4⟩ := R.dk i ks e
    exact ⟨q, nks, as, h1, same_new g _ _ h2, h3, h4.sm (same_new g)⟩
  on := fun i q e => by
    obtain ⟨h1, h2, h3, h4⟩ := R.on i q e
    refine ⟨h1, ?_, h3, h4⟩
    rw [upd_ne fun z => o i (by rw [e, z])]
    exact h2
  inj := R.inj
  old := R.old
  nf := R.nf
  g0 := R.g0.trans (same_new g)
  gn := fun c e => by
    by_cases z : c = p
    · exact .inr (by rw [z]; exact h0)
    · rw [upd_ne z] at e
      exact R.gn c e
/-- a new list, seen from now on -/
theorem de_fr (h : DF K E X e m) : DE K E X e (m.map PyData.list) := ⟨fun hK => PE.imp (h.pe hK) fun σ H Q ⟨F, O, G, r, out, P, em, f⟩ => by
  refine tM.run P f em fun ds r1 v G1 H1 P1 g1 q1 e1 f1 => ?_
  cases e1
  obtain ⟨p, xs, rfl, hs, hg, h0, ho, hp, ha⟩ := q1
  cases em2 : m r with
  | none =>
    rw [M.map, M.bind, em2] at em
    cases em
  | some o =>
    cases o with
    | ex c z =>
      rw [M.map, M.bind, em2] at em
      cases em
    | ok ds' r' =>
      rw [M.map, M.bind, em2] at em
      cases em
      refine f _ _ _ (P1.see hp hg h0 ho) ?_ (.lst (.inl (.inl upd_same)) (ha.sm (same_new hg)))
      refine ⟨g1.gg.trans (same_new hg), g1.keep, fun c e => ?_, g1.nf⟩
      by_cases z : c = p
      · rw [z]
        exact .inr hs
      · rw [upd_ne z] at e
        exact g1.gn c e⟩
theorem de_call {x : Str} {p : Pos} {k : Nat} {f : Addr} {fd : FuncData} {ps : List Str} {g : List PyData → Option PyData} (Fk : FnOk X.prog X.w K X.mg X.base CX0 k f fd ps (spD K g)) (hb : Binds K fd ps []) (hm : X.mg x = some (.ref f)) (hk : PySem.W.keepIn K (.ref f) = true) (hr : Room k X.A) (hg : Gl X x)
    (ha : DA K E X (e :: es) m) (hdb : (x == ("__debug__" : Str)) = false := by decide) (he : starEach (e :: es) X.env = (false, eval e X.env) :: starEach es X.env := by rfl)
    (hpl : (backTo pos (starEach es X.env)).any (·.1) = false := by rfl) : DE K E X (.Call (.Name x p) (e :: es) [] pos) (m.bind fun ds => M.lift (g ds)) := ⟨fun hK => by
  subst hK
  refine PE.imp (pe_call (E := E0) Fk hr hg hm hk hb .nil pass0 (ha.pa rfl) hdb he hpl) fun σ H Q ⟨F, O, G, r, out, P, em, f⟩ => ?_
  refine tM.run P f em fun ds r1 xs G1 H1 P1 g1 q1 e1 f1 => ?_
  obtain ⟨z, hz, rfl⟩ := lift_ok e1
  rw [List.append_nil]
  exact ⟨G1, ds, z, P1.sub, q1, hz, fun v G' H' p q => f1.ok p P1 q⟩⟩
theorem de_callB {x : Str} {p : Pos} {id : String} {g : List PyData → Option PyData} (hc : CallD K X (.builtin id) g) (hg : Gl X x) (hm : X.mg x = none) (hv : bootBuiltins x = some (.builtin id)) (ha : DA K E X (e :: es) m) (hn : x ≠ "__name__" := by decide) (hdb : (x == ("__debug__" : Str)) = false := by decide)
    (he : starEach (e :: es) X.env = (false, eval e X.env) :: starEach es X.env := by rfl) (hpl : (backTo pos (starEach es X.env)).any (·.1) = false := by rfl) : DE K E X (.Call (.Name x p) (e :: es) [] pos) (m.bind fun ds => M.lift (g ds)) := ⟨fun hK => by
  refine PE.imp (pe_callB (hc hK) hg hm hv (ha.pa hK) hn hdb he hpl) fun σ H Q ⟨F, O, G, r, out, P, em, f⟩ => ?_
  refine tM.run P f em fun ds r1 xs G1 H1 P1 g1 q1 e1 f1 => ?_
  obtain ⟨z, hz, rfl⟩ := lift_ok e1
  exact ⟨G1, ds, z, P1.sub, q1, hz, fun v G' H' p q => f1.ok p P1 q⟩⟩
theorem de_callTy {x : Str} {p : Pos} {T : String} {g : List PyData → Option PyData} (hc : CallD K X (.type T) g) (hg : Gl X x) (hm : X.mg x = none) (hv : bootBuiltins x = some (.type T)) (ha : DA K E X (e :: es) m) (hn : x ≠ "__name__" := by decide) (hdb : (x == ("__debug__" : Str)) = false := by decide)
    (he : starEach (e :: es) X.env = (false, eval e X.env) :: starEach es X.env := by rfl) (hpl : (backTo pos (starEach es X.env)).any (·.1) = false := by rfl) : DE K E X (.Call (.Name x p) (e :: es) [] pos) (m.bind fun ds => M.lift (g ds)) := ⟨fun hK => by
  refine PE.imp (pe_callTy (hc hK) hg hm hv (ha.pa hK) hn hdb he hpl) fun σ H Q ⟨F, O, G, r, out, P, em, f⟩ => ?_
  refine tM.run P f em fun ds r1 xs G1 H1 P1 g1 q1 e1 f1 => ?_
  obtain ⟨z, hz, rfl⟩ := lift_ok e1
  exact ⟨G1, ds, z, P1.sub, q1, hz, fun v G' H' p q => f1.ok p P1 q⟩⟩
theorem df_callTy {x : Str} {p : Pos} {T : String} {g : List PyData → Option (List PyData)} (hc : CallF K X (.type T) g) (hg : Gl X x) (hm : X.mg x = none) (hv : bootBuiltins x = some (.type T)) (ha : DA K E X (e :: es) m) (hn : x ≠ "__name__" := by decide) (hdb : (x == ("__debug__" : Str)) = false := by decide)
    (he : starEach (e :: es) X.env = (false, eval e X.env) :: starEach es X.env := by rfl) (hpl : (backTo pos (starEach es X.env)).any (·.1) = false := by rfl) : DF K E X (.Call (.Name x p) (e :: es) [] pos) (m.bind fun ds => M.lift (g ds)) := ⟨fun hK => by
  refine PE.imp (pe_callTy (hc hK) hg hm hv (ha.pa hK) hn hdb he hpl) fun σ H Q ⟨F, O, G, r, out, P, em, f⟩ => ?_
  refine tM.run P f em fun ds r1 xs G1 H1 P1 g1 q1 e1 f1 => ?_
  obtain ⟨z, hz, rfl⟩ := lift_ok e1
  exact ⟨G1, ds, z, P1.sub, q1, hz, fun p ys G' H' ps gp hp e2 q => f1.ok ps P1 ⟨p, ys, rfl, hp, gp, P1.nf _ hp, fun i z => (P1.on i p z).2.2.1 hp, e2, q⟩⟩⟩
/-- isinstance(e, T) -/
theorem de_isi {T : Str} {n : String} {p p2 : Pos} (hT : n ∈ ["int", "bool", "list", "tuple", "str"]) (hg : Gl X "isinstance") (hm : X.mg "isinstance" = none) (hgT : Gl X T) (hmT : X.mg T = none) (hvT : bootBuiltins T = some (.type n)) (ha : DE K E X e ma) (hn : T ≠ "__name__" := by decide) (hdb : (T == ("__debug__" : Str)) = false := by decide)
    (hs1 : starEach [e, .Name T p2] X.env = (false, eval e X.env) :: starEach [.Name T p2] X.env := by rfl) (hs2 : starEach [.Name T p2] X.env = (false, eval (.Name T p2) X.env) :: starEach [] X.env := by rfl) (hpl : (backTo pos (starEach [.Name T p2] X.env)).any (·.1) = false := by rfl) :
    DE K E X (.Call (.Name "isinstance" p) [e, .Name T p2] [] pos) (ma.bind fun d => M.ret (.bool (isTy n d))) := ⟨fun hK => by
  refine PE.imp (pe_callB (call_isiDK (K := K) n hK hT) hg hm (by decide +kernel) (pa_cons (ha.pe hK) (pa_cons (pe_bltn (v := .ty n) hgT hmT hvT rfl hn hdb) pa_nil hs2) hs1) (by decide) (by decide) hs1 hpl) fun σ H Q ⟨F, O, G, r, out, P, em, f⟩ => ?_
  refine tM.run P f em fun d r1 x G1 H1 P1 g1 q1 e1 f1 => ?_
  cases e1
  exact ⟨x, d, rfl, (q1.sm P1.sub).dp, f1.ok (Ps.refl P1.sub) P1 (.bl _)⟩⟩
def IxD (K : PySem.W.Frag) (X : Cx) (g : PyData → PyData → Option PyData) : Prop := X.K = K → IxR X (rPure2 K g)
theorem de_ix {g : PyData → PyData → Option PyData} (hr : IxD K X g) (ha : DE K E X a ma) (hb : DE K E X b mb) (hs : PlainIx b) : DE K E X (.Subscript a b pos) (ma.bind fun d => mb.bind fun e => M.lift (g d e)) := ⟨fun hK => PE.imp (pe_ix (hr hK) (ha.pe hK) (hb.pe hK) hs) fun σ H Q ⟨F, O, G, r, out, P, em, f⟩ => by
  refine tM.run P f em fun d r1 x G1 H1 P1 g1 q1 e1 f1 => ?_
  refine tM.run P1 f1 e1 fun ds r2 y G2 H2 P2 g2 q2 e2 f2 => ?_
  obtain ⟨z, hz, rfl⟩ := lift_ok e2
  exact ⟨G2, _, _, z, P2.sub, q1.sm g2.gg, q2, hz, fun v G' H' p q => f2.ok p P2 q⟩⟩
def ixM : PyData → PyData → Option PyData
  | .list ds, .int i => atI ds i
  | .tuple ds, .int i => atI ds i
  | _, _ => none
theorem atI_dq {G : Hp} {vs : List V} {ds : List PyData} {i : Int} {d : PyData} (h : DqAll K G vs ds) (e : atI ds i = some d) : ∃ v, atI vs i = some v ∧ Dq K G v d := by
  unfold atI at e ⊢
  rw [h.length]
  obtain ⟨j, h1, h2⟩ := Option.bind_eq_some_iff.mp e
  obtain ⟨v, h3, h4⟩ := h.get h2
  exact ⟨v, by rw [h1]; exact h3, h4⟩
theorem ixd : IxD K X ixM := fun hK => by
  subst hK
  intro val sl pins s σ H x y v u Q I rx ry h hps
  obtain ⟨G, d, e, z, sg, hd, he, hz, q⟩ := h
  cases d with
  | list ds =>
    cases e with
    | int i =>
      cases hd with
      | lst hs ha =>
        cases he
        obtain ⟨w, h1, h2⟩ := atI_dq ha hz
        exact ix_list val sl pins s σ H _ _ v u Q I rx ry ⟨_, _, _, w, rfl, rfl, (sg.seq hs), h1, q w G H (Ps.refl sg) h2⟩ hps
    | _ => cases hz
  | tuple ds =>
    cases e with
    | int i =>
      cases hd with
      | tup hs ha =>
        cases he
        obtain ⟨w, h1, h2⟩ := atI_dq ha hz
        exact ix_tup val sl pins s σ H _ _ v u Q I rx ry ⟨_, _, _, w, rfl, rfl, Lk.Same.tup sg hs, h1, q w G H (Ps.refl sg) h2⟩ hps
    | _ => cases hz
  | _ => cases hz
/-- a slice -/
structure DO (K : PySem.W.Frag) (E : XE) (X : Cx) (e : Option Expr) (m : M (Option Int)) : Prop where
  po : X.K = K → PO X e (tM K E (fun _ _ _ _ _ (b c : Option Int) => b = c) m)
instance : Anti (fun _ _ _ _ _ (b c : Option Int) => b = c) := ⟨fun _ h => h⟩
def asInt : PyData → Option Int
  | .int i => some i
  | _ => none
theorem asInt_some {d : PyData} {i : Int} (h : asInt d = some i) : d = .int i := by
  cases d <;> first | (cases h; rfl) | cases h
theorem PO.imp {e : Option Expr} {t t' : TO} (h : PO X e t) (i : ∀ σ H Q, t' σ H Q → t σ H Q) : PO X e t' := ⟨fun pins s σ H Q I q => h.run pins s σ H Q I (i _ _ _ q)⟩
theorem do_none : DO K E X none (M.ret none) := ⟨fun _ => PO.imp po_none fun σ H Q ⟨F, O, G, r, out, P, em, f⟩ => by
  cases em
  exact f.ok (Ps.refl P.sub) P rfl⟩
theorem do_some (ha : DE K E X e ma) : DO K E X (some e) (ma.bind fun d => M.lift ((asInt d).map some)) := ⟨fun hK => PO.imp (po_some (ha.pe hK)) fun σ H Q ⟨F, O, G, r, out, P, em, f⟩ => by
  refine tM.run P f em fun d r1 x G1 H1 P1 g1 q1 e1 f1 => ?_
  obtain ⟨z, hz, rfl⟩ := lift_ok e1
  obtain ⟨i, hi, rfl⟩ := Option.map_eq_some_iff.mp hz
  cases asInt_some hi
  cases q1
  exact ⟨i, rfl, f1.ok (Ps.refl P1.sub) P1 rfl⟩⟩
def cutD (xs : List PyData) (lo hi : Option Int) : List PyData := (xs.drop (HT.sIx xs.length 0 lo)).take (HT.sIx xs.length xs.length hi - HT.sIx xs.length 0 lo)
theorem DqAll.cut {G : Hp} {vs : List V} {ds : List PyData} (h : DqAll K G vs ds) (lo hi : Option Int) : DqAll K G (cutV vs lo hi) (cutD ds lo hi) := by
  unfold cutV cutD
  rw [h.length]
  exact (h.drop _).take _
def asList : PyData → Option (List PyData)
  | .list ds => some ds
  | _ => none
theorem asList_some {d : PyData} {ds : List PyData} (h : asList d = some ds) : d = .list ds := by
  cases d <;> first | (cases h; rfl) | cases h
theorem df_slice {lo hi : Option Expr} {ml mh : M (Option Int)} {p2 : Pos} (ha : DE K E X e ma) (hl : DO K E X lo ml) (hh : DO K E X hi mh) :
    DF K E X (.Subscript e (.Slice lo hi none p2) pos) (ma.bind fun d => ml.bind fun l => mh.bind fun h => M.lift ((asList d).map fun ds => cutD ds l h)) := ⟨fun hK => by
  subst hK
  refine PE.imp (pe_slice sl_listN (ha.pe rfl) (hl.po rfl) (hh.po rfl)) fun σ H Q ⟨F, O, G, r, out, P, em, f⟩ => ?_
  refine tM.run P f em fun d r1 x G1 H1 P1 g1 q1 e1 f1 => ?_
  refine tM.run P1 f1 e1 fun l r2 l' G2 H2 P2 g2 q2 e2 f2 => ?_
  refine tM.run P2 f2 e2 fun h r3 h' G3 H3 P3 g3 q3 e3 f3 => ?_
  cases q2
  cases q3
  obtain ⟨z, hz, rfl⟩ := lift_ok e3
  obtain ⟨ds, hd, rfl⟩ := Option.map_eq_some_iff.mp hz
  cases asList_some hd
  have q1' := (q1.sm g2.gg).sm g3.gg
  cases q1' with
  | lst hs hx => exact ⟨_, _, rfl, (P3.sub.seq hs), fun p H4 s n e4 => f3.ok (Ps.of_same P3.sub s) P3 ⟨p, _, rfl, n, P3.sub.free n, P3.nf _ n, fun i z => (P3.on i p z).2.2.1 n, e4, hx.cut _ _⟩⟩⟩
def asTup : PyData → Option (List PyData)
  | .tuple ds => some ds
  | _ => none
theorem asTup_some {d : PyData} {ds : List PyData} (h : asTup d = some ds) : d = .tuple ds := by
  cases d <;> first | (cases h; rfl) | cases h
end
end DL
namespace DL
open PySem PySem.Spec PyProof.Rows L2 Lk
section
variable {K : PySem.W.Frag} {X : Cx}
theorem Inv.rdl {pins : List (Addr × Obj)} {σ : L2.St} {H : Hp} {s : Shared} {l : Addr} {xs : List V} (I : Inv X pins σ H s) (h : Rd H l (.lst xs)) : xs.length ≤ sizeLine ∧ ∃ (its : List Value) (n : Nat), Vals xs its ∧ xs.length = its.length ∧ s.heap.get? l = some { cls := .type "list", data := .seq its.toArray n } := by
  obtain ⟨z, its, n, r, e⟩ := h.ok I.hok
  exact ⟨z, its, n, r, r.length, e⟩
theorem op_catR : OpR X (binaryOp .Add) (fun x y H Q => ∃ l b xs zs, x = .ref l ∧ y = .ref b ∧ SqL X.K H l xs ∧ SqL X.K H b zs ∧ xs.length + zs.length ≤ sizeLine ∧ New (.lst (xs ++ zs)) H Q) := by
  intro pins s σ H x y v u Q I rx ry h
  obtain ⟨l, b, xs, zs, rfl, rfl, hH, hB, hz, q⟩ := h
  cases rx
  cases ry
  obtain ⟨its, r, ⟨⟨cls, dd, data, sl⟩, n, ho, hc, _, hd⟩, hl⟩ := I.list hH
  obtain ⟨its2, r2, ⟨⟨cls2, dd2, data2, sl2⟩, n2, ho2, hc2, _, hd2⟩, hl2⟩ := I.list hB
  simp only at hc hd hc2 hd2
  subst hc hd hc2 hd2
  have e : its.toArray ++ its2.toArray = (its ++ its2).toArray := by simp
  have l1 := r.length
  have l2 := r2.length
  refine concat_meets ⟨_, ho, rfl⟩ ⟨_, ho2, rfl⟩ noFill_list_add seq_list_add PySem.F.slot_list_add PySem.F.entry_list_add (PySem.F.args_list_add_2 _ _) (list_addW l b its.toArray its2.toArray n n2 dd dd2 sl sl2 (by rw [List.size_toArray, List.size_toArray]; omega)) ⟨ho, ho2, ?_⟩
  rw [e]
  exact ⟨.ref _, _, I.lnew (t' := s.toks) (r.append r2) (by rw [List.length_append]; omega), rfl, new_of q _ I.fresh⟩
theorem op_repR : OpR X (binaryOp .Mult) (fun x y H Q => ∃ l k xs, x = .ref l ∧ y = .int k ∧ Rd H l (.lst xs) ∧ -(2 ^ 63) ≤ k ∧ k < 2 ^ 63 ∧ xs.length * k.toNat ≤ sizeLine ∧ New (.lst (List.replicate k.toNat xs).flatten) H Q) := by
  intro pins s σ H x y v u Q I rx ry h
  obtain ⟨l, k, xs, rfl, rfl, hH, h1, h2, hz, q⟩ := h
  cases rx
  obtain ⟨t, rfl⟩ := ry
  obtain ⟨z, its, n, r, hl, e⟩ := Inv.rdl I hH
  have hlen : its.toArray.size * k.toNat ≤ sizeLine := by rw [List.size_toArray, ← hl]; exact hz
  have hcap : ¬ its.toArray.size * k.toNat > (2 ^ 63 - 1) / 8 := by
    have : (sizeLine : Nat) ≤ (2 ^ 63 - 1) / 8 := by decide
    omega
  have hfit : ¬ (!Builtin.List.listFitsIndex k) = true := by
    rw [fitsIndex_both h1 h2]
    exact Bool.false_ne_true
  have hlong : ¬ Builtin.List.listTooLong (its.toArray.size * k.toNat) = true := by
    rw [notLongL hlen]
    exact Bool.false_ne_true
  have hnew : List.foldl (fun x1 x2 => x1 ++ x2) #[] (List.replicate (if its.toArray.isEmpty = true then 0 else k.toNat) its.toArray) = (List.replicate k.toNat its).flatten.toArray := by
    have f0 : ∀ m : Nat, List.foldl (fun x1 x2 => x1 ++ x2) #[] (List.replicate m its.toArray) = (List.replicate m its).flatten.toArray := fun m => by
      have := foldl_rep its m []
      rw [List.nil_append] at this
      exact this
    rw [f0]
    cases its with
    | nil => simp
    | cons a r' => rw [if_neg (by simp)]
  refine wpAny_binaryOp_repeat_ref (T := "list") (U := "int") (by decide) ⟨_, e, rfl⟩ (fun s' => typeIs_int s' k t) noFill_list_mul F.fills_int_mul F.slot_int_rmul repeat_list F.slot_int_index.lookup
    (call_meets F.slot_int_rmul (typeIs_int s k t) F.entry_int_rmul (F.args_int_rmul_2 _ _) (int___rmul___int_list k t l its.toArray n)
      ⟨e, rfl, ⟨_, e, rfl⟩, call_meets F.slot_list_mul ⟨_, e, rfl⟩ F.entry_list_mul (F.args_list_mul_2 _ _) (AutoListH.list___mul___list_int_3 l its.toArray n k t hfit hcap hlong) ⟨e, ?_⟩⟩)
  rw [hnew]
  exact ⟨.ref _, _, I.lnew (t' := s.toks) (r.rep k.toNat) (by rw [PyProof.Rows.lm_len_rep_flat, Nat.mul_comm]; exact hz), rfl, new_of q _ I.fresh⟩
end
def addM : PyData → PyData → Option PyData
  | .int a, .int b => some (.int (a + b))
  | .int a, .bool b => some (.int (a + b2i b))
  | .str a, .str b => if a.length + b.length ≤ 1000000 then some (.str (a ++ b)) else none
  | .list xs, .list ys => if xs.length + ys.length ≤ 1000000 then some (.list (xs ++ ys)) else none
  | .tuple xs, .tuple ys => if xs.length + ys.length ≤ 1000000 then some (.tuple (xs ++ ys)) else none
  | _, _ => none
def subM : PyData → PyData → Option PyData
  | .int a, .int b => some (.int (a - b))
  | _, _ => none
def mulM : PyData → PyData → Option PyData
  | .int a, .int b => if a.natAbs.log2 + b.natAbs.log2 < 130000000 then some (.int (a * b)) else none
  | _, _ => none
def divM : PyData → PyData → Option PyData
  | .int a, .int b => if 0 < b ∧ b.natAbs.log2 < 9000 then some (.int (a / b)) else none
  | _, _ => none
def modM : PyData → PyData → Option PyData
  | .int a, .int b => if 0 < b then some (.int (a % b)) else none
  | _, _ => none
def powM : PyData → PyData → Option PyData
  | .int a, .int b => if 0 ≤ b ∧ b ≤ 1000 ∧ a.natAbs < 2 ^ 64 then some (.int (a ^ b.toNat)) else none
  | _, _ => none
def eqM (d e : PyData) : Option PyData := if SeqAt.shaped d && SeqAt.shaped e then some (.bool (PyData.eqv d e)) else none
def neM (d e : PyData) : Option PyData := if SeqAt.shaped d && SeqAt.shaped e then some (.bool (!PyData.eqv d e)) else none
def ltM : PyData → PyData → Option PyData
  | .int a, .int b => some (.bool (decide (a < b)))
  | _, _ => none
def leM : PyData → PyData → Option PyData
  | .int a, .int b => some (.bool (decide (a ≤ b)))
  | _, _ => none
def gtM : PyData → PyData → Option PyData
  | .int a, .int b => some (.bool (decide (b < a)))
  | _, _ => none
def geM : PyData → PyData → Option PyData
  | .int a, .int b => some (.bool (decide (b ≤ a)))
  | _, _ => none
def isNone : PyData → Bool
  | .none => true
  | _ => false
def isM (d e : PyData) : Option PyData := if isNone e then some (.bool (isNone d)) else none
def isNotM (d e : PyData) : Option PyData := if isNone e then some (.bool (!isNone d)) else none
def flatD : PyData → Bool
  | .none => true
  | .bool _ => true
  | .int _ => true
  | .str _ => true
  | _ => false
def memD (d : PyData) (ds : List PyData) : Bool := ds.any fun z => PyData.eqv z d
def inM : PyData → PyData → Option PyData
  | d, .list ds => if SeqAt.shaped d && SeqAt.shaped (.list ds) then some (.bool (memD d ds)) else none
  | d, .tuple ds => if flatD d && ds.all flatD then some (.bool (memD d ds)) else if SeqAt.shaped d && SeqAt.shaped (.tuple ds) then some (.bool (memD d ds)) else none
  | _, _ => none
def notInM : PyData → PyData → Option PyData
  | d, .list ds => if SeqAt.shaped d && SeqAt.shaped (.list ds) then some (.bool (!memD d ds)) else none
  | d, .tuple ds => if flatD d && ds.all flatD then some (.bool (!memD d ds)) else if SeqAt.shaped d && SeqAt.shaped (.tuple ds) then some (.bool (!memD d ds)) else none
  | _, _ => none
section
variable {K : PySem.W.Frag} {X : Cx} {G H : Hp}
theorem dq_none {v : V} {d : PyData} (h : Dq K G v d) : decide (v = .non) = isNone d := by
  cases h <;> rfl
theorem opd_add : OpD K X (binaryOp .Add) addM := fun hK => by
  subst hK
  intro pins s σ H x y v u Q I rx ry h
  obtain ⟨G, d, e, z, sg, hd, he, hz, q⟩ := h
  unfold addM at hz
  split at hz
  · cases hz; cases hd; cases he
    exact op_add pins s σ H _ _ v u Q I rx ry ⟨_, _, rfl, rfl, q _ G H (Ps.refl sg) (.int _)⟩
  · cases hz; cases hd; cases he
    exact op_add_ib pins s σ H _ _ v u Q I rx ry ⟨_, _, rfl, rfl, q _ G H (Ps.refl sg) (.int _)⟩
  · split at hz
    · rename_i hl
      cases hz; cases hd; cases he
      exact op_add_str pins s σ H _ _ v u Q I rx ry ⟨_, _, rfl, rfl, line_le hl, q _ G H (Ps.refl sg) (.str _)⟩
    · cases hz
  · split at hz
    · rename_i hl
      cases hz
      cases hd with
      | lst hs ha =>
        cases he with
        | lst hs2 ha2 =>
          refine op_catR pins s σ H _ _ v u Q I rx ry ⟨_, _, _, _, rfl, rfl, sg.seq hs, sg.seq hs2, line_le (by rw [ha.length, ha2.length]; exact hl), fun p H' sm n e' => ?_⟩
          exact q _ _ H' (Ps.new sg sm n e') (.lst (.inl (.inl upd_same)) ((ha.append ha2).sm (same_new (sg.free n))))
    · cases hz
  · split at hz
    · rename_i hl
      cases hz
      cases hd with
      | tup hs ha =>
        cases he with
        | tup hs2 ha2 =>
          refine op_catA pins s σ H _ _ v u Q I rx ry ⟨_, _, _, _, rfl, rfl, Lk.Same.tup sg hs, Lk.Same.tup sg hs2, line_le (by rw [ha.length, ha2.length]; exact hl), fun e0 => ?_, fun _ e0 => ?_, fun _ _ p n => ?_⟩
          · subst e0
            cases ha
            exact q _ _ _ (Ps.refl sg) (.tup hs2 ha2)
          · subst e0
            cases ha2
            rw [List.append_nil] at q
            exact q _ _ _ (Ps.refl sg) (.tup hs ha)
          · exact q _ _ _ (Ps.new sg (same_new n) n upd_same) (.tup (.inl (.inl upd_same)) ((ha.append ha2).sm (same_new (sg.free n))))
    · cases hz
  · cases hz
theorem opd_sub : OpD K X (binaryOp .Sub) subM := fun hK => by
  intro pins s σ H x y v u Q I rx ry h
  obtain ⟨G, d, e, z, sg, hd, he, hz, q⟩ := h
  unfold subM at hz
  split at hz
  · cases hz; cases hd; cases he
    exact op_sub pins s σ H _ _ v u Q I rx ry ⟨_, _, rfl, rfl, q _ G H (Ps.refl sg) (.int _)⟩
  · cases hz
theorem mulB_ok {i j : Int} (h : i.natAbs.log2 + j.natAbs.log2 < 130000000) : IntMulOk i j := by
  have b : ∀ x : Int, Builtin.Int.intBits x ≤ x.natAbs.log2 + 1 := fun x => by
    unfold Builtin.Int.intBits
    split <;> omega
  have h1 := b i
  have h2 := b j
  have e : bitsLine = 134217728 := by decide
  unfold IntMulOk
  intro z
  rw [Bool.and_eq_true] at z
  have z2 := z.2
  unfold Builtin.Int.intTooBig at z2
  have z3 := of_decide_eq_true z2
  rw [e] at z3
  omega
theorem opd_mul : OpD K X (binaryOp .Mult) mulM := fun hK => by
  intro pins s σ H x y v u Q I rx ry h
  obtain ⟨G, d, e, z, sg, hd, he, hz, q⟩ := h
  unfold mulM at hz
  split at hz
  · split at hz
    · rename_i hl
      cases hz; cases hd; cases he
      exact opI (C := fun i j : Int => i.natAbs.log2 + j.natAbs.log2 < 130000000) (g := fun i j => i * j) (fun _ _ _ _ _ _ _ hc q => mul_int q (mulB_ok hc)) pins s σ H _ _ v u Q I rx ry ⟨_, _, rfl, rfl, hl, q _ G H (Ps.refl sg) (.int _)⟩
    · cases hz
  · cases hz
theorem opd_div : OpD K X (binaryOp .FloorDiv) divM := fun hK => by
  intro pins s σ H x y v u Q I rx ry h
  obtain ⟨G, d, e, z, sg, hd, he, hz, q⟩ := h
  unfold divM at hz
  split at hz
  · split at hz
    · rename_i hl
      cases hz; cases hd; cases he
      exact op_fdivW pins s σ H _ _ v u Q I rx ry ⟨_, _, rfl, rfl, hl, q _ G H (Ps.refl sg) (.int _)⟩
    · cases hz
  · cases hz
theorem opd_mod : OpD K X (binaryOp .Mod) modM := fun hK => by
  intro pins s σ H x y v u Q I rx ry h
  obtain ⟨G, d, e, z, sg, hd, he, hz, q⟩ := h
  unfold modM at hz
  split at hz
  · split at hz
    · rename_i hl
      cases hz; cases hd; cases he
      exact op_mod pins s σ H _ _ v u Q I rx ry ⟨_, _, rfl, rfl, hl, q _ G H (Ps.refl sg) (.int _)⟩
    · cases hz
  · cases hz
theorem opd_pow : OpD K X (binaryOp .Pow) powM := fun hK => by
  intro pins s σ H x y v u Q I rx ry h
  obtain ⟨G, d, e, z, sg, hd, he, hz, q⟩ := h
  unfold powM at hz
  split at hz
  · split at hz
    · rename_i hl
      cases hz; cases hd; cases he
      exact op_pow pins s σ H _ _ v u Q I rx ry ⟨_, _, rfl, rfl, ⟨hl.1, by omega, hl.2.2⟩, q _ G H (Ps.refl sg) (.int _)⟩
    · cases hz
  · cases hz
theorem opd_eq {k : Nat} (hr : Room k X.A) : OpD K X (compareOp .Eq) eqM := fun hK => by
  subst hK
  intro pins s σ H x y v u Q I rx ry h
  obtain ⟨G, d, e, z, sg, hd, he, hz, q⟩ := h
  unfold eqM at hz
  split at hz
  · rename_i hs
    rw [Bool.and_eq_true] at hs
    cases hz
    exact op_eqD hr.units pins s σ H _ _ v u Q I rx ry ⟨d, e, (hd.sm sg).dp, (he.sm sg).dp, hs.1, hs.2, q _ G H (Ps.refl sg) (.bl _)⟩
  · cases hz
theorem opd_ne {k : Nat} (hr : Room k X.A) : OpD K X (compareOp .NotEq) neM := fun hK => by
  subst hK
  intro pins s σ H x y v u Q I rx ry h
  obtain ⟨G, d, e, z, sg, hd, he, hz, q⟩ := h
  unfold neM at hz
  split at hz
  · rename_i hs
    rw [Bool.and_eq_true] at hs
    cases hz
    exact op_neD hr.units pins s σ H _ _ v u Q I rx ry ⟨d, e, (hd.sm sg).dp, (he.sm sg).dp, hs.1, hs.2, q _ G H (Ps.refl sg) (.bl _)⟩
  · cases hz
theorem opd_lt : OpD K X (compareOp .Lt) ltM := fun hK => by
  intro pins s σ H x y v u Q I rx ry h
  obtain ⟨G, d, e, z, sg, hd, he, hz, q⟩ := h
  unfold ltM at hz
  split at hz
  · cases hz; cases hd; cases he
    exact op_lt pins s σ H _ _ v u Q I rx ry ⟨_, _, rfl, rfl, q _ G H (Ps.refl sg) (.bl _)⟩
  · cases hz
theorem opd_le : OpD K X (compareOp .LtE) leM := fun hK => by
  intro pins s σ H x y v u Q I rx ry h
  obtain ⟨G, d, e, z, sg, hd, he, hz, q⟩ := h
  unfold leM at hz
  split at hz
  · cases hz; cases hd; cases he
    exact op_le pins s σ H _ _ v u Q I rx ry ⟨_, _, rfl, rfl, q _ G H (Ps.refl sg) (.bl _)⟩
  · cases hz
theorem opd_gt : OpD K X (compareOp .Gt) gtM := fun hK => by
  intro pins s σ H x y v u Q I rx ry h
  obtain ⟨G, d, e, z, sg, hd, he, hz, q⟩ := h
  unfold gtM at hz
  split at hz
  · cases hz; cases hd; cases he
    exact op_gt pins s σ H _ _ v u Q I rx ry ⟨_, _, rfl, rfl, q _ G H (Ps.refl sg) (.bl _)⟩
  · cases hz
theorem opd_ge : OpD K X (compareOp .GtE) geM := fun hK => by
  intro pins s σ H x y v u Q I rx ry h
  obtain ⟨G, d, e, z, sg, hd, he, hz, q⟩ := h
  unfold geM at hz
  split at hz
  · cases hz; cases hd; cases he
    exact op_ge pins s σ H _ _ v u Q I rx ry ⟨_, _, rfl, rfl, q _ G H (Ps.refl sg) (.bl _)⟩
  · cases hz
theorem isNone_some {d : PyData} (h : isNone d = true) : d = .none := by
  cases d <;> first | rfl | cases h
theorem opd_is : OpD K X (compareOp .Is) isM := fun hK => by
  intro pins s σ H x y v u Q I rx ry h
  obtain ⟨G, d, e, z, sg, hd, he, hz, q⟩ := h
  unfold isM at hz
  split at hz
  · rename_i hn
    cases isNone_some hn
    cases hz; cases he
    exact op_isN pins s σ H _ _ v u Q I rx ry ⟨rfl, by rw [dq_none hd]; exact q _ G H (Ps.refl sg) (.bl _)⟩
  · cases hz
theorem opd_isNot : OpD K X (compareOp .IsNot) isNotM := fun hK => by
  intro pins s σ H x y v u Q I rx ry h
  obtain ⟨G, d, e, z, sg, hd, he, hz, q⟩ := h
  unfold isNotM at hz
  split at hz
  · rename_i hn
    cases isNone_some hn
    cases hz; cases he
    exact op_notN pins s σ H _ _ v u Q I rx ry ⟨rfl, by rw [dq_none hd]; exact q _ G H (Ps.refl sg) (.bl _)⟩
  · cases hz
theorem dq_flat {v : V} {d : PyData} (h : Dq K G v d) (f : flatD d = true) : flatV v = true := by
  cases h <;> first | rfl | cases f
theorem dq_flats : ∀ {vs : List V} {ds : List PyData}, DqAll K G vs ds → ds.all flatD = true → vs.all flatV = true
  | _, _, .nil, _ => rfl
  | _, _, .cons h1 h2, f => by
    rw [List.all_cons, Bool.and_eq_true] at f
    rw [List.all_cons, dq_flat h1 f.1, dq_flats h2 f.2]
    rfl
theorem dq_eqV {v w : V} {d e : PyData} (h : Dq K G v d) (h' : Dq K G w e) (f : flatD d = true) (f' : flatD e = true) : eqV v w = PyData.eqv d e := by
  cases h <;> cases h' <;> first | rfl | (cases f) | (cases f') | (simp [eqV, PyData.eqv])
theorem dq_inV {x : V} {d : PyData} (hx : Dq K G x d) (f : flatD d = true) : ∀ {vs : List V} {ds : List PyData}, DqAll K G vs ds → ds.all flatD = true → inV x vs = memD d ds
  | _, _, .nil, _ => rfl
  | _, _, .cons h1 h2, g => by
    rw [List.all_cons, Bool.and_eq_true] at g
    have ih := dq_inV hx f h2 g.2
    unfold inV memD at ih ⊢
    rw [List.any_cons, List.any_cons, ih, dq_eqV h1 hx g.1 f]
def rInDT (K : PySem.W.Frag) (neg : Bool) : R2 := fun x y H Q => ∃ d ds, Dp K H x d ∧ Dp K H y (.tuple ds) ∧ SeqAt.shaped d = true ∧ SeqAt.shaped (.tuple ds) = true ∧ Q (.bl (if neg then !ds.any fun z => PyData.eqv z d else ds.any fun z => PyData.eqv z d)) H
theorem op_inDT (hu : X.A.units + 65 < cLine) : OpR X (compareOp .In) (rInDT X.K false) := by
  intro pins s σ H x y v u Q I rx ry h
  obtain ⟨d, ds, hd, he, sd, se, q⟩ := h
  obtain ⟨as, r1⟩ := Dp.reads I d x v hd rx
  obtain ⟨bs, r2⟩ := Dp.reads I (.tuple ds) y u he ry
  exact SeqAt.in_tuple_reads r2 r1 (SeqAt.canLay_of_shaped se) (SeqAt.canLay_of_shaped sd) (room_in_shaped sd hu) ⟨.bl _, H, I, rfl, q⟩
theorem op_notInDT (hu : X.A.units + 65 < cLine) : OpR X (compareOp .NotIn) (rInDT X.K true) := by
  intro pins s σ H x y v u Q I rx ry h
  obtain ⟨d, ds, hd, he, sd, se, q⟩ := h
  obtain ⟨as, r1⟩ := Dp.reads I d x v hd rx
  obtain ⟨bs, r2⟩ := Dp.reads I (.tuple ds) y u he ry
  exact SeqAt.notIn_tuple_reads r2 r1 (SeqAt.canLay_of_shaped se) (SeqAt.canLay_of_shaped sd) (room_in_shaped sd hu) ⟨.bl _, H, I, rfl, q⟩
theorem opd_in {k : Nat} (hr : Room k X.A) : OpD K X (compareOp .In) inM := fun hK => by
  subst hK
  intro pins s σ H x y v u Q I rx ry h
  obtain ⟨G, d, e, z, sg, hd, he, hz, q⟩ := h
  have hu : X.A.units + 65 < cLine := by have := hr.un; omega
  unfold inM at hz
  split at hz
  · split at hz
    · rename_i hs
      rw [Bool.and_eq_true] at hs
      cases hz
      exact op_inD hu pins s σ H _ _ v u Q I rx ry ⟨_, _, (hd.sm sg).dp, (he.sm sg).dp, hs.1, hs.2, q _ G H (Ps.refl sg) (.bl _)⟩
    · cases hz
  · split at hz
    · rename_i hs
      rw [Bool.and_eq_true] at hs
      cases hz
      cases he with
      | tup ht ha =>
        refine op_in_seq pins s σ H _ _ v u Q I rx ry ⟨_, _, rfl, .inr (Lk.Same.tup sg ht), dq_flat hd hs.1, dq_flats ha hs.2, ?_⟩
        rw [if_neg Bool.false_ne_true, dq_inV hd hs.1 ha hs.2]
        exact q _ G H (Ps.refl sg) (.bl _)
    · split at hz
      · rename_i hs
        rw [Bool.and_eq_true] at hs
        cases hz
        exact op_inDT hu pins s σ H _ _ v u Q I rx ry ⟨_, _, (hd.sm sg).dp, (he.sm sg).dp, hs.1, hs.2, q _ G H (Ps.refl sg) (.bl _)⟩
      · cases hz
  · cases hz
theorem opd_notIn {k : Nat} (hr : Room k X.A) : OpD K X (compareOp .NotIn) notInM := fun hK => by
  subst hK
  intro pins s σ H x y v u Q I rx ry h
  obtain ⟨G, d, e, z, sg, hd, he, hz, q⟩ := h
  have hu : X.A.units + 65 < cLine := by have := hr.un; omega
  unfold notInM at hz
  split at hz
  · split at hz
    · rename_i hs
      rw [Bool.and_eq_true] at hs
      cases hz
      exact op_notInD hu pins s σ H _ _ v u Q I rx ry ⟨_, _, (hd.sm sg).dp, (he.sm sg).dp, hs.1, hs.2, q _ G H (Ps.refl sg) (.bl _)⟩
    · cases hz
  · split at hz
    · rename_i hs
      rw [Bool.and_eq_true] at hs
      cases hz
      cases he with
      | tup ht ha =>
        refine op_notIn_seq pins s σ H _ _ v u Q I rx ry ⟨_, _, rfl, .inr (Lk.Same.tup sg ht), dq_flat hd hs.1, dq_flats ha hs.2, ?_⟩
        rw [if_pos rfl, dq_inV hd hs.1 ha hs.2]
        exact q _ G H (Ps.refl sg) (.bl _)
    · split at hz
      · rename_i hs
        rw [Bool.and_eq_true] at hs
        cases hz
        exact op_notInDT hu pins s σ H _ _ v u Q I rx ry ⟨_, _, (hd.sm sg).dp, (he.sm sg).dp, hs.1, hs.2, q _ G H (Ps.refl sg) (.bl _)⟩
      · cases hz
  · cases hz
end
/-- [a, ..] * k -/
def repM (xs : List PyData) : PyData → Option (List PyData)
  | .int k => if k.natAbs ≤ 1000000 ∧ xs.length * k.toNat ≤ 1000000 then some (List.replicate k.toNat xs).flatten else none
  | _ => none
theorem df_rep {K : PySem.W.Frag} {E : XE} {X : Cx} {a b : Expr} {ml : M (List PyData)} {mb : M PyData} {pos : Pos} (ha : DF K E X a ml) (hb : DE K E X b mb) : DF K E X (.BinOp a .Mult b pos) (ml.bind fun xs => mb.bind fun d => M.lift (repM xs d)) := ⟨fun hK => by
  subst hK
  refine PE.imp (pe_op op_repR (ha.pe rfl) (hb.pe rfl)) fun σ H Q ⟨F, O, G, r, out, P, em, f⟩ => ?_
  refine tM.run P f em fun xs r1 x G1 H1 P1 g1 q1 e1 f1 => ?_
  refine tM.run P1 f1 e1 fun d r2 y G2 H2 P2 g2 q2 e2 f2 => ?_
  obtain ⟨z, hz, rfl⟩ := lift_ok e2
  obtain ⟨p, vs, rfl, hs, hg, h0, ho, hp, hx⟩ := q1
  unfold repM at hz
  split at hz
  · split at hz
    · rename_i hl
      cases hz
      cases q2
      have hx2 := hx.sm g2.gg
      exact ⟨_, _, _, rfl, rfl, .inl (g2.keep _ _ hp ho), by omega, by omega, line_le (by rw [hx.length]; exact hl.2), fun q H' s n e' => f2.ok (Ps.of_same P2.sub s) P2 ⟨q, _, rfl, n, P2.sub.free n, P2.nf _ n, fun i z => (P2.on i q z).2.2.1 n, e', hx2.rep _⟩⟩
    · cases hz
  · cases hz⟩
/-- -a -/
def negM : PyData → Option PyData
  | .int a => some (.int (-a))
  | _ => none
section
variable {K : PySem.W.Frag} {E : XE} {X : Cx} {a b c e : Expr} {es : List Expr} {ma mb mc : M PyData} {pos : Pos}
/-- a < b < c -/
def mChain (f g : PyData → PyData → Option PyData) (ma mb mc : M PyData) : M PyData :=
  ma.bind fun d => mb.bind fun e => (M.lift ((f d e).bind asBool)).bind fun k => if k then mc.bind fun h => M.lift ((g e h).bind fun z => (asBool z).map PyData.bool) else M.ret (.bool false)
theorem de_chain {op op' : CmpOp} {f g : PyData → PyData → Option PyData} (ho : OpD K X (compareOp op) f) (ho' : OpD K X (compareOp op') g) (ha : DE K E X a ma) (hb : DE K E X b mb) (hc : DE K E X c mc)
    (h1 : lastMarks [op, op'] [b, c] = false := by with_unfolding_all rfl) : DE K E X (.Compare a [op, op'] [b, c] pos) (mChain f g ma mb mc) :=
  ⟨fun hK => PE.imp (pe_chain (ho hK) (ho' hK) (ha.pe hK) (hb.pe hK) (hc.pe hK) h1) fun σ H Q ⟨F, O, G, r, out, P, em, ff⟩ => by
  refine tM.run P ff em fun d r1 x G1 H1 P1 g1 q1 e1 f1 => ?_
  refine tM.run P1 f1 e1 fun ds r2 y G2 H2 P2 g2 q2 e2 f2 => ?_
  obtain ⟨k, hz, e3⟩ := bind_lift_ok e2
  obtain ⟨z, h1, h2⟩ := Option.bind_eq_some_iff.mp hz
  cases asBool_some h2
  refine ⟨G2, _, _, _, P2.sub, q1.sm g2.gg, q2, h1, fun v G' H' p q => ⟨k, dp_bool q, ?_⟩⟩
  have P2' := P2.ps p
  have f2' := f2.via (p.go : Go O G2 H2 G' H')
  cases k with
  | true =>
    refine iteT (tM.run P2' f2' e3 fun h r3 w G3 H3 P3 g3 q3 e4 f3 => ?_)
    obtain ⟨o, ho, rfl⟩ := lift_ok e4
    obtain ⟨z', h3, h4⟩ := Option.bind_eq_some_iff.mp ho
    obtain ⟨b', h5, rfl⟩ := Option.map_eq_some_iff.mp h4
    cases asBool_some h5
    exact ⟨G3, _, _, _, P3.sub, (q2.sm p.gg).sm g3.gg, q3, h3, fun v G' H' p q => f3.ok p P3 q⟩
  | false =>
    cases e3
    exact iteF (f2'.ok (Ps.refl P2'.sub) P2' (.bl _))⟩
end
end DL
namespace DL
open PySem PySem.Spec PyProof.Rows L2 Lk
def intsOf : List PyData → Option (List Int)
  | [] => some []
  | .int i :: ds => (intsOf ds).map (i :: ·)
  | _ :: _ => none
def boolsOf : List PyData → Option (List Bool)
  | [] => some []
  | .bool i :: ds => (boolsOf ds).map (i :: ·)
  | _ :: _ => none
theorem intsOf_some : ∀ {ds : List PyData} {ns : List Int}, intsOf ds = some ns → ds = ns.map PyData.int
  | [], _, h => by cases h; rfl
  | .int i :: ds, ns, h => by
    obtain ⟨ms, h1, rfl⟩ := Option.map_eq_some_iff.mp (show (intsOf ds).map (i :: ·) = some ns from h)
    rw [intsOf_some h1]
    rfl
  | .none :: _, _, h | .bool _ :: _, _, h | .str _ :: _, _, h | .list _ :: _, _, h | .tuple _ :: _, _, h | .dict _ :: _, _, h => by cases h
@[simp] theorem intsOf_map : ∀ ns : List Int, intsOf (ns.map PyData.int) = some ns
  | [] => rfl
  | n :: ns => by
    show (intsOf (ns.map PyData.int)).map (n :: ·) = _
    rw [intsOf_map ns]
    rfl
theorem boolsOf_some : ∀ {ds : List PyData} {ns : List Bool}, boolsOf ds = some ns → ds = ns.map PyData.bool
  | [], _, h => by cases h; rfl
  | .bool i :: ds, ns, h => by
    obtain ⟨ms, h1, rfl⟩ := Option.map_eq_some_iff.mp (show (boolsOf ds).map (i :: ·) = some ns from h)
    rw [boolsOf_some h1]
    rfl
  | .none :: _, _, h | .int _ :: _, _, h | .str _ :: _, _, h | .list _ :: _, _, h | .tuple _ :: _, _, h | .dict _ :: _, _, h => by cases h
@[simp] theorem boolsOf_map : ∀ ns : List Bool, boolsOf (ns.map PyData.bool) = some ns
  | [] => rfl
  | n :: ns => by
    show (boolsOf (ns.map PyData.bool)).map (n :: ·) = _
    rw [boolsOf_map ns]
    rfl
def lenM : List PyData → Option PyData
  | [.list ds] => some (.int ds.length)
  | [.tuple ds] => some (.int ds.length)
  | [.str x] => if x.length ≤ 1000000 then some (.int x.length) else none
  | _ => none
def sumM : List PyData → Option PyData
  | [.list ds] => (intsOf ds).map fun ns => .int ns.sum
  | _ => none
def allM : List PyData → Option PyData
  | [.list ds] => (boolsOf ds).map fun bs => .bool (bs.all id)
  | _ => none
def anyM : List PyData → Option PyData
  | [.list ds] => (boolsOf ds).map fun bs => .bool (bs.any id)
  | _ => none
def intM : List PyData → Option PyData
  | [.int a] => some (.int a)
  | [.bool b] => some (.int (if b then 1 else 0))
  | _ => none
def tupleM : List PyData → Option PyData
  | [.list ds] => some (.tuple ds)
  | [.tuple ds] => some (.tuple ds)
  | _ => none
def listM : List PyData → Option (List PyData)
  | [.list ds] => some ds
  | [.tuple ds] => some ds
  | _ => none
section
variable {K : PySem.W.Frag} {X : Cx}
theorem one_of {G : Hp} {vs : List V} {d : PyData} (h : DqAll K G vs [d]) : ∃ v, vs = [v] ∧ Dq K G v d := by
  cases h with
  | cons h1 h2 =>
    cases h2
    exact ⟨_, rfl, h1⟩
theorem lst_ints {G : Hp} {v : V} {ds : List PyData} {ns : List Int} (h : Dq K G v (.list ds)) (e : intsOf ds = some ns) : ∃ p, v = .ref p ∧ SqL K G p (ns.map V.int) := by
  cases h with
  | lst hs ha =>
    rw [intsOf_some e] at ha
    rw [ha.of_ints] at hs
    exact ⟨_, rfl, hs⟩
theorem lst_bools {G : Hp} {v : V} {ds : List PyData} {ns : List Bool} (h : Dq K G v (.list ds)) (e : boolsOf ds = some ns) : ∃ p, v = .ref p ∧ SqL K G p (ns.map V.bl) := by
  cases h with
  | lst hs ha =>
    rw [boolsOf_some e] at ha
    rw [ha.of_bools] at hs
    exact ⟨_, rfl, hs⟩
theorem cd_len : CallD K X (.builtin "len") lenM := fun hK => by
  subst hK
  intro pins s σ H xs us Q I r h
  obtain ⟨G, ds, z, sg, hd, hz, q⟩ := h
  unfold lenM at hz
  split at hz
  · cases hz
    obtain ⟨v, rfl, hv⟩ := one_of hd
    cases hv with
    | lst hs ha => exact call_len_seq pins s σ H _ us Q I r ⟨_, _, rfl, .inl ((sg.seq hs)), by rw [ha.length]; exact q _ G H (Ps.refl sg) (.int _)⟩
  · cases hz
    obtain ⟨v, rfl, hv⟩ := one_of hd
    cases hv with
    | tup hs ha => exact call_len_seq pins s σ H _ us Q I r ⟨_, _, rfl, .inr (Lk.Same.tup sg hs), by rw [ha.length]; exact q _ G H (Ps.refl sg) (.int _)⟩
  · split at hz
    · rename_i hl
      cases hz
      obtain ⟨v, rfl, hv⟩ := one_of hd
      cases hv
      exact call_len_str pins s σ H _ us Q I r ⟨_, rfl, line_le hl, q _ G H (Ps.refl sg) (.int _)⟩
    · cases hz
  · cases hz
theorem cd_sum (hc : X.calm = true) : CallD K X (.builtin "sum") sumM := fun hK => by
  subst hK
  intro pins s σ H xs us Q I r h
  obtain ⟨G, ds, z, sg, hd, hz, q⟩ := h
  unfold sumM at hz
  split at hz
  · obtain ⟨ns, hn, rfl⟩ := Option.map_eq_some_iff.mp hz
    obtain ⟨v, rfl, hv⟩ := one_of hd
    obtain ⟨p, rfl, hp⟩ := lst_ints hv hn
    exact cr_sum hc pins s σ H _ us Q I r ⟨p, ns, rfl, (sg.seq hp), q _ G H (Ps.refl sg) (.int _)⟩
  · cases hz
theorem cd_all (hc : X.calm = true) : CallD K X (.builtin "all") allM := fun hK => by
  subst hK
  intro pins s σ H xs us Q I r h
  obtain ⟨G, ds, z, sg, hd, hz, q⟩ := h
  unfold allM at hz
  split at hz
  · obtain ⟨ns, hn, rfl⟩ := Option.map_eq_some_iff.mp hz
    obtain ⟨v, rfl, hv⟩ := one_of hd
    obtain ⟨p, rfl, hp⟩ := lst_bools hv hn
    exact cr_all hc pins s σ H _ us Q I r ⟨p, ns, rfl, (sg.seq hp), q _ G H (Ps.refl sg) (.bl _)⟩
  · cases hz
theorem cd_any (hc : X.calm = true) : CallD K X (.builtin "any") anyM := fun hK => by
  subst hK
  intro pins s σ H xs us Q I r h
  obtain ⟨G, ds, z, sg, hd, hz, q⟩ := h
  unfold anyM at hz
  split at hz
  · obtain ⟨ns, hn, rfl⟩ := Option.map_eq_some_iff.mp hz
    obtain ⟨v, rfl, hv⟩ := one_of hd
    obtain ⟨p, rfl, hp⟩ := lst_bools hv hn
    exact cr_any hc pins s σ H _ us Q I r ⟨p, ns, rfl, (sg.seq hp), q _ G H (Ps.refl sg) (.bl _)⟩
  · cases hz
theorem cd_int : CallD K X (.type "int") intM := fun hK => by
  intro pins s σ H xs us Q I r h
  obtain ⟨G, ds, z, sg, hd, hz, q⟩ := h
  unfold intM at hz
  split at hz
  · cases hz
    obtain ⟨v, rfl, hv⟩ := one_of hd
    cases hv
    exact call_int1 pins s σ H _ us Q I r (.inl ⟨_, rfl, q _ G H (Ps.refl sg) (.int _)⟩)
  · cases hz
    obtain ⟨v, rfl, hv⟩ := one_of hd
    cases hv
    exact call_int1 pins s σ H _ us Q I r (.inr ⟨_, rfl, q _ G H (Ps.refl sg) (.int _)⟩)
  · cases hz
theorem cd_tuple : CallD K X (.type "tuple") tupleM := fun hK => by
  subst hK
  intro pins s σ H xs us Q I r h
  obtain ⟨G, ds, z, sg, hd, hz, q⟩ := h
  unfold tupleM at hz
  split at hz
  · cases hz
    obtain ⟨v, rfl, hv⟩ := one_of hd
    cases hv with
    | lst hs ha => exact call_tuple_of pins s σ H _ us Q I r ⟨_, _, rfl, .inl ⟨(sg.seq hs), fun p n => q _ _ _ (Ps.new sg (same_new n) n upd_same) (.tup (.inl (.inl upd_same)) (ha.sm (same_new (sg.free n))))⟩⟩
  · cases hz
    obtain ⟨v, rfl, hv⟩ := one_of hd
    cases hv with
    | tup hs ha => exact call_tuple_of pins s σ H _ us Q I r ⟨_, _, rfl, .inr ⟨Lk.Same.tup sg hs, q _ _ _ (Ps.refl sg) (.tup hs ha)⟩⟩
  · cases hz
theorem cf_list : CallF K X (.type "list") listM := fun hK => by
  subst hK
  intro pins s σ H xs us Q I r h
  obtain ⟨G, ds, z, sg, hd, hz, q⟩ := h
  unfold listM at hz
  split at hz
  · cases hz
    obtain ⟨v, rfl, hv⟩ := one_of hd
    cases hv with
    | lst hs ha => exact call_listN pins s σ H _ us Q I r ⟨_, _, rfl, .inl ((sg.seq hs)), fun p H' sm n e => q p _ G H' (Ps.of_same sg sm) (sg.free n) n e ha⟩
  · cases hz
    obtain ⟨v, rfl, hv⟩ := one_of hd
    cases hv with
    | tup hs ha => exact call_listN pins s σ H _ us Q I r ⟨_, _, rfl, .inr (Lk.Same.tup sg hs), fun p H' sm n e => q p _ G H' (Ps.of_same sg sm) (sg.free n) n e ha⟩
  · cases hz
end
def Gives (K : PySem.W.Frag) (J : It) (items : List PyData) (G : Hp) : Prop := ∀ (i : Nat) (H' G1 : Hp), Same G G1 → Same G1 H' →
  (∀ d, items[i]? = some d → J.go i H' ∧ ∀ x H'', J.yld i H' x H'' → ∃ G2, Ps G1 H' G2 H'' ∧ Dq K G2 x d) ∧ (items.length ≤ i → J.stop i H')
def rIt (K : PySem.W.Frag) : RR It (List PyData) := fun _ _ _ G _ J items => Gives K J items G
instance {K : PySem.W.Frag} : Anti (rIt K) := ⟨fun _ h => h⟩
structure DI (K : PySem.W.Frag) (E : XE) (X : Cx) (tg iter : Expr) (m : M (List PyData)) : Prop where
  pi : X.K = K → PI X tg iter (tM K E (rIt K) m)
theorem PI.imp {X : Cx} {tg iter : Expr} {t t' : TI} (h : PI X tg iter t) (i : ∀ σ H Q, t' σ H Q → t σ H Q) : PI X tg iter t' := ⟨fun pins s σ H Q I q => h.run pins s σ H Q I (i _ _ _ q)⟩
def asSeq : PyData → Option (List PyData)
  | .list ds => some ds
  | .tuple ds => some ds
  | _ => none
section
variable {K : PySem.W.Frag} {E : XE} {X : Cx} {tg a b e : Expr} {es : List Expr} {ma mb : M PyData} {m : M (List PyData)} {pos : Pos}
theorem gives_list {G : Hp} {a : Addr} {xs : List V} {ds : List PyData} (hs : SqL K G a xs) (ha : DqAll K G xs ds) : Gives K (Itl K a) ds G := fun i H' G1 s1 s2 => by
  have hq : SqL K H' a xs := s2.seq (s1.seq hs)
  refine ⟨fun d hd => ?_, fun hl => ⟨xs, hq, by rw [ha.length]; exact hl⟩⟩
  obtain ⟨v, h1, h2⟩ := ha.get hd
  refine ⟨⟨xs, v, hq, h1⟩, fun x H'' y => ?_⟩
  obtain ⟨rfl, y⟩ := y
  rw [y xs hq] at h1
  cases h1
  exact ⟨G1, Ps.refl s2, h2.sm s1⟩
theorem gives_tup {G : Hp} {a : Addr} {xs : List V} {ds : List PyData} (hs : SqT K G a xs) (ha : DqAll K G xs ds) : Gives K (Itt K a) ds G := fun i H' G1 s1 s2 => by
  have hq : SqT K H' a xs := Lk.Same.tup s2 (Lk.Same.tup s1 hs)
  refine ⟨fun d hd => ?_, fun hl => ⟨xs, hq, by rw [ha.length]; exact hl⟩⟩
  obtain ⟨v, h1, h2⟩ := ha.get hd
  refine ⟨⟨xs, v, hq, h1⟩, fun x H'' y => ?_⟩
  obtain ⟨rfl, y⟩ := y
  rw [y xs hq] at h1
  cases h1
  exact ⟨G1, Ps.refl s2, h2.sm s1⟩
theorem di_seq (hl : DE K E X e ma) : DI K E X tg e (ma.bind fun d => M.lift (asSeq d)) := ⟨fun hK => by
  subst hK
  refine ⟨fun pins s σ H R I h => ?_⟩
  obtain ⟨F, O, G, r, out, P, em, f⟩ := h
  have q := tM.run (Q1 := fun (x : V) H1 => (∃ a, x = V.ref a ∧ (∃ xs, SqL X.K H1 a xs) ∧ R (Itl X.K a) H1) ∨ ∃ a, x = V.ref a ∧ (∃ xs, SqT X.K H1 a xs) ∧ R (Itt X.K a) H1) (R1 := rD X.K) P f em fun d r1 x G1 H1 P1 g1 q1 e1 f1 => by
    obtain ⟨ds, hz, rfl⟩ := lift_ok e1
    cases d <;> first | cases hz | skip
    · cases q1 with
      | lst hs ha => exact .inl ⟨_, rfl, ⟨_, (P1.sub.seq hs)⟩, f1.ok (Ps.refl P1.sub) P1 (gives_list hs ha)⟩
    · cases q1 with
      | tup hs ha => exact .inr ⟨_, rfl, ⟨_, Lk.Same.tup P1.sub hs⟩, f1.ok (Ps.refl P1.sub) P1 (gives_tup hs ha)⟩
  refine thn ((hl.pe rfl).run pins s σ H _ I q) fun v s1 ⟨x, H1, I1, r1, q1⟩ => ?_
  rcases q1 with ⟨a, e, ⟨xs, hq⟩, q⟩ | ⟨a, e, ⟨xs, hq⟩, q⟩
  · subst e
    cases r1
    obtain ⟨its, rv, p, hz⟩ := I1.list hq
    refine wpAny_pyIter_list p.isList ?_
    refine ⟨s1.heap.objs.size, [s1.heap.objs.size], _, _, H1, rfl, I1.kept (t' := s1.toks) fun b o e => Heap.get?_push_of_some _ e, turn_list a _, ⟨_, Heap.get?_push_size _ rfl, rfl, rfl⟩, fun b hb => ?_, q⟩
    have e : b = s1.heap.objs.size := by simpa using hb
    subst e
    exact I1.fpOk (Nat.le_refl _) (I1.hok.fresh (Nat.le_refl _))
  · subst e
    cases r1
    obtain ⟨its, rv, p, hz⟩ := I1.tuple hq
    refine wpAny_pyIter_tuple (show s1.heap.IsTuple a its.toArray from p) ?_
    refine ⟨s1.heap.objs.size, [s1.heap.objs.size], _, _, H1, rfl, I1.kept (t' := s1.toks) fun b o e => Heap.get?_push_of_some _ e, turn_tuple a _, ⟨_, Heap.get?_push_size _ rfl, rfl, rfl⟩, fun b hb => ?_, q⟩
    have e : b = s1.heap.objs.size := by simpa using hb
    subst e
    exact I1.fpOk (Nat.le_refl _) (I1.hok.fresh (Nat.le_refl _))⟩
def rngL (lo : Int) (n : Nat) : List PyData := (List.range n).map fun i => .int (lo + (i : Nat))
def rngM : List PyData → Option (List PyData)
  | [.int j] => if j.natAbs ≤ 1000000 then some (rngL 0 j.toNat) else none
  | [.int i, .int j] => if i.natAbs ≤ 1000000 ∧ j.natAbs ≤ 1000000 then some (rngL i (j - i).toNat) else none
  | _ => none
theorem rngL_at {lo : Int} {n i : Nat} {d : PyData} (h : (rngL lo n)[i]? = some d) : i < n ∧ d = .int (lo + (i : Nat)) := by
  unfold rngL at h
  rw [List.getElem?_map] at h
  obtain ⟨k, h1, rfl⟩ := Option.map_eq_some_iff.mp h
  obtain ⟨h2, h3⟩ := List.getElem?_eq_some_iff.mp h1
  rw [List.length_range] at h2
  rw [List.getElem_range] at h3
  exact ⟨h2, by rw [h3]⟩
theorem gives_range {G : Hp} {lo : Int} {n : Nat} : Gives K (Itr lo n) (rngL lo n) G := fun i H' G1 s1 s2 => by
  refine ⟨fun d hd => ?_, fun hl => ?_⟩
  · obtain ⟨h1, rfl⟩ := rngL_at hd
    refine ⟨h1, fun x H'' y => ?_⟩
    obtain ⟨rfl, rfl⟩ := y
    exact ⟨G1, Ps.refl s2, .int _⟩
  · rw [rngL, List.length_map, List.length_range] at hl
    exact hl
theorem di_range1 {p : Pos} (hg : Gl X "range") (hm : X.mg "range" = none) (ha : DA K E X [a] m) (hs : starEach [a] X.env = [(false, eval a X.env)] := by rfl) : DI K E X tg (.Call (.Name "range" p) [a] [] pos) (m.bind fun ds => M.lift (if ds.length = 1 then rngM ds else none)) :=
  ⟨fun hK => PI.imp (pi_range1 hg hm (ha.pa hK) hs) fun σ H Q ⟨F, O, G, r, out, P, em, f⟩ => by
  refine tM.run P f em fun ds r1 xs G1 H1 P1 g1 q1 e1 f1 => ?_
  obtain ⟨z, hz, rfl⟩ := lift_ok e1
  split at hz
  · unfold rngM at hz
    split at hz
    · split at hz
      · rename_i hl
        cases hz
        obtain ⟨v, rfl, hv⟩ := one_of q1
        cases hv
        exact ⟨_, rfl, by omega, by omega, f1.ok (Ps.refl P1.sub) P1 gives_range⟩
      · cases hz
    · rename_i h2
      cases h2
    · cases hz
  · cases hz⟩
end
end DL
namespace DL
open PySem PySem.Spec PyProof.Rows L2 Lk
section
variable {K : PySem.W.Frag} {F : Fm} {O : Ow} {G G' H H' : Hp} {σ : L2.St} {r : En}
/-- slot i gets the cell c, the value v; it is no list of our own -/
theorem Rp.put (R : Rp K F O G σ H r) {i : Nat} (o : O i = none) {v : Option V} {c : Cel} (hc : c = .un ∨ ∃ d x, c = .pl d ∧ v = some x ∧ Dq K G x d) : Rp K F O G (σ.set i v) H (r.set i c) := by
  have co : ∀ (j : Nat) (ds : List PyData), (r.set i c)[j]? = some (Cel.ow ds) ∨ (r.set i c)[j]? = some (Cel.io ds) → j ≠ i := fun j ds e z => by
    subst z
    have nc : ∀ ds, c ≠ .ow ds ∧ c ≠ .io ds := fun ds => by
      rcases hc with rfl | ⟨d, x, rfl, _⟩
      · exact ⟨fun z => Cel.noConfusion z, fun z => Cel.noConfusion z⟩
      · exact ⟨fun z => Cel.noConfusion z, fun z => Cel.noConfusion z⟩
    rw [List.getElem?_set] at e
    simp only [if_true] at e
    split at e
    · rcases e with e | e
      · exact (nc ds).1 (Option.some.inj e)
      · exact (nc ds).2 (Option.some.inj e)
    · rcases e with e | e <;> cases e
  refine ⟨R.sub, by rw [List.length_set, List.length_set]; exact R.len, fun j d e => ?_, fun j ds e => ?_, fun j ds e => ?_, fun j ks e => ?_, fun j p e => ?_, R.inj, R.old, R.nf, R.g0, R.gn⟩
  · by_cases z : i = j
    · subst z
      have li : i < r.length := by
        have := (List.getElem?_eq_some_iff.mp e).1
        rw [List.length_set] at this
        exact this
      rw [List.getElem?_set_self li] at e
      cases e
      rcases hc with h | ⟨d', x, h, rfl, hd⟩
      · cases h
      · cases h
        exact ⟨x, by rw [List.getElem?_set_self (by rw [R.len]; exact li)], hd⟩
    · rw [List.getElem?_set_ne z] at e ⊢
      exact R.pl j d e
  · have z := co j ds (.inl e)
    rw [List.getElem?_set_ne (Ne.symm z)] at e ⊢
    exact R.ow j ds e
  · have z := co j ds (.inr e)
    rw [List.getElem?_set_ne (Ne.symm z)] at e ⊢
    exact R.io j ds e
  · have z : i ≠ j := fun z => by
      subst z
      have li := (List.getElem?_eq_some_iff.mp e).1
      rw [List.length_set] at li
      rw [List.getElem?_set_self li] at e
      cases e
      rcases hc with h | ⟨_, _, h, _⟩ <;> cases h
    rw [List.getElem?_set_ne z] at e ⊢
    exact R.dk j ks e
  · obtain ⟨⟨c', h1, h2⟩, h3⟩ := R.on j p e
    have z : i ≠ j := fun z => by rw [← z, o] at e; cases e
    exact ⟨⟨c', by rw [List.getElem?_set_ne z]; exact h1, h2⟩, h3⟩
theorem Rp.forget (R : Rp K F O G (σ.set i none) H r) (o : O i = none) : Rp K F O G σ H (r.set i .un) := by
  have P := R.put (i := i) o (v := none) (c := .un) (.inl rfl)
  rw [List.set_set] at P
  refine ⟨P.sub, by have := P.len; rw [List.length_set] at this; exact this, fun j d e => ?_, fun j ds e => ?_, fun j ds e => ?_, fun j ks e => ?_, P.on, P.inj, P.old, P.nf, P.g0, P.gn⟩
  · have z : i ≠ j := fun z => by
      subst z
      have li := (List.getElem?_eq_some_iff.mp e).1
      rw [List.length_set] at li
      rw [List.getElem?_set_self li] at e
      cases e
    have := P.pl j d e
    rw [List.getElem?_set_ne z] at this
    exact this
  · have z : i ≠ j := fun z => by
      subst z
      have li := (List.getElem?_eq_some_iff.mp e).1
      rw [List.length_set] at li
      rw [List.getElem?_set_self li] at e
      cases e
    have := P.ow j ds e
    rw [List.getElem?_set_ne z] at this
    exact this
  · have z : i ≠ j := fun z => by
      subst z
      have li := (List.getElem?_eq_some_iff.mp e).1
      rw [List.length_set] at li
      rw [List.getElem?_set_self li] at e
      cases e
    have := P.io j ds e
    rw [List.getElem?_set_ne z] at this
    exact this
  · have z : i ≠ j := fun z => by
      subst z
      have li := (List.getElem?_eq_some_iff.mp e).1
      rw [List.length_set] at li
      rw [List.getElem?_set_self li] at e
      cases e
    have := P.dk j ks e
    rw [List.getElem?_set_ne z] at this
    exact this
/-- slot i is given a cell that its value bears -/
theorem Rp.tell (R : Rp K F O G σ H r) (o : O i = none) {c : Cel} (hc : c = .un ∨ ∃ d x, c = .pl d ∧ σ[i]? = some (some x) ∧ Dq K G x d) : Rp K F O G σ H (r.set i c) := by
  rcases hc with rfl | ⟨d, x, rfl, hx, hd⟩
  · have P := R.put o (v := none) (c := .un) (.inl rfl)
    have Q := Rp.forget P o
    rw [List.set_set] at Q
    exact Q
  · have P := R.put o (v := some x) (c := .pl d) (.inr ⟨d, x, rfl, rfl, hd⟩)
    rw [show σ.set i (some x) = σ from ?_] at P
    · exact P
    · have li := (List.getElem?_eq_some_iff.mp hx).1
      have e := (List.getElem?_eq_some_iff.mp hx).2
      rw [← e, List.set_getElem_self]
def wipeE (r : En) : List Nat → En
  | [] => r
  | v :: vs => (wipeE r vs).set v .un
theorem Rp.wipe : ∀ {vs : List Nat}, Rp K F O G σ H r → (∀ v ∈ vs, O v = none) → Rp K F O G (L2.wipe σ vs) H (wipeE r vs)
  | [], R, _ => R
  | _ :: _, R, o => (Rp.wipe R fun w hw => o w (List.mem_cons_of_mem _ hw)).put (o _ (List.mem_cons_self ..)) (.inl rfl)
def restE (r : En) : En → List Nat → En
  | r', [] => r'
  | r', v :: vs => (restE r (r'.set v .un) vs).set v ((r[v]?).getD .un)
theorem Rp.rest {r0 : En} : ∀ {vs : List Nat} {r' : En}, (∀ v ∈ vs, ∀ d, r0[v]? = some (Cel.pl d) → ∃ x, σ[v]? = some (some x) ∧ Dq K G x d) → (∀ v ∈ vs, ∀ ds, r0[v]? ≠ some (Cel.ow ds) ∧ r0[v]? ≠ some (Cel.io ds) ∧ r0[v]? ≠ some (Cel.dk ds)) →
    Rp K F O G (L2.wipe σ vs) H r' → (∀ v ∈ vs, O v = none) → Rp K F O G σ H (restE r0 r' vs)
  | [], _, _, _, R, _ => R
  | v :: vs, r', h1, h2, R, o => by
    have ov := o v (List.mem_cons_self ..)
    have R1 : Rp K F O G (L2.wipe σ vs) H (r'.set v .un) := Rp.forget R ov
    refine (Rp.rest (fun w hw => h1 w (List.mem_cons_of_mem _ hw)) (fun w hw => h2 w (List.mem_cons_of_mem _ hw)) R1 fun w hw => o w (List.mem_cons_of_mem _ hw)).tell ov ?_
    cases e : r0[v]? with
    | none => exact .inl rfl
    | some c =>
      cases c with
      | un => exact .inl rfl
      | pl d =>
        obtain ⟨x, hx, hd⟩ := h1 v (List.mem_cons_self ..) d e
        exact .inr ⟨d, x, rfl, hx, hd⟩
      | ow ds => exact absurd e (h2 v (List.mem_cons_self ..) ds).1
      | io ds => exact absurd e (h2 v (List.mem_cons_self ..) ds).2.1
      | dk ds => exact absurd e (h2 v (List.mem_cons_self ..) ds).2.2
/-- an object that nobody sees is written -/
theorem Rp.wr (R : Rp K F O G σ H r) {D : Addr} {o : HO} (g : G D = none) (h0 : F.H0 D = none) (ho : ∀ i, O i ≠ some D) : Rp K F O G σ (upd H D o) r where
  sub := fun c x e => by
    rw [upd_ne (ne_of_none e g)]
    exact R.sub _ _ e
  len := R.len
  pl := R.pl
  ow := fun i ds e => by
    obtain ⟨p, xs, h1, h2, h3, h4, h5⟩ := R.ow i ds e
    exact ⟨p, xs, h1, h2, h3, by rw [upd_ne fun z => ho i (by rw [h1, z])]; exact h4, h5⟩
  io := fun i ds e => by
    obtain ⟨p, xs, h0, h1, h2, h4, h5⟩ := R.io i ds e
    exact ⟨p, xs, h0, h1, h2, by rw [upd_ne fun z => ho i (by rw [h1, z])]; exact h4, h5⟩
  dk := R.dk
  on := fun i p e => by
    obtain ⟨h1, h2, h3, h4⟩ := R.on i p e
    exact ⟨h1, h2, by rw [upd_ne fun z => ho i (by rw [e, z])]; exact h3, h4⟩
  inj := R.inj
  old := fun c x e n => by
    rw [upd_ne (ne_of_none e h0)]
    exact R.old c x e n
  nf := fun c e => by
    by_cases z : c = D
    · rw [z]
      exact h0
    · rw [upd_ne z] at e
      exact R.nf c e
  g0 := R.g0
  gn := R.gn
theorem Go.wr {G1 H1 : Hp} (g : Go O G1 H1 G H) {D : Addr} {o : HO} (n : H1 D = none) : Go O G1 H1 G (upd H D o) := by
  refine ⟨g.gg, fun c x e no => ?_, g.gn, fun c e => ?_⟩
  · rw [upd_ne (ne_of_none e n)]
    exact g.keep c x e no
  · by_cases z : c = D
    · rw [z]
      exact n
    · rw [upd_ne z] at e
      exact g.nf c e
end
def gN (i : Nat) : PyData → En → Option En := fun d r => match r[i]? with
  | some c => if c.own then none else some (r.set i (.pl d))
  | none => none
def tG (K : PySem.W.Frag) (ts : List Nat) (g : PyData → En → Option En) : TG := fun x σ H Q => ∃ F O G r r' d, Rp K F O G σ H r ∧ Dq K G x d ∧ g d r = some r' ∧
  ∀ σ', Rp K F O G σ' H r' → σ'.length = σ.length → (∀ j, j ∉ ts → σ'[j]? = σ[j]?) → Q σ' H
structure DG (K : PySem.W.Frag) (X : Cx) (tg : Expr) (ts : List Nat) (g : PyData → En → Option En) : Prop where
  pg : X.K = K → PG X tg (tG K ts g)
theorem PG.imp {X : Cx} {tg : Expr} {t t' : TG} (h : PG X tg t) (i : ∀ v σ H Q, t' v σ H Q → t v σ H Q) : PG X tg t' := ⟨fun pins s σ H v u Q I r q => h.run pins s σ H v u Q I r (i _ _ _ _ q)⟩
theorem PGs.imp {X : Cx} {tg : List Expr} {t t' : TGs} (h : PGs X tg t) (i : ∀ v σ H Q, t' v σ H Q → t v σ H Q) : PGs X tg t' := ⟨fun pins s σ H v u Q I r q => h.run pins s σ H v u Q I r (i _ _ _ _ q)⟩
def gNilD : List PyData → En → Option En := fun ds r => if ds.isEmpty then some r else none
def gConsD (g : PyData → En → Option En) (h : List PyData → En → Option En) : List PyData → En → Option En := fun ds r => match ds with
  | [] => none
  | d :: ds => (g d r).bind (h ds)
def tGs (K : PySem.W.Frag) (ts : List Nat) (g : List PyData → En → Option En) : TGs := fun xs σ H Q => ∃ F O G r r' ds, Rp K F O G σ H r ∧ DqAll K G xs ds ∧ g ds r = some r' ∧
  ∀ σ', Rp K F O G σ' H r' → σ'.length = σ.length → (∀ j, j ∉ ts → σ'[j]? = σ[j]?) → Q σ' H
structure DGs (K : PySem.W.Frag) (X : Cx) (tg : List Expr) (ts : List Nat) (g : List PyData → En → Option En) : Prop where
  pg : X.K = K → PGs X tg (tGs K ts g)
def gTupD (n : Nat) (g : List PyData → En → Option En) : PyData → En → Option En := fun d r => match d with
  | .tuple ds => if ds.length = n then g ds r else none
  | _ => none
section
variable {K : PySem.W.Frag} {X : Cx} {pos : Pos}
theorem Rp.not_own {F : Fm} {O : Ow} {G H : Hp} {σ : L2.St} {r : En} (R : Rp K F O G σ H r) {i : Nat} {c : Cel} (e : r[i]? = some c) (n : ¬ c.own = true) : O i = none := by
  cases q : O i with
  | none => rfl
  | some p =>
    obtain ⟨⟨c', h1, h2⟩, _⟩ := R.on i p q
    rw [e] at h1
    cases h1
    exact absurd h2 n
theorem dg_name (i : Nat) {x : Str} (hN : X.N.Nodup) (hi : X.N[i]? = some x) (hx : Loc X.env.scope x) (hf : X.fn x = true ∨ X.env.scope.names.lookup x = some .local := by first | exact .inl rfl | exact .inr rfl | assumption) : DG K X (.Name x pos) [i] (gN i) :=
  ⟨fun hK => PG.imp (pg_name hN hi hx hf) fun v σ H Q ⟨F, O, G, r, r', d, P, hd, hg, q⟩ => by
  unfold gN at hg
  split at hg
  · rename_i c e
    split at hg
    · cases hg
    · rename_i n
      cases hg
      refine q _ (P.put (P.not_own e n) (.inr ⟨d, v, rfl, rfl, hd⟩)) (List.length_set ..) fun j hj => ?_
      rw [List.getElem?_set_ne]
      intro z
      exact hj (by rw [z]; exact List.mem_cons_self ..)
  · cases hg⟩
theorem dgs_nil : DGs K X [] [] gNilD := ⟨fun hK => PGs.imp pgs_nil fun v σ H Q ⟨F, O, G, r, r', ds, P, hd, hg, q⟩ => by
  unfold gNilD at hg
  split at hg
  · rename_i he
    cases hg
    cases ds with
    | nil =>
      cases hd
      exact ⟨rfl, q _ P rfl fun _ _ => rfl⟩
    | cons _ _ => cases he
  · cases hg⟩
theorem dgs_cons {e : Expr} {es : List Expr} {ts us : List Nat} {g : PyData → En → Option En} {h : List PyData → En → Option En} (h1 : DG K X e ts g) (h2 : DGs K X es us h)
    (hs : (assignEach (e :: es) X.env).map (·.2) = assign e X.env :: (assignEach es X.env).map (·.2) := by rfl) : DGs K X (e :: es) (ts ++ us) (gConsD g h) := ⟨fun hK => PGs.imp (pgs_cons (h1.pg hK) (h2.pg hK) hs) fun v σ H Q ⟨F, O, G, r, r', ds, P, hd, hg, q⟩ => by
  cases ds with
  | nil => cases hg
  | cons d ds =>
    cases hd with
    | cons hd1 hd2 =>
      obtain ⟨r1, e1, e2⟩ := Option.bind_eq_some_iff.mp hg
      refine ⟨_, _, rfl, F, O, G, r, r1, d, P, hd1, e1, fun σ' P' l' k' => ?_⟩
      exact ⟨F, O, G, r1, r', ds, P', hd2, e2, fun σ2 P2 l2 k2 => q σ2 P2 (l2.trans l') fun j hj => by
        rw [List.mem_append, not_or] at hj
        rw [k2 j hj.2, k' j hj.1]⟩⟩
theorem dg_tup {es : List Expr} {k : Nat} {n : Nat} {ts : List Nat} {g : List PyData → En → Option En} (hc : X.calm = true) (h : DGs K X es ts g)
    (hn : (assignEach es X.env).length = n := by rfl) (hst : (assignEach es X.env).findIdx? (·.1) = none := by rfl) : DG K X (.Tuple es k pos) ts (gTupD n g) := ⟨fun hK => by
  subst hK
  refine PG.imp (pg_tup hc (h.pg rfl) hn hst) fun v σ H Q ⟨F, O, G, r, r', d, P, hd, hg, q⟩ => ?_
  unfold gTupD at hg
  split at hg
  · split at hg
    · rename_i hl
      cases hd with
      | tup hs ha => exact ⟨_, _, rfl, Lk.Same.tup P.sub hs, by rw [ha.length]; exact hl, F, O, G, r, r', _, P, ha, hg, q⟩
    · cases hg
  · cases hg⟩
end
def lcGo (vs : List Nat) (g : PyData → En → Option En) (mt : M Bool) (me : M PyData) : List PyData → En → Option (List PyData × En)
  | [], r => some ([], wipeE r vs)
  | x :: xs, r => (g x (wipeE r vs)).bind fun r1 => match mt r1 with
    | some (.ok true r2) => (match me r2 with
      | some (.ok d r3) => (lcGo vs g mt me xs r3).map fun z => (d :: z.1, z.2)
      | _ => none)
    | some (.ok false r2) => lcGo vs g mt me xs r2
    | _ => none
def freeAt (r : En) (vs : List Nat) : Bool := vs.all fun v => match r[v]? with
  | some c => !c.own
  | none => true
def mLc (vs : List Nat) (mi : M (List PyData)) (g : PyData → En → Option En) (mt : M Bool) (me : M PyData) : M (List PyData) := mi.bind fun items r =>
  if freeAt r vs && decide (items.length ≤ 1000000) then (lcGo vs g mt me items r).map fun z => .ok z.1 (restE r z.2 vs) else none
abbrev mYes : M Bool := M.ret true
structure DTs (K : PySem.W.Frag) (X : Cx) (ifs : List Expr) (m : M Bool) : Prop where
  pt : X.K = K → PTs X ifs (tM K XN rB m)
theorem PTs.imp {X : Cx} {es : List Expr} {t t' : TT} (h : PTs X es t) (i : ∀ σ H Q, t' σ H Q → t σ H Q) : PTs X es t' := ⟨fun pins s σ H Q I q => h.run pins s σ H Q I (i _ _ _ q)⟩
section
variable {K : PySem.W.Frag} {E : XE} {X : Cx} {pos : Pos}
theorem dts_nil : DTs K X [] mYes := ⟨fun _ => PTs.imp pts_nil fun σ H Q ⟨F, O, G, r, out, P, em, f⟩ => by
  cases em
  exact f.ok (Ps.refl P.sub) P rfl⟩
theorem dts_one {c : Expr} {m : M Bool} (h : DT K XN X c m) : DTs K X [c] m := ⟨fun hK => pts_one (h.pt hK)⟩
theorem free_own {F : Fm} {O : Ow} {G H : Hp} {σ : L2.St} {r : En} {vs : List Nat} (R : Rp K F O G σ H r) (h : freeAt r vs = true) : ∀ v ∈ vs, O v = none := fun v hv => by
  have q := List.all_eq_true.mp h v hv
  cases z : O v with
  | none => rfl
  | some p =>
    obtain ⟨⟨c, h1, h2⟩, _⟩ := R.on v p z
    rw [h1] at q
    simp only [h2] at q
    cases q
theorem wipe_eq {σ σ' : L2.St} (hl : σ'.length = σ.length) : ∀ {vs : List Nat}, (∀ j, j ∉ vs → σ'[j]? = σ[j]?) → L2.wipe σ' vs = L2.wipe σ vs := fun {vs} h => by
  refine List.ext_getElem? fun j => ?_
  by_cases hj : j ∈ vs
  · have w : ∀ {σ : L2.St} {vs : List Nat}, j ∈ vs → (L2.wipe σ vs)[j]? = if j < σ.length then some none else none := fun {σ vs} => by
      induction vs with
      | nil => intro h; cases h
      | cons v vs ih =>
        intro h
        show ((L2.wipe σ vs).set v none)[j]? = _
        by_cases e : v = j
        · subst e
          rw [List.getElem?_set]
          simp only [if_true, wipe_length]
        · rw [List.getElem?_set_ne e]
          rcases List.mem_cons.mp h with z | z
          · exact absurd z.symm e
          · exact ih z
    rw [w hj, w hj, hl]
  · rw [wipe_out hj, wipe_out hj, h j hj]
theorem wipe_wipe {σ : L2.St} {vs : List Nat} : L2.wipe (L2.wipe σ vs) vs = L2.wipe σ vs := wipe_eq (wipe_length _ _) fun j hj => by rw [wipe_out hj]
theorem lc_run {vs ts : List Nat} {mi : M (List PyData)} {g : PyData → En → Option En} {mt : M Bool} {me : M PyData} (hts : ∀ t ∈ ts, t ∈ vs) {σ : L2.St} {H : Hp} {Q : VK} (h : tM K E (rF K) (mLc vs mi g mt me) σ H Q) :
    tLc (tM K E (rIt K) mi) (tG K ts g) (tM K XN rB mt) (tM K XN (rD K) me) vs σ H Q := by
  obtain ⟨F, O, G, r, out, P, em, f⟩ := h
  refine tM.run P f em fun items r1 J G1 H1 P1 g1 q1 e1 f1 => ?_
  split at e1
  · rename_i hcond
    rw [Bool.and_eq_true, decide_eq_true_eq] at hcond
    obtain ⟨hfree, hlen⟩ := hcond
    obtain ⟨⟨ds, r'⟩, hgo, rfl⟩ := Option.map_eq_some_iff.mp e1
    have ov := free_own P1 hfree
    intro D nD
    have hD0 : F.H0 D = none := P1.nf _ nD
    have hDo : ∀ i, O i ≠ some D := fun i z => (P1.on i D z).2.2.1 nD
    have hDG : G1 D = none := P1.sub.free nD
    refine ⟨fun i m H' => m = items.length - i ∧ i ≤ items.length ∧ ∃ G' r2 xs ds0 ds1, Rp K F O G' (L2.wipe σ vs) H' (wipeE r2 vs) ∧ Go O G1 H1 G' H' ∧ G' D = none ∧ H' D = some (.lst xs) ∧ DqAll K G' xs ds0 ∧ xs.length ≤ i ∧ lcGo vs g mt me (items.drop i) r2 = some (ds1, r') ∧ ds = ds0 ++ ds1,
      ⟨items.length, by simp, Nat.zero_le _, G1, r1, [], [], ds, ?_, ?_, hDG, upd_same, .nil, Nat.zero_le _, hgo, rfl⟩, ?_⟩
    · exact (P1.wr hDG hD0 hDo).wipe ov
    · exact Go.refl.wr nD
    rintro i m H' ⟨rfl, hi, G', r2, xs, ds0, ds1, P2, g2, gD, hD, hx, lx, hgo2, rfl⟩
    by_cases hlt : i < items.length
    · refine .inr ?_
      have e3 := List.getElem?_eq_getElem hlt
      rw [List.drop_eq_getElem_cons hlt] at hgo2
      obtain ⟨jgo, jy⟩ := (q1 i H' G' g2.gg P2.sub).1 _ e3
      refine ⟨jgo, _, fun H4 p => ⟨_, (by omega : items.length - (i + 1) < items.length - i), p⟩, fun x H'' y => ?_⟩
      obtain ⟨G2, ps, hd⟩ := jy x H'' y
      obtain ⟨r3, e4, e5⟩ := Option.bind_eq_some_iff.mp hgo2
      have g2D : G2 D = none := by
        cases z : G2 D with
        | none => rfl
        | some o =>
          rcases ps.gn D (some_ne z) with w | w
          · exact absurd gD w
          · rw [hD] at w
            cases w
      refine ⟨F, O, G2, _, r3, _, P2.ps ps, hd, e4, fun σ2 P3 l3 k3 => ⟨?_, ?_⟩⟩
      · have := wipe_eq l3 (vs := vs) fun j hj => k3 j fun z => hj (hts j z)
        rw [this, wipe_wipe]
      have w3 : L2.wipe σ2 vs = L2.wipe σ vs := by
        have := wipe_eq l3 (vs := vs) fun j hj => k3 j fun z => hj (hts j z)
        rw [this, wipe_wipe]
      have gg3 := g2.trans (ps.go (O := O))
      have hD3 := ps.hh _ _ hD
      cases em3 : mt r3 with
      | none => rw [em3] at e5; cases e5
      | some o3 =>
        rw [em3] at e5
        cases o3 with
        | ex c p => cases e5
        | ok b r4 =>
          refine ⟨F, O, G2, r3, _, P3, em3, fun b' G4 H4 P4 g4 hb => ?_⟩
          cases hb
          have hD4 := g4.keep _ _ hD3 hDo
          have gD4 : G4 D = none := by
            cases z : G4 D with
            | none => rfl
            | some o =>
              rcases g4.gn D (some_ne z) with w | w
              · exact absurd g2D w
              · rw [hD3] at w
                cases w
          have gg4 := gg3.trans g4
          cases b with
          | false =>
            refine iteF ⟨rfl, hlt, G4, r4, xs, ds0, ds1, ?_, gg4, gD4, hD4, hx.sm (ps.gg.trans g4.gg), by omega, e5, rfl⟩
            have := P4.wipe ov
            rw [w3] at this
            exact this
          | true =>
            refine iteT ?_
            cases em5 : me r4 with
            | none =>
              simp only [em5] at e5
              cases e5
            | some o5 =>
              cases o5 with
              | ex c p =>
                simp only [em5] at e5
                cases e5
              | ok d r5 =>
                simp only [em5] at e5
                obtain ⟨⟨ds2, r6⟩, hgo6, e6⟩ := Option.map_eq_some_iff.mp e5
                cases e6
                refine ⟨F, O, G4, r4, _, P4, em5, fun y G5 H5 P5 g5 hy => ?_⟩
                have hD5 := g5.keep _ _ hD4 hDo
                have gD5 : G5 D = none := by
                  cases z : G5 D with
                  | none => rfl
                  | some o =>
                    rcases g5.gn D (some_ne z) with w | w
                    · exact absurd gD4 w
                    · rw [hD4] at w
                      cases w
                refine ⟨xs, hD5, line_lt (by omega), rfl, hlt, G5, r5, xs ++ [y], ds0 ++ [d], ds2, ?_, (gg4.trans g5).wr nD, gD5, upd_same, (hx.sm ((ps.gg.trans g4.gg).trans g5.gg)).append (.cons hy .nil), by rw [List.length_append]; simp; omega, hgo6, by rw [List.append_assoc]; rfl⟩
                have := (P5.wr (o := .lst (xs ++ [y])) gD5 hD0 hDo).wipe ov
                rw [w3] at this
                exact this
    · refine .inl ?_
      have e3 : i = items.length := by omega
      subst e3
      rw [List.drop_length] at hgo2
      cases hgo2
      rw [List.append_nil] at f1
      refine ⟨(q1 _ H' G' g2.gg P2.sub).2 (Nat.le_refl _), f1 _ G' H' (Rp.rest (fun v hv d e => ?_) (fun v hv ds => ?_) P2 ov) g2 ⟨D, xs, rfl, nD, gD, hD0, hDo, hD, hx⟩⟩
      · obtain ⟨x, h1, h2⟩ := P1.pl v d e
        exact ⟨x, h1, h2.sm g2.gg⟩
      · have q := List.all_eq_true.mp hfree v hv
        refine ⟨fun e => ?_, fun e => ?_, fun e => ?_⟩ <;>
        · rw [e] at q
          cases q
  · cases e1
theorem df_lc {elt tg iter : Expr} {ifs : List Expr} {scope : Scope} {own : List (Str × Nat)} {ts : List Nat} {mi : M (List PyData)} {g : PyData → En → Option En} {mt : M Bool} {me : M PyData} (hc : X.calm = true) (hN : X.N.Nodup) (hi : DI K E X tg iter mi) (ok : BlkOk X.N X.env.scope scope own)
    (hg : ∀ (s : Shared) (H : Hp) (C : Addr) (cl : List (Str × Addr)) (fp : List Addr), DG K (X.blk s H scope (compEnvC scope cl C X.env) fp) tg ts g) (ht : ∀ (s : Shared) (H : Hp) (C : Addr) (cl : List (Str × Addr)) (fp : List Addr), DTs K (X.blk s H scope (compEnvC scope cl C X.env) fp) ifs mt)
    (he : ∀ (s : Shared) (H : Hp) (C : Addr) (cl : List (Str × Addr)) (fp : List Addr), DE K XN (X.blk s H scope (compEnvC scope cl C X.env) fp) elt me) (hts : ∀ t ∈ ts, t ∈ own.map (·.2) := by decide) (hs : ∀ x, foldedSetIterable iter X.env x = pure x := by intro _; rfl) :
    DF K E X (.ListComp elt [⟨tg, iter, ifs, 0⟩] scope pos) (mLc (own.map (·.2)) mi g mt me) :=
  ⟨fun hK => PE.imp (pe_lc hc hN (hi.pi hK) ok (fun s H C cl fp => (hg s H C cl fp).pg hK) (fun s H C cl fp => (ht s H C cl fp).pt hK) (fun s H C cl fp => (he s H C cl fp).pe hK) hs) fun _ _ _ h => lc_run hts h⟩
end
end DL
namespace DL
open PySem PySem.Spec PyProof.Rows L2 Lk
inductive Fl where
  | nx (r : En) | rt (d : PyData) (r : En) | bk (r : En) | ct (r : En) | ex (c : Str) (p : List PyData) | rf (ds : List PyData) (r : En)
abbrev SM := En → Option Fl
def FinS (K : PySem.W.Frag) (E : XE) (F : Fm) (G : Hp) (D : Ends) : Fl → Prop
  | .nx r' => ∀ O' G' σ' H', Rp K F O' G' σ' H' r' → Same G G' → D.nx σ' H'
  | .bk r' => ∀ O' G' σ' H', Rp K F O' G' σ' H' r' → Same G G' → D.bk σ' H'
  | .ct r' => ∀ O' G' σ' H', Rp K F O' G' σ' H' r' → Same G G' → D.ct σ' H'
  | .rt d r' => ∀ O' G' σ' H' v, Rp K F O' G' σ' H' r' → Same G G' → Dq K G' v d → D.rt v H'
  | .ex c p => ∀ H', (∀ c o, F.H0 c = some o → (∀ i, F.ios i ≠ some c) → H' c = some o) → E c p H'
  | .rf ds r' => ∀ O' G' σ' H' p xs, Rp K F O' G' σ' H' r' → Same G G' → G' p = none → F.H0 p = none → H' p = some (.lst xs) → DqAll K G' xs ds → D.rt (.ref p) H'
def tS (K : PySem.W.Frag) (E : XE) (m : SM) : TS := fun D σ H => ∃ F O G r fl, Rp K F O G σ H r ∧ m r = some fl ∧ FinS K E F G D fl
structure DS (K : PySem.W.Frag) (E : XE) (X : Cx) (st : Stmt) (m : SM) : Prop where
  ps : X.K = K → PS X st (tS K E m)
structure DSs (K : PySem.W.Frag) (E : XE) (X : Cx) (st : List Stmt) (m : SM) : Prop where
  ps : X.K = K → PSs X st (tS K E m)
def sBind {α : Type} (m : M α) (k : α → SM) : SM := fun r => match m r with
  | some (.ok a r') => k a r'
  | some (.ex c p) => some (.ex c p)
  | none => none
def sNil : SM := fun r => some (.nx r)
def sSeq (a b : SM) : SM := fun r => match a r with
  | some (.nx r') => b r'
  | o => o
section
variable {X : Cx} {st : Stmt} {sts : List Stmt}
theorem PS.imp {t t' : TS} (h : PS X st t) (i : ∀ D σ H, t' D σ H → t D σ H) : PS X st t' := ⟨fun pins s σ H D I q => h.run pins s σ H D I (i _ _ _ q)⟩
theorem PSs.imp {t t' : TS} (h : PSs X sts t) (i : ∀ D σ H, t' D σ H → t D σ H) : PSs X sts t' := ⟨fun pins s σ H D I q => h.run pins s σ H D I (i _ _ _ q)⟩
end
section
variable {K : PySem.W.Frag} {E : XE} {F : Fm} {O : Ow} {G G1 H H1 : Hp} {σ : L2.St} {r : En} {α β : Type} {D : Ends} {fl : Fl}
theorem FinS.via (g : Same G G1) (f : FinS K E F G D fl) : FinS K E F G1 D fl := by
  cases fl with
  | nx r' => exact fun O' G' σ' H' p q => f O' G' σ' H' p (g.trans q)
  | bk r' => exact fun O' G' σ' H' p q => f O' G' σ' H' p (g.trans q)
  | ct r' => exact fun O' G' σ' H' p q => f O' G' σ' H' p (g.trans q)
  | rt d r' => exact fun O' G' σ' H' v p q => f O' G' σ' H' v p (g.trans q)
  | ex c p => exact f
  | rf ds r' => exact fun O' G' σ' H' p xs q s => f O' G' σ' H' p xs q (g.trans s)
theorem tS.run {R1 : RR β α} {Q1 : β → Hp → Prop} {m : M α} {k : α → SM} (P : Rp K F O G σ H r) (f : FinS K E F G D fl) (e : sBind m k r = some fl)
    (h : ∀ a r1 b G1 H1, Rp K F O G1 σ H1 r1 → Go O G H G1 H1 → R1 H O F G1 H1 b a → k a r1 = some fl → FinS K E F G1 D fl → Q1 b H1) : tM K E R1 m σ H Q1 := by
  cases em : m r with
  | none =>
    rw [sBind, em] at e
    cases e
  | some o =>
    cases o with
    | ok a r1 =>
      rw [sBind, em] at e
      exact ⟨F, O, G, r, _, P, em, fun b G1 H1 P1 g1 q => h a r1 b G1 H1 P1 g1 q e (f.via g1.gg)⟩
    | ex c p =>
      rw [sBind, em] at e
      cases e
      exact ⟨F, O, G, r, _, P, em, f⟩
end
def sExpr (m : M PyData) : SM := sBind m fun _ => sNil
def sRet (m : M PyData) : SM := sBind m fun d r => some (.rt d r)
def sRetN : SM := fun r => some (.rt .none r)
def sIf (c : M Bool) (a b : SM) : SM := sBind c fun k => if k then a else b
/-- slot i holds d from now on -/
def sPut (i : Nat) (d : PyData) : SM := fun r => match r[i]? with
  | some (.io _) => none
  | some _ => some (.nx (r.set i (.pl d)))
  | none => none
def sSet (i : Nat) (m : M PyData) : SM := sBind m (sPut i)
def sPutO (i : Nat) (ds : List PyData) : SM := fun r => match r[i]? with
  | some (.io _) => none
  | some _ => some (.nx (r.set i (.ow ds)))
  | none => none
/-- slot i owns a new list -/
def sOwn (i : Nat) (m : M (List PyData)) : SM := sBind m (sPutO i)
/-- the list in slot i is never changed again -/
def sFrz (i : Nat) (m : SM) : SM := fun r => match r[i]? with
  | some (.ow ds) => m (r.set i (.pl (.list ds)))
  | _ => m r
def ownOf : Option Cel → Option (List PyData)
  | some (.ow ds) => some ds
  | some (.io ds) => some ds
  | _ => none
def reOwn (ds : List PyData) : Cel → Cel
  | .io _ => .io ds
  | _ => .ow ds
/-- what is in the list in slot i -/
def upO (i : Nat) (ds : List PyData) (r : En) : En := match r[i]? with
  | some c => r.set i (reOwn ds c)
  | none => r
section
variable {K : PySem.W.Frag} {F : Fm} {O : Ow} {G H : Hp} {σ : L2.St} {r : En}
theorem dropO (R : Rp K F O G σ H r) {i : Nat} (hio : ∀ ds, r[i]? ≠ some (Cel.io ds)) : Rp K F (fun j => if j = i then none else O j) G σ H (r.set i .un) := by
  have ne : ∀ (j : Nat) (c : Cel), (r.set i .un)[j]? = some c → c ≠ .un → j ≠ i ∧ r[j]? = some c := fun j c e n => by
    by_cases z : i = j
    · subst z
      rw [List.getElem?_set] at e
      simp only [if_true] at e
      split at e
      · exact absurd (Option.some.inj e).symm n
      · cases e
    · rw [List.getElem?_set_ne z] at e
      exact ⟨Ne.symm z, e⟩
  refine ⟨R.sub, by rw [List.length_set]; exact R.len, fun j d e => ?_, fun j ds e => ?_, fun j ds e => ?_, fun j ks e => R.dk j ks (ne j _ e fun z => Cel.noConfusion z).2, fun j p e => ?_, fun a b p e1 e2 => ?_, R.old, R.nf, R.g0, R.gn⟩
  · exact R.pl j d (ne j _ e fun z => Cel.noConfusion z).2
  · obtain ⟨z, e'⟩ := ne j _ e fun z => Cel.noConfusion z
    obtain ⟨p, xs, h1, h2⟩ := R.ow j ds e'
    exact ⟨p, xs, by rw [if_neg z]; exact h1, h2⟩
  · obtain ⟨z, e'⟩ := ne j _ e fun z => Cel.noConfusion z
    obtain ⟨p, xs, h0, h1, h2⟩ := R.io j ds e'
    exact ⟨p, xs, h0, by rw [if_neg z]; exact h1, h2⟩
  · split at e
    · cases e
    · rename_i z
      obtain ⟨⟨c, h1, h2⟩, h3⟩ := R.on j p e
      exact ⟨⟨c, by rw [List.getElem?_set_ne (Ne.symm z)]; exact h1, h2⟩, h3⟩
  · split at e1
    · cases e1
    · split at e2
      · cases e2
      · exact R.inj a b p e1 e2
theorem Rp.put0 (R : Rp K F O G σ H r) {i : Nat} (hio : ∀ ds, r[i]? ≠ some (Cel.io ds)) {v : V} {d : PyData} (hd : Dq K G v d) : Rp K F (fun j => if j = i then none else O j) G (σ.set i (some v)) H (r.set i (.pl d)) := by
  have P := (dropO R hio).put (i := i) (by show (if i = i then none else O i) = none; rw [if_pos rfl]) (v := some v) (c := .pl d) (.inr ⟨d, v, rfl, rfl, hd⟩)
  rw [List.set_set] at P
  exact P
theorem Rp.own0 (R : Rp K F O G σ H r) {i : Nat} (hi : i < r.length) (hio : ∀ ds, r[i]? ≠ some (Cel.io ds)) {p : Addr} {xs : List V} {ds : List PyData} (g : G p = none) (h0 : F.H0 p = none) (ho : ∀ j, O j ≠ some p) (hp : H p = some (.lst xs)) (ha : DqAll K G xs ds) :
    Rp K F (fun j => if j = i then some p else O j) G (σ.set i (some (.ref p))) H (r.set i (.ow ds)) := by
  have P := dropO R hio
  have ne : ∀ (j : Nat) (c : Cel), (r.set i (.ow ds))[j]? = some c → j ≠ i → (r.set i .un)[j]? = some c := fun j c e z => by
    rw [List.getElem?_set_ne (Ne.symm z)] at e ⊢
    exact e
  have li : i < σ.length := by rw [R.len]; exact hi
  refine ⟨P.sub, by rw [List.length_set, List.length_set]; exact R.len, fun j d e => ?_, fun j ds' e => ?_, fun j ds' e => ?_, fun j ks e => by
    by_cases z : j = i
    · subst z
      rw [List.getElem?_set_self hi] at e
      cases e
    · obtain ⟨q, nks, as, h1, h2⟩ := P.dk j ks (ne j _ e z)
      exact ⟨q, nks, as, by rw [List.getElem?_set_ne (Ne.symm z)]; exact h1, h2⟩, fun j q e => ?_, fun a b q e1 e2 => ?_, R.old, R.nf, R.g0, R.gn⟩
  · by_cases z : j = i
    · subst z
      rw [List.getElem?_set_self hi] at e
      cases e
    · obtain ⟨v, h1, h2⟩ := P.pl j d (ne j _ e z)
      exact ⟨v, by rw [List.getElem?_set_ne (Ne.symm z)]; exact h1, h2⟩
  · by_cases z : j = i
    · subst z
      rw [List.getElem?_set_self hi] at e
      cases e
      exact ⟨p, xs, by rw [if_pos rfl], by rw [List.getElem?_set_self li], h0, hp, ha⟩
    · obtain ⟨q, ys, h1, h2, h3⟩ := P.ow j ds' (ne j _ e z)
      rw [if_neg z] at h1
      exact ⟨q, ys, by rw [if_neg z]; exact h1, by rw [List.getElem?_set_ne (Ne.symm z)]; exact h2, h3⟩
  · by_cases z : j = i
    · subst z
      rw [List.getElem?_set_self hi] at e
      cases e
    · obtain ⟨q, ys, h0, h1, h2, h3⟩ := P.io j ds' (ne j _ e z)
      rw [if_neg z] at h1
      exact ⟨q, ys, h0, by rw [if_neg z]; exact h1, by rw [List.getElem?_set_ne (Ne.symm z)]; exact h2, h3⟩
  · split at e
    · rename_i z
      subst z
      cases e
      exact ⟨⟨_, List.getElem?_set_self hi, rfl⟩, g, some_ne hp, .inl h0⟩
    · rename_i z
      obtain ⟨⟨c, h1, h2⟩, h3⟩ := R.on j q e
      exact ⟨⟨c, by rw [List.getElem?_set_ne (Ne.symm z)]; exact h1, h2⟩, h3⟩
  · split at e1
    · rename_i z1
      split at e2
      · rename_i z2
        rw [z1, z2]
      · cases e1
        exact absurd e2 (ho b)
    · split at e2
      · cases e2
        exact absurd e1 (ho a)
      · exact R.inj a b q e1 e2
theorem Rp.frz (R : Rp K F O G σ H r) {i : Nat} {ds : List PyData} (e : r[i]? = some (Cel.ow ds)) : ∃ O' G', Same G G' ∧ Rp K F O' G' σ H (r.set i (.pl (.list ds))) := by
  obtain ⟨p, xs, h1, h2, h0, h3, h4⟩ := R.ow i ds e
  have hio : ∀ ds', r[i]? ≠ some (Cel.io ds') := fun ds' z => by rw [e] at z; cases z
  have gp : G p = none := (R.on i p h1).2.1
  have P := dropO R hio
  have no : ∀ j, (fun j => if j = i then none else O j) j ≠ some p := fun j z => by
    dsimp only at z
    split at z
    · cases z
    · rename_i n
      exact n (R.inj j i p z h1)
  have Q := P.see h3 gp h0 no
  have S := Q.tell (i := i) (c := .pl (.list ds)) (by show (if i = i then none else O i) = none; rw [if_pos rfl]) (.inr ⟨_, .ref p, rfl, h2, .lst (.inl (.inl upd_same)) (h4.sm (same_new gp))⟩)
  rw [List.set_set] at S
  exact ⟨_, _, same_new gp, S⟩
/-- the list of slot i -/
theorem Rp.own_at (R : Rp K F O G σ H r) {i : Nat} {ds : List PyData} (e : ownOf r[i]? = some ds) : ∃ p xs, O i = some p ∧ σ[i]? = some (some (.ref p)) ∧ H p = some (.lst xs) ∧ DqAll K G xs ds := by
  cases h : r[i]? with
  | none => rw [h] at e; cases e
  | some c =>
    rw [h] at e
    cases c with
    | ow ds' =>
      cases e
      obtain ⟨p, xs, h1, h2, _, h3, h4⟩ := R.ow i _ h
      exact ⟨p, xs, h1, h2, h3, h4⟩
    | io ds' =>
      cases e
      obtain ⟨p, xs, _, h1, h2, h3, h4⟩ := R.io i _ h
      exact ⟨p, xs, h1, h2, h3, h4⟩
    | _ => cases e
/-- the list of slot i changes -/
theorem Rp.chg (R : Rp K F O G σ H r) {i : Nat} {ds ds' : List PyData} (e : ownOf r[i]? = some ds) {p : Addr} (hp : O i = some p) {H' G' : Hp} {xs : List V} (gg : Same G G') (gh : Same G' H') (gp : G' p = none) (k : ∀ c o, c ≠ p → H c = some o → H' c = some o) (gn : ∀ c, G' c ≠ none → G c ≠ none ∨ H c = none)
    (hx : H' p = some (.lst xs)) (ha : DqAll K G' xs ds') : Rp K F O G' σ H' (upO i ds' r) ∧ Go O G H G' H' := by
  obtain ⟨c, hc, hown⟩ : ∃ c, r[i]? = some c ∧ c.own = true := by
    obtain ⟨h1, _⟩ := R.on i p hp
    exact h1
  have hnd : ∀ ks, c ≠ .dk ks := fun ks z => by
    rw [hc, z] at e
    cases e
  have li := (List.getElem?_eq_some_iff.mp hc).1
  have eu : upO i ds' r = r.set i (reOwn ds' c) := by unfold upO; rw [hc]
  have hpn : H p ≠ none := (R.on i p hp).2.2.1
  have nf : ∀ c, H' c = none → H c = none := fun c e => by
    by_cases z : c = p
    · rw [z, hx] at e
      cases e
    · cases q : H c with
      | none => rfl
      | some o => rw [k c o z q] at e; cases e
  refine ⟨?_, gg, fun c o e n => k c o (fun z => n i (by rw [z]; exact hp)) e, gn, nf⟩
  rw [eu]
  have ne : ∀ (j : Nat) (c' : Cel), (r.set i (reOwn ds' c))[j]? = some c' → j ≠ i → r[j]? = some c' := fun j c' e z => by
    rw [List.getElem?_set_ne (Ne.symm z)] at e
    exact e
  refine ⟨gh, by rw [List.length_set]; exact R.len, fun j d e => ?_, fun j es e => ?_, fun j es e => ?_, fun j ks e => ?_, fun j q e => ?_, R.inj, fun c o e n => ?_, fun c e => R.nf c (nf c e), R.g0.trans gg, fun c e => ?_⟩
  · by_cases z : j = i
    · subst z
      rw [List.getElem?_set_self li] at e
      cases c <;> cases e
    · obtain ⟨v, h1, h2⟩ := R.pl j d (ne j _ e z)
      exact ⟨v, h1, h2.sm gg⟩
  · by_cases z : j = i
    · subst z
      rw [List.getElem?_set_self li] at e
      cases c with
      | ow es' =>
        cases e
        obtain ⟨q, ys, h1, h2, h3, _⟩ := R.ow j es' hc
        rw [hp] at h1
        cases h1
        exact ⟨p, xs, hp, h2, h3, hx, ha⟩
      | io _ => cases e
      | dk _ => exact absurd rfl (hnd _)
      | _ => cases hown
    · obtain ⟨q, ys, h1, h2, h3, h4, h5⟩ := R.ow j es (ne j _ e z)
      exact ⟨q, ys, h1, h2, h3, k q _ (fun w => z (R.inj j i p (by rw [h1, w]) hp)) h4, h5.sm gg⟩
  · by_cases z : j = i
    · subst z
      rw [List.getElem?_set_self li] at e
      cases c with
      | io es' =>
        cases e
        obtain ⟨q, ys, h0, h1, h2, _⟩ := R.io j es' hc
        rw [hp] at h1
        cases h1
        exact ⟨p, xs, h0, hp, h2, hx, ha⟩
      | ow _ => cases e
      | dk _ => cases e
      | _ => cases hown
    · obtain ⟨q, ys, h0, h1, h2, h4, h5⟩ := R.io j es (ne j _ e z)
      exact ⟨q, ys, h0, h1, h2, k q _ (fun w => z (R.inj j i p (by rw [h1, w]) hp)) h4, h5.sm gg⟩
  · by_cases z : j = i
    · subst z
      rw [List.getElem?_set_self li] at e
      cases c <;> cases e
    · obtain ⟨q, nks, as, h1, h2, h3, h4⟩ := R.dk j ks (ne j _ e z)
      exact ⟨q, nks, as, h1, gg _ _ h2, h3, h4.sm gg⟩
  · obtain ⟨⟨c', h1, h2⟩, h3, h4, h5⟩ := R.on j q e
    refine ⟨?_, ?_, ?_, h5⟩
    · by_cases z : j = i
      · subst z
        refine ⟨_, List.getElem?_set_self li, ?_⟩
        cases c <;> first | rfl | cases hown | exact absurd rfl (hnd _)
      · exact ⟨c', by rw [List.getElem?_set_ne (Ne.symm z)]; exact h1, h2⟩
    · cases w : G' q with
      | none => rfl
      | some o =>
        rcases gn q (some_ne w) with y | y
        · exact absurd h3 y
        · exact absurd y h4
    · intro w
      exact h4 (nf q w)
  · refine k c o (fun z => ?_) (R.old c o e n)
    subst z
    rcases (R.on i _ hp).2.2.2 with w | ⟨j, w⟩
    · rw [w] at e
      cases e
    · exact n j w
  · rcases gn c e with z | z
    · exact R.gn c z
    · exact .inr (R.nf c z)
end
section
variable {K : PySem.W.Frag} {E : XE} {X : Cx} {st : Stmt} {sts : List Stmt} {a b : SM} {m : M PyData} {mc : M Bool} {ml : M (List PyData)} {e c : Expr} {pos : Pos}
theorem dss_nil : DSs K E X [] sNil := ⟨fun _ => PSs.imp pss_nil fun D σ H ⟨F, O, G, r, fl, P, em, f⟩ => by
  cases em
  exact f O G σ H P (Same.refl _)⟩
theorem dss_cons (h1 : DS K E X st a) (h2 : DSs K E X sts b) : DSs K E X (st :: sts) (sSeq a b) := ⟨fun hK => PSs.imp (pss_cons (h1.ps hK) (h2.ps hK)) fun D σ H ⟨F, O, G, r, fl, P, em, f⟩ => by
  unfold sSeq at em
  cases ea : a r with
  | none => rw [ea] at em; cases em
  | some fa =>
    rw [ea] at em
    refine ⟨F, O, G, r, fa, P, ea, ?_⟩
    cases fa with
    | nx r' => exact fun O' G' σ' H' P' g => ⟨F, O', G', r', fl, P', em, f.via g⟩
    | rt d r' => cases em; exact f
    | bk r' => cases em; exact f
    | ct r' => cases em; exact f
    | ex c p => cases em; exact f
    | rf ds r' => cases em; exact f⟩
theorem dss_one (h : DS K E X st a) : DSs K E X [st] a := ⟨fun hK => pss_one (h.ps hK)⟩
theorem ds_expr (he : DE K E X e m) (hs : swapsWith e none pos.line X.env = pure false := by rfl) : DS K E X (.Expr e pos) (sExpr m) := ⟨fun hK => PS.imp (ps_expr (he.pe hK) hs) fun D σ H ⟨F, O, G, r, fl, P, em, f⟩ => by
  refine tS.run P f em fun d r1 x G1 H1 P1 g1 q1 e1 f1 => ?_
  cases e1
  exact f1 O G1 σ H1 P1 (Same.refl _)⟩
theorem ds_ret (he : DE K E X e m) : DS K E X (.Return (some e) pos) (sRet m) := ⟨fun hK => PS.imp (ps_ret (he.pe hK)) fun D σ H ⟨F, O, G, r, fl, P, em, f⟩ => by
  refine tS.run P f em fun d r1 x G1 H1 P1 g1 q1 e1 f1 => ?_
  cases e1
  exact f1 O G1 σ H1 x P1 (Same.refl _) q1⟩
theorem ds_if {sa sb : List Stmt} (hc : DT K E X c mc) (ha : DSs K E X sa a) (hb : DSs K E X sb b) : DS K E X (.If c sa sb pos) (sIf mc a b) := ⟨fun hK => PS.imp (ps_if (hc.pt hK) (ha.ps hK) (hb.ps hK)) fun D σ H ⟨F, O, G, r, fl, P, em, f⟩ => by
  refine tS.run P f em fun d r1 x G1 H1 P1 g1 q1 e1 f1 => ?_
  cases q1
  cases d with
  | true => exact iteT ⟨F, O, G1, r1, fl, P1, e1, f1⟩
  | false => exact iteF ⟨F, O, G1, r1, fl, P1, e1, f1⟩⟩
theorem ds_never : DS K E X st (fun _ => none) := ⟨fun _ => PS.imp ps_never fun D σ H ⟨F, O, G, r, fl, P, em, f⟩ => by cases em⟩
/-- name = e, the name from now on a datum -/
theorem ds_set_t {te : TE} {i : Nat} (h : PS X st (tAsg te (gName i))) (ht : ∀ σ H Q, tM K E (rD K) m σ H Q → te σ H Q) : PS X st (tS K E (sSet i m)) := PS.imp h fun D σ H ⟨F, O, G, r, fl, P, em, f⟩ => by
  refine ht _ _ _ (tS.run P f em fun d r1 x G1 H1 P1 g1 q1 e1 f1 => ?_)
  unfold sPut at e1
  split at e1
  · cases e1
  · rename_i cel hne hc
    cases e1
    exact f1 _ G1 _ H1 (P1.put0 (fun ds z => hne ds (Option.some.inj (hc.symm.trans z))) q1) (Same.refl _)
  · cases e1
theorem ds_own_t {te : TE} {i : Nat} (h : PS X st (tAsg te (gName i))) (ht : ∀ σ H Q, tM K E (rF K) ml σ H Q → te σ H Q) : PS X st (tS K E (sOwn i ml)) := PS.imp h fun D σ H ⟨F, O, G, r, fl, P, em, f⟩ => by
  refine ht _ _ _ (tS.run P f em fun ds r1 x G1 H1 P1 g1 q1 e1 f1 => ?_)
  obtain ⟨p, xs, rfl, _, hg, h0, ho, hp, ha⟩ := q1
  unfold sPutO at e1
  split at e1
  · cases e1
  · rename_i cel hne hc
    cases e1
    exact f1 _ G1 _ H1 (P1.own0 (List.getElem?_eq_some_iff.mp hc).1 (fun ds z => hne ds (Option.some.inj (hc.symm.trans z))) hg h0 ho hp ha) (Same.refl _)
  · cases e1
theorem ds_set {i : Nat} {x : Str} {pos' : Pos} (hN : X.N.Nodup) (hi : X.N[i]? = some x) (hx : Loc X.env.scope x) (he : DE K E X e m) (hs : swapsWith e (some (.Name x pos')) pos.line X.env = pure false := by rfl) (hf : X.fn x = true ∨ X.env.scope.names.lookup x = some .local := by first | exact .inl rfl | exact .inr rfl | assumption) :
    DS K E X (.Assign [.Name x pos'] e pos) (sSet i m) := ⟨fun hK => ds_set_t (ps_set hN hi hx (he.pe hK) hs hf) fun _ _ _ h => h⟩
theorem ds_own {i : Nat} {x : Str} {pos' : Pos} (hN : X.N.Nodup) (hi : X.N[i]? = some x) (hx : Loc X.env.scope x) (he : DF K E X e ml) (hs : swapsWith e (some (.Name x pos')) pos.line X.env = pure false := by rfl) (hf : X.fn x = true ∨ X.env.scope.names.lookup x = some .local := by first | exact .inl rfl | exact .inr rfl | assumption) :
    DS K E X (.Assign [.Name x pos'] e pos) (sOwn i ml) := ⟨fun hK => ds_own_t (ps_set hN hi hx (he.pe hK) hs hf) fun _ _ _ h => h⟩
/-- what a new list gives as a datum -/
theorem fr_t {σ : L2.St} {H : Hp} {Q : VK} (h : tM K E (rD K) (ml.map PyData.list) σ H Q) : tM K E (rF K) ml σ H Q := by
  obtain ⟨F, O, G, r, out, P, em, f⟩ := h
  refine tM.run P f em fun ds r1 v G1 H1 P1 g1 q1 e1 f1 => ?_
  cases e1
  obtain ⟨p, xs, rfl, hs, hg, h0, ho, hp, ha⟩ := q1
  cases em2 : ml r with
  | none =>
    rw [M.map, M.bind, em2] at em
    cases em
  | some o =>
    cases o with
    | ex c z =>
      rw [M.map, M.bind, em2] at em
      cases em
    | ok ds' r' =>
      rw [M.map, M.bind, em2] at em
      cases em
      refine f _ _ _ (P1.see hp hg h0 ho) ?_ (.lst (.inl (.inl upd_same)) (ha.sm (same_new hg)))
      refine ⟨g1.gg.trans (same_new hg), g1.keep, fun c e => ?_, g1.nf⟩
      by_cases z : c = p
      · rw [z]
        exact .inr hs
      · rw [upd_ne z] at e
        exact g1.gn c e
section
variable {i : Nat} {y : Str} {py : Pos} {elt tg iter : Expr} {ifs : List Expr} {scope : Scope} {own : List (Str × Nat)} {ts : List Nat} {spos : Pos} {mi : M (List PyData)} {g : PyData → En → Option En} {mt : M Bool} {me : M PyData}
/-- name = [..] on one line -/
theorem ds_setLc (hc : X.calm = true) (hN : X.N.Nodup) (hy : X.N[i]? = some y) (hyl : X.env.scope.names.lookup y = some .local)
    (hsw : swapsWith (.ListComp elt [⟨tg, iter, ifs, 0⟩] scope pos) (some (.Name y py)) spos.line X.env = pure true) (hi : DI K E X tg iter mi) (ok : BlkOk X.N X.env.scope scope own)
    (hg : ∀ (s : Shared) (H : Hp) (C : Addr) (cl : List (Str × Addr)) (fp : List Addr), DG K (X.blk s H scope (compEnvC scope cl C X.env) fp) tg ts g) (ht : ∀ (s : Shared) (H : Hp) (C : Addr) (cl : List (Str × Addr)) (fp : List Addr), DTs K (X.blk s H scope (compEnvC scope cl C X.env) fp) ifs mt)
    (he : ∀ (s : Shared) (H : Hp) (C : Addr) (cl : List (Str × Addr)) (fp : List Addr), DE K XN (X.blk s H scope (compEnvC scope cl C X.env) fp) elt me) (hts : ∀ t ∈ ts, t ∈ own.map (·.2) := by decide) (hs : ∀ x, foldedSetIterable iter X.env x = pure x := by intro _; rfl) :
    DS K E X (.Assign [.Name y py] (.ListComp elt [⟨tg, iter, ifs, 0⟩] scope pos) spos) (sSet i ((mLc (own.map (·.2)) mi g mt me).map PyData.list)) :=
  ⟨fun hK => ds_set_t (ps_setLc hc hN hy hyl hsw (hi.pi hK) ok (fun s H C cl fp => (hg s H C cl fp).pg hK) (fun s H C cl fp => (ht s H C cl fp).pt hK) (fun s H C cl fp => (he s H C cl fp).pe hK) hs) fun _ _ _ h => lc_run hts (fr_t h)⟩
end
theorem ds_frz (i : Nat) (h : DS K E X st a) : DS K E X st (sFrz i a) := ⟨fun hK => PS.imp (h.ps hK) fun D σ H ⟨F, O, G, r, fl, P, em, f⟩ => by
  unfold sFrz at em
  split at em
  · rename_i ds e
    obtain ⟨O', G', g, P'⟩ := P.frz e
    exact ⟨F, O', G', _, fl, P', em, f.via g⟩
  · exact ⟨F, O, G, r, fl, P, em, f⟩⟩
end
def forGo (g : PyData → En → Option En) (b : SM) : List PyData → SM
  | [] => sNil
  | x :: xs => fun r => (g x r).bind fun r1 => match b r1 with
    | some (.nx r2) => forGo g b xs r2
    | some (.ct r2) => forGo g b xs r2
    | some (.bk r2) => some (.nx r2)
    | o => o
def sFor (mi : M (List PyData)) (g : PyData → En → Option En) (b : SM) : SM := sBind mi fun items => forGo g b items
def whGo (c : M Bool) (b : SM) : Nat → SM
  | 0 => fun _ => none
  | n + 1 => sBind c fun k => if k then fun r1 => (match b r1 with
    | some (.nx r2) => whGo c b n r2
    | some (.ct r2) => whGo c b n r2
    | some (.bk r2) => some (.nx r2)
    | o => o) else sNil
section
variable {K : PySem.W.Frag} {E : XE} {X : Cx} {st : Stmt} {body : List Stmt} {b : SM} {mc : M Bool} {c iter tg : Expr} {pos : Pos}
theorem ds_for {mi : M (List PyData)} {ts : List Nat} {g : PyData → En → Option En} (hp : PassesOwn (model X.prog X.w) X.A X.env X.xe) (hc : X.calm = true) (hi : DI K E X tg iter mi) (hg : DG K X tg ts g) (hb : DSs K E X body b)
    (hs : ∀ x, foldedSetIterable iter X.env x = pure x := by intro _; rfl) : DS K E X (.For tg iter body [] pos) (sFor mi g b) := ⟨fun hK => PS.imp (ps_for hp hc (hi.pi hK) (hg.pg hK) (hb.ps hK) hs) fun D σ H ⟨F, O, G, r, fl, P, em, f⟩ => by
  refine tS.run P f em fun items r1 J G1 H1 P1 g1 q1 e1 f1 => ?_
  refine ⟨fun i n σ H => n = items.length - i ∧ i ≤ items.length ∧ ∃ O' G' r', Rp K F O' G' σ H r' ∧ Same G1 G' ∧ forGo g b (items.drop i) r' = some fl, ⟨items.length, by simp, Nat.zero_le _, O, G1, r1, P1, Same.refl _, e1⟩, ?_⟩
  rintro i n σ H ⟨rfl, hi, O', G', r', P2, g2, e2⟩
  by_cases hlt : i < items.length
  · have e3 := List.getElem?_eq_getElem hlt
    obtain ⟨jgo, jy⟩ := (q1 i H G' g2 P2.sub).1 _ e3
    rw [List.drop_eq_getElem_cons hlt] at e2
    refine .inr ⟨jgo, _, fun σ' H' p => ⟨_, (by omega : items.length - (i + 1) < items.length - i), p⟩, fun x H' y => ?_⟩
    obtain ⟨G2, ps, hd⟩ := jy x H' y
    obtain ⟨r3, e4, e5⟩ := Option.bind_eq_some_iff.mp e2
    refine ⟨F, O', G2, r', r3, _, P2.ps ps, hd, e4, fun σ2 P3 _ _ => ?_⟩
    have g3 := g2.trans ps.gg
    cases eb : b r3 with
    | none => rw [eb] at e5; cases e5
    | some fb =>
      rw [eb] at e5
      refine ⟨F, O', G2, r3, fb, P3, eb, ?_⟩
      cases fb with
      | nx r4 => exact fun O4 G4 σ4 H4 P4 g4 => ⟨rfl, hlt, O4, G4, r4, P4, g3.trans g4, e5⟩
      | ct r4 => exact fun O4 G4 σ4 H4 P4 g4 => ⟨rfl, hlt, O4, G4, r4, P4, g3.trans g4, e5⟩
      | bk r4 =>
        cases e5
        exact fun O4 G4 σ4 H4 P4 g4 => f1 O4 G4 σ4 H4 P4 (g3.trans g4)
      | rt d r4 =>
        cases e5
        exact fun O4 G4 σ4 H4 v P4 g4 => f1 O4 G4 σ4 H4 v P4 (g3.trans g4)
      | ex c p =>
        cases e5
        exact f1
      | rf ds r4 =>
        cases e5
        exact fun O4 G4 σ4 H4 p ys P4 g4 => f1 O4 G4 σ4 H4 p ys P4 (g3.trans g4)
  · have e3 : i = items.length := by omega
    subst e3
    rw [List.drop_length] at e2
    cases e2
    exact .inl ⟨(q1 _ H G' g2 P2.sub).2 (Nat.le_refl _), f1 O' G' σ H P2 g2⟩⟩
theorem ds_while (n : Nat) (hp : PassesOwn (model X.prog X.w) X.A X.env X.xe) (hc : DT K E X c mc) (hb : DSs K E X body b) : DS K E X (.While c body [] pos) (whGo mc b n) := ⟨fun hK => PS.imp (ps_while hp (hc.pt hK) (hb.ps hK)) fun D σ H ⟨F, O, G, r, fl, P, em, f⟩ => by
  refine ⟨fun n σ H => ∃ O' G' r', Rp K F O' G' σ H r' ∧ Same G G' ∧ whGo mc b n r' = some fl, ⟨n, O, G, r, P, Same.refl _, em⟩, ?_⟩
  rintro n σ H ⟨O', G', r', P2, g2, e2⟩
  cases n with
  | zero => cases e2
  | succ n =>
    refine tS.run P2 (f.via g2) e2 fun k r1 x G1 H1 P1 g1 q1 e1 f1 => ?_
    cases q1
    cases k with
    | false =>
      cases e1
      exact iteF (f1 O' G1 σ H1 P1 (Same.refl _))
    | true =>
      refine iteT ⟨_, fun σ' H' p => ⟨n, Nat.lt_succ_self n, p⟩, ?_⟩
      simp only [if_true] at e1
      have g3 := g2.trans g1.gg
      cases eb : b r1 with
      | none => rw [eb] at e1; cases e1
      | some fb =>
        rw [eb] at e1
        refine ⟨F, O', G1, r1, fb, P1, eb, ?_⟩
        cases fb with
        | nx r4 => exact fun O4 G4 σ4 H4 P4 g4 => ⟨O4, G4, r4, P4, g3.trans g4, e1⟩
        | ct r4 => exact fun O4 G4 σ4 H4 P4 g4 => ⟨O4, G4, r4, P4, g3.trans g4, e1⟩
        | bk r4 =>
          cases e1
          exact fun O4 G4 σ4 H4 P4 g4 => f1 O4 G4 σ4 H4 P4 g4
        | rt d r4 =>
          cases e1
          exact fun O4 G4 σ4 H4 v P4 g4 => f1 O4 G4 σ4 H4 v P4 g4
        | ex c p =>
          cases e1
          exact f1
        | rf ds r4 =>
          cases e1
          exact fun O4 G4 σ4 H4 p ys P4 g4 => f1 O4 G4 σ4 H4 p ys P4 g4⟩
/-- return a new list, return the list that a slot owns -/
def sRetF (m : M (List PyData)) : SM := sBind m fun ds r => some (.rf ds r)
end
end DL
namespace DL
open PySem PySem.Spec PyProof.Rows L2 Lk
def Has (P : Program) (w : World) (K : PySem.W.Frag) (mg : Str → Option Value) (base : Heap) (k : Nat) (x : Str) (ps : List Str) (sp : Sp) : Prop :=
  ∃ (f : Addr) (fd : FuncData), FnOk P w K mg base CX0 k f fd ps sp ∧ Binds K fd ps [] ∧ mg x = some (.ref f) ∧ PySem.W.keepIn K (.ref f) = true
theorem Has.mono {P : Program} {w : World} {K : PySem.W.Frag} {mg : Str → Option Value} {base : Heap} {k j : Nat} {x : Str} {ps : List Str} {sp : Sp} (h : Has P w K mg base k x ps sp) (l : k ≤ j) : Has P w K mg base j x ps sp := by
  obtain ⟨f, fd, F, r⟩ := h
  exact ⟨f, fd, F.mono l, r⟩
section
variable {K : PySem.W.Frag} {E : XE} {X : Cx} {e : Expr} {es : List Expr} {m : M (List PyData)} {pos : Pos}
theorem dc {x : Str} {p : Pos} {k : Nat} {ps : List Str} {g : List PyData → Option PyData} (G : Has X.prog X.w K X.mg X.base k x ps (spD K g)) (hr : Room k X.A) (hg : Gl X x)
    (ha : DA K E X (e :: es) m) (hdb : (x == ("__debug__" : Str)) = false := by decide) (he : starEach (e :: es) X.env = (false, eval e X.env) :: starEach es X.env := by rfl)
    (hpl : (backTo pos (starEach es X.env)).any (·.1) = false := by rfl) : DE K E X (.Call (.Name x p) (e :: es) [] pos) (m.bind fun ds => M.lift (g ds)) := by
  obtain ⟨f, fd, F, b, gm, kp⟩ := G
  exact de_call F b gm kp hr hg ha hdb he hpl
/-- f(xs, ..), f changes the list of slot i -/
def mCallM (i : Nat) (m : M (List PyData)) (g : List PyData → List PyData → Option (PyData × List PyData)) : M PyData := fun r0 => if (ownOf r0[i]?).isSome then (m.bind fun ds r => match ownOf r[i]? with
  | some bs => (g bs ds).map fun z => .ok z.1 (upO i z.2 r)
  | none => none) r0 else none
theorem isSome_ex {α : Type} {o : Option α} (h : o.isSome = true) : ∃ a, o = some a := by
  cases o with
  | none => cases h
  | some a => exact ⟨a, rfl⟩
theorem Rp.own_dp {F : Fm} {O : Ow} {G H : Hp} {σ : L2.St} {r : En} (R : Rp K F O G σ H r) {i : Nat} {ds : List PyData} (e : ownOf r[i]? = some ds) : ∃ p xs, σ[i]? = some (some (.ref p)) ∧ H p = some (.lst xs) ∧ DqAll K G xs ds ∧ Dp K H (.ref p) (.list ds) := by
  obtain ⟨p, xs, h1, h2, h3, h4⟩ := R.own_at e
  exact ⟨p, xs, h2, h3, h4, .lst (.inl (.inl h3)) (h4.sm R.sub).dp⟩
def mLenO (i : Nat) : M PyData := fun r => match ownOf r[i]? with
  | some ds => some (.ok (.int ds.length) r)
  | none => none
theorem de_lenO (i : Nat) {y : Str} {p p2 : Pos} (hg : Gl X "len") (hm : X.mg "len" = none) (hN : X.N[i]? = some y := by rfl) (hv : Vis X.env.scope y := by first | exact Or.inl rfl | exact Or.inr (Or.inl rfl) | exact Or.inr (Or.inr rfl)) (hd : (y == ("__debug__" : Str)) = false := by decide) (hcd : (y == ("__classdict__" : Str)) = false := by decide)
    (he : starEach [.Name y p2] X.env = (false, eval (.Name y p2) X.env) :: starEach [] X.env := by rfl) : DE K E X (.Call (.Name "len" p) [.Name y p2] [] pos) (mLenO i) := ⟨fun hK => by
  subst hK
  refine PE.imp (pe_callB call_len_seq hg hm PySem.boot_len (pa_cons (pe_var hN hv hd hcd) pa_nil he) (by decide) (by decide) he (by rfl)) fun σ H Q ⟨F, O, G, r, out, P, em, ff⟩ => ?_
  unfold mLenO at em
  split at em
  · rename_i ds e0
    cases em
    obtain ⟨q, xs, h1, h2, h3, h4⟩ := P.own_dp e0
    exact ⟨_, h1, q, xs, rfl, .inl (.inl (.inl h2)), by rw [h3.length]; exact ff.ok (Ps.refl P.sub) P (.int _)⟩
  · cases em⟩
def mIxO (i : Nat) (m : M PyData) : M PyData := fun r0 => if (ownOf r0[i]?).isSome then (m.bind fun d r => match ownOf r[i]?, asInt d with
  | some ds, some j => (atI ds j).map fun z => .ok z r
  | _, _ => none) r0 else none
def mTruO (i : Nat) : M Bool := fun r => match ownOf r[i]? with
  | some ds => some (.ok (!ds.isEmpty) r)
  | none => none
theorem dt_truO (i : Nat) {y : Str} {p2 : Pos} (hN : X.N[i]? = some y := by rfl) (hv : Vis X.env.scope y := by first | exact Or.inl rfl | exact Or.inr (Or.inl rfl) | exact Or.inr (Or.inr rfl)) (hd : (y == ("__debug__" : Str)) = false := by decide) (hcd : (y == ("__classdict__" : Str)) = false := by decide) :
    DT K E X (.Name y p2) (mTruO i) := ⟨fun hK => by
  subst hK
  refine PT.imp (pt_truth (pe_var hN hv hd hcd) (by intro _; rfl)) fun σ H Q ⟨F, O, G, r, out, P, em, ff⟩ => ?_
  unfold mTruO at em
  split at em
  · rename_i ds e0
    cases em
    obtain ⟨q, xs, h1, h2, h3, h4⟩ := P.own_dp e0
    refine ⟨_, h1, _, .inl ⟨xs, .inl (.inl h2), rfl⟩, ?_⟩
    have e : xs.isEmpty = ds.isEmpty := by
      have := h3.length
      cases xs <;> cases ds <;> first | rfl | (cases this)
    rw [e]
    exact ff.ok (Ps.refl P.sub) P rfl
  · cases em⟩
/-- a datum as a test: a list, a tuple, a text, a whole number, a bool, None -/
def truD : PyData → Option Bool
  | .none => some false
  | .bool b => some b
  | .int i => some (i != 0)
  | .str x => if x.length ≤ 1000000 then some ((x.length : Int) != 0) else none
  | .list ds => some (!ds.isEmpty)
  | .tuple ds => some (!ds.isEmpty)
  | .dict _ => none
theorem dq_empty {G : Hp} {xs : List V} {ds : List PyData} (h : DqAll K G xs ds) : xs.isEmpty = ds.isEmpty := by
  cases h <;> rfl
theorem dt_tru {ma : M PyData} (ha : DE K E X e ma) (he : ∀ whole, isTrue e X.env whole = (do let v ← whole; standAt e.pos; holding [v] (truthy v)) := by intro _; rfl) : DT K E X e (ma.bind fun d => M.lift (truD d)) := ⟨fun hK => by
  subst hK
  refine PT.imp (pt_truth (ha.pe rfl) he) fun σ H Q ⟨F, O, G, r, out, P, em, f⟩ => ?_
  refine tM.run P f em fun d r1 x G1 H1 P1 g1 q1 e1 f1 => ?_
  obtain ⟨b, hb, rfl⟩ := lift_ok e1
  have fin : Q b H1 := f1.ok (Ps.refl P1.sub) P1 rfl
  refine ⟨b, ?_, fin⟩
  cases q1 with
  | non => cases hb; rfl
  | bl b => cases hb; rfl
  | int i => cases hb; rfl
  | str x =>
    simp only [truD] at hb
    split at hb
    · rename_i hl
      cases hb
      exact ⟨line_le hl, rfl⟩
    · cases hb
  | lst hs ha =>
    cases hb
    exact .inl ⟨_, (P1.sub.seq hs), by rw [dq_empty ha]⟩
  | tup hs ha =>
    cases hb
    exact .inr (.inl ⟨_, Lk.Same.tup P1.sub hs, by rw [dq_empty ha]⟩)⟩
/-- xs.pop() -/
def mPop (i : Nat) : M PyData := fun r => match ownOf r[i]? with
  | some ds => (ds[ds.length - 1]?).map fun z => .ok z (upO i ds.dropLast r)
  | none => none
theorem de_pop (i : Nat) {y : Str} {p2 ap : Pos} (hN : X.N[i]? = some y := by rfl) (hv : Vis X.env.scope y := by first | exact Or.inl rfl | exact Or.inr (Or.inl rfl) | exact Or.inr (Or.inr rfl)) (hd : (y == ("__debug__" : Str)) = false := by decide) (hcd : (y == ("__classdict__" : Str)) = false := by decide)
    (hb : attributeBase (.Name y p2) "pop" X.env (eval (.Name y p2) X.env) = eval (.Name y p2) X.env := by rfl) (hpe : PE X (.Call (.Attribute (.Name y p2) "pop" ap) [] [] pos) (tBM0 X.K "list" rPop (tVar i))) :
    DE K E X (.Call (.Attribute (.Name y p2) "pop" ap) [] [] pos) (mPop i) := ⟨fun hK => by
  subst hK
  refine PE.imp hpe fun σ H Q ⟨F, O, G, r, out, P, em, ff⟩ => ?_
  unfold mPop at em
  split at em
  · rename_i ds e0
    obtain ⟨z, hz, rfl⟩ := Option.map_eq_some_iff.mp em
    obtain ⟨p, xs, h1, h2, h3, h4⟩ := P.own_at e0
    obtain ⟨v, h5, h6⟩ := h4.get hz
    refine ⟨_, h2, .inl ⟨rfl, _, .inl (.inl h3)⟩, p, xs, v, rfl, rfl, h3, by rw [h4.length]; exact h5, ?_⟩
    have gp := (P.on i p h1).2.1
    obtain ⟨P2, g2⟩ := P.chg e0 h1 (Same.refl G) (fun c o e => by rw [upd_ne (ne_of_none e gp)]; exact P.sub _ _ e) gp (fun c o n e => by rw [upd_ne n]; exact e) (fun c e => .inl e) (upd_same (o := .lst xs.dropLast)) (h4.dropLast)
    exact ff _ _ _ P2 g2 h6
  · cases em⟩
/-- xs.append(e) as a statement -/
def sApp (i : Nat) (m : M PyData) : SM := fun r0 => if (ownOf r0[i]?).isSome then sBind m (fun d r => match ownOf r[i]? with
  | some ds => if ds.length ≤ 1000000 then some (.nx (upO i (ds ++ [d]) r)) else none
  | none => none) r0 else none
theorem ds_app (i : Nat) {st : Stmt} {te : TE} {ma : M PyData} (ha : X.K = K → ∀ σ H Q, tM K E (rD K) ma σ H Q → te σ H Q) (hp : PS X st (tDrop (tBM X.K "list" rAppend (tVar i) (tCons te tNil)))) : DS K E X st (sApp i ma) := ⟨fun hK => by
  subst hK
  refine PS.imp hp fun D σ H ⟨F, O, G, r, fl, P, em, ff⟩ => ?_
  unfold sApp at em
  split at em
  · rename_i hs
    obtain ⟨bs0, e0⟩ := isSome_ex hs
    obtain ⟨q, xs0, hq, hσ, hx0, _⟩ := P.own_at e0
    refine ⟨_, hσ, .inl ⟨rfl, _, .inl (.inl hx0)⟩, ha rfl _ _ _ (tS.run P ff em fun d r1 x G1 H1 P1 g1 q1 e1 f1 => ?_)⟩
    split at e1
    · rename_i ds e2
      split at e1
      · rename_i hl
        cases e1
        obtain ⟨q', xs1, hq', hσ', hx, hb⟩ := P1.own_at e2
        rw [hq] at hq'
        cases hq'
        refine ⟨q, xs1, x, rfl, rfl, hx, line_lt (by rw [hb.length]; exact hl), ?_⟩
        have gp := (P1.on i q hq).2.1
        obtain ⟨P2, g2⟩ := P1.chg e2 hq (Same.refl G1) (fun c o e => by rw [upd_ne (ne_of_none e gp)]; exact P1.sub _ _ e) gp (fun c o n e => by rw [upd_ne n]; exact e) (fun c e => .inl e) (upd_same (o := .lst (xs1 ++ [x]))) (hb.append (.cons q1 .nil))
        exact f1 O G1 σ _ P2 (Same.refl _)
      · cases e1
    · cases e1
  · cases em⟩
/-- xs[a] = b -/
def sPutIx (i : Nat) (ma mb : M PyData) : SM := sBind mb fun d r1 => if (ownOf r1[i]?).isSome then sBind ma (fun j r => match ownOf r[i]?, asInt j with
  | some ds, some j => (ixN ds.length j).map fun n => .nx (upO i (ds.set n d) r)
  | _, _ => none) r1 else none
end
def ini (N : List Str) (ds : List PyData) : En := ds.map Cel.pl ++ List.replicate (N.length - ds.length) .un
section
variable {P : Program} {w : World} {K : PySem.W.Frag} {mg : Str → Option Value} {base : Heap}
theorem start_rp {N : List Str} {G H : Hp} {vs : List V} {ds : List PyData} (sg : Same G H) (hd : DqAll K G vs ds) : Rp K ⟨H, G, fun _ => none⟩ (fun _ => none) G (L2.start N vs) H (ini N ds) := by
  have hl := hd.length
  refine ⟨sg, by simp [L2.start, ini, hl], fun i d e => ?_, fun i ds' e => ?_, fun i ds' e => ?_, fun i ds' e => ?_, fun i p e => (by cases e), fun i j p e => (by cases e), fun c o e _ => e, fun c e => e, Same.refl _, fun c e => .inl e⟩
  all_goals
    unfold ini at e
    rw [List.getElem?_append] at e
    split at e
    · rename_i hi
      rw [List.length_map] at hi
      rw [List.getElem?_map] at e
      obtain ⟨d', h1, h2⟩ := Option.map_eq_some_iff.mp e
      first
      | (cases h2
         obtain ⟨v, h3, h4⟩ := hd.get h1
         refine ⟨v, ?_, h4⟩
         unfold L2.start
         rw [List.getElem?_append_left (by rw [List.length_map, hl]; exact hi), List.getElem?_map, h3]
         rfl)
      | cases h2
    · rw [List.getElem?_replicate] at e
      split at e
      · cases e
      · cases e
theorem def_D {x qual : Str} {st : Stmt} {f : Addr} {fd : FuncData} {N ps : List Str} {k : Nat} {g : List PyData → Option PyData} {sv : SM} (F : Fun K x qual st f fd) (S : FnScope N ps (defScope st))
    (h : ∀ (cdv : Value) (A : Around) (outer : List Env) (s : Shared) (H : Hp) (E : XK), Room k (A.deeper (envOfC qual (defScope st) s.heap.objs.size f cdv)) → DSs K XN (cxOf CX0 P w K mg base N qual (defScope st) f cdv A outer s H E).nox (defBody st) sv)
    (sp : ∀ ds z, g ds = some z → ds.length = ps.length ∧ ∃ r', sv (ini N ds) = some (.rt z r') ∨ z = .none ∧ sv (ini N ds) = some (.nx r')) : FnOk P w K mg base CX0 (k + 1) f fd ps (spD K g) := by
  refine F.ok S (fun vs H Q E ⟨G, ds, z, sg, hd, hz, q⟩ => by rw [hd.length]; exact (sp ds z hz).1) fun cdv A outer s H vs Q E hr ⟨G, ds, z, sg, hd, hz, q⟩ => ?_
  refine ⟨_, (h cdv A outer s H E hr).ps rfl, ?_⟩
  obtain ⟨_, r', e | ⟨rfl, e⟩⟩ := sp ds z hz
  · exact ⟨_, _, G, _, _, start_rp sg hd, e, fun O' G' σ' H' v R g hv => q v G' H' ⟨R.g0, R.sub, fun c o e => R.old c o e fun i z => (nomatch z), R.gn⟩ hv⟩
  · exact ⟨_, _, G, _, _, start_rp sg hd, e, fun O' G' σ' H' R g => q .non G' H' ⟨R.g0, R.sub, fun c o e => R.old c o e fun i z => (nomatch z), R.gn⟩ .non⟩
end
end DL
namespace DL
open PySem PySem.Spec PyProof.Rows L2 Lk
def mOp2 (g : PyData → PyData → Option PyData) (ma mb : M PyData) : M PyData := ma.bind fun d => mb.bind fun e => M.lift (g d e)
def mOpT (g : PyData → PyData → Option PyData) (ma mb : M PyData) : M Bool := ma.bind fun d => mb.bind fun e => M.lift ((g d e).bind asBool)
def mCons (ma : M PyData) (m : M (List PyData)) : M (List PyData) := ma.bind fun d => m.bind fun ds => M.ret (d :: ds)
def mNil : M (List PyData) := M.ret []
def mCall (g : List PyData → Option PyData) (m : M (List PyData)) : M PyData := m.bind fun ds => M.lift (g ds)
def mCallF (g : List PyData → Option (List PyData)) (m : M (List PyData)) : M (List PyData) := m.bind fun ds => M.lift (g ds)
def mTup (m : M (List PyData)) : M PyData := m.bind fun ds => M.lift (tupM ds)
def mLst (m : M (List PyData)) : M (List PyData) := m.bind fun ds => M.lift (lstM ds)
def mNew (m : M (List PyData)) : M PyData := m.map PyData.list
def mVal (m : M PyData) : M Bool := m.bind fun d => M.lift (asBool d)
def mTru (m : M PyData) : M Bool := m.bind fun d => M.lift (truD d)
def mNotT (m : M Bool) : M Bool := m.bind fun b => M.ret (!b)
def mNotV (m : M PyData) : M PyData := m.bind fun d => (M.lift (asBool d)).bind fun b => M.ret (.bool (!b))
def mIsi (n : String) (m : M PyData) : M PyData := m.bind fun d => M.ret (.bool (isTy n d))
def mNeg (m : M PyData) : M PyData := m.bind fun d => M.lift (negM d)
def mSeq (m : M PyData) : M (List PyData) := m.bind fun d => M.lift (asSeq d)
def mRng1 (m : M (List PyData)) : M (List PyData) := m.bind fun ds => M.lift (if ds.length = 1 then rngM ds else none)
def mRng2 (m : M (List PyData)) : M (List PyData) := m.bind fun ds => M.lift (if ds.length = 2 then rngM ds else none)
def mPart (m : M PyData) : M (Option Int) := m.bind fun d => M.lift ((asInt d).map some)
def mNoPart : M (Option Int) := M.ret none
def mSlice (m : M PyData) (ml mh : M (Option Int)) : M (List PyData) := m.bind fun d => ml.bind fun l => mh.bind fun h => M.lift ((asList d).map fun ds => cutD ds l h)
def sAsg (m : M PyData) (g : PyData → En → Option En) : SM := sBind m fun d r => (g d r).map .nx
def sBrk : SM := fun r => some (.bk r)
def sCont : SM := fun r => some (.ct r)
def sNo : SM := fun _ => none
def outD : Option Fl → Option PyData
  | some (.rt z _) => some z
  | some (.nx _) => some .none
  | _ => none
def runD (N : List Str) (n : Nat) (sv : SM) (ds : List PyData) : Option PyData := if ds.length = n then outD (sv (ini N ds)) else none
def ioAt (r : En) : Option (List PyData) := match r[0]? with
  | some (Cel.io bs) => some bs
  | _ => none
def outM : Option Fl → Option (PyData × List PyData)
  | some (.rt z r) => (ioAt r).map fun bs => (z, bs)
  | some (.nx r) => (ioAt r).map fun bs => (.none, bs)
  | _ => none
section
variable {P : Program} {w : World} {K : PySem.W.Frag} {mg : Str → Option Value} {base : Heap}
theorem def_d {x qual : Str} {st : Stmt} {f : Addr} {fd : FuncData} {N ps : List Str} {k n : Nat} {sv : SM} (F : Fun K x qual st f fd) (S : FnScope N ps (defScope st)) (hb : Binds K fd ps []) (hm : mg x = some (.ref f))
    (h : ∀ (cdv : Value) (A : Around) (outer : List Env) (s : Shared) (H : Hp) (E : XK), Room k (A.deeper (envOfC qual (defScope st) s.heap.objs.size f cdv)) → DSs K XN (cxOf CX0 P w K mg base N qual (defScope st) f cdv A outer s H E).nox (defBody st) sv)
    (hn : ps.length = n := by rfl) : Has P w K mg base (k + 1) x ps (spD K (runD N n sv)) := by
  refine ⟨f, fd, def_D F S h fun ds z e => ?_, hb, hm, F.kp⟩
  unfold runD at e
  split at e
  · rename_i hl
    refine ⟨hl.trans hn.symm, ?_⟩
    cases q : sv (ini N ds) with
    | none => rw [q] at e; cases e
    | some fl =>
      rw [q] at e
      cases fl with
      | rt d r => cases e; exact ⟨r, .inl rfl⟩
      | nx r => cases e; exact ⟨r, .inr ⟨rfl, rfl⟩⟩
      | _ => cases e
  · cases e
end
end DL
namespace DL
open PySem PySem.Spec PyProof.Rows L2 Lk
def shrM : PyData → PyData → Option PyData
  | .int a, .int b => if 0 ≤ b then some (.int (a / 2 ^ b.toNat)) else none
  | _, _ => none
section
variable {K : PySem.W.Frag} {E : XE} {X : Cx} {a b e : Expr} {es : List Expr} {ma mb : M PyData} {m : M (List PyData)} {pos : Pos}
theorem opd_shr : OpD K X (binaryOp .RShift) shrM := fun hK => by
  intro pins s σ H x y v u Q I rx ry h
  obtain ⟨G, d, e, z, sg, hd, he, hz, q⟩ := h
  unfold shrM at hz
  split at hz
  · split at hz
    · rename_i hl
      cases hz; cases hd; cases he
      exact op_shr pins s σ H _ _ v u Q I rx ry ⟨_, _, rfl, rfl, hl, q _ G H (Ps.refl sg) (.int _)⟩
    · cases hz
  · cases hz
/-- [*xs, a, ..] -/
def mStar (ma : M PyData) (m : M (List PyData)) : M (List PyData) := ma.bind fun d => (M.lift (asSeq d)).bind fun xs => m.bind fun ds => M.ret (xs ++ ds)
theorem da_star {p : Pos} (ha : DE K E X e ma) (hr : DA K E X es m) (hs : starEach (.Starred e p :: es) X.env = (true, eval e X.env) :: starEach es X.env := by rfl) : DA K E X (.Starred e p :: es) (mStar ma m) := ⟨fun hK => by
  subst hK
  refine PA.imp (StX.pa_star (ha.pe rfl) (hr.pa rfl) hs) fun σ H Q ⟨F, O, G, r, out, P, em, f⟩ => ?_
  refine tM.run P f em fun d r1 x G1 H1 P1 g1 q1 e1 f1 => ?_
  obtain ⟨xs, hx, e2⟩ := bind_lift_ok e1
  have go : ∀ (ys : List V), DqAll X.K G1 ys xs → tM X.K E (rA X.K) m σ H1 fun zs H2 => Q (ys ++ zs) H2 := fun ys hy => tM.run P1 f1 e2 fun ds r2 zs G2 H2 P2 g2 q2 e3 f2 => by
    cases e3
    exact f2.ok (Ps.refl P2.sub) P2 ((hy.sm g2.gg).append q2)
  cases d <;> first | cases hx | skip
  · cases q1 with
    | lst hs ha => exact ⟨_, _, rfl, .inr ((P1.sub.seq hs)), go _ ha⟩
  · cases q1 with
    | tup hs ha => exact ⟨_, _, rfl, .inl (Lk.Same.tup P1.sub hs), go _ ha⟩⟩
/-- list(range(n)) -/
def mLRng1 (ma : M PyData) : M (List PyData) := ma.bind fun d => M.lift ((asInt d).bind fun n => if n.natAbs ≤ 1000000 then some (rngL 0 n.toNat) else none)
theorem dq_rng {G : Hp} {a b : Int} : DqAll K G (rgV a b) (rngL a (b - a).toNat) := by
  have key : ∀ l : List Nat, DqAll K G (l.map fun i => V.int (a + (i : Nat))) (l.map fun i => PyData.int (a + (i : Nat))) := fun l => by
    induction l with
    | nil => exact .nil
    | cons i l ih => exact .cons (.int _) ih
  exact key _
theorem df_lrng1 {p p2 pos2 : Pos} (hc : X.calm = true) (hg : Gl X "list") (hm : X.mg "list" = none) (hg2 : Gl X "range") (hm2 : X.mg "range" = none) (ha : DE K E X a ma) (na : starEach [a] X.env = (false, eval a X.env) :: starEach [] X.env := by rfl)
    (na2 : starEach [.Call (.Name "range" p2) [a] [] pos2] X.env = (false, eval (.Call (.Name "range" p2) [a] [] pos2) X.env) :: starEach [] X.env := by rfl) : DF K E X (.Call (.Name "list" p) [.Call (.Name "range" p2) [a] [] pos2] [] pos) (mLRng1 ma) := ⟨fun hK => by
  refine PE.imp (pe_listRg hc hg hm (prg_1 hg2 hm2 (ha.pe hK) na) na2) fun σ H Q ⟨F, O, G, r, out, P, em, f⟩ => ?_
  refine tM.run P f em fun d r1 x G1 H1 P1 g1 q1 e1 f1 => ?_
  obtain ⟨z, hz, rfl⟩ := lift_ok e1
  obtain ⟨n, hn, hz2⟩ := Option.bind_eq_some_iff.mp hz
  cases asInt_some hn
  cases q1
  split at hz2
  · rename_i hl
    cases hz2
    refine ⟨n, rfl, ⟨by omega, by omega, by omega, by omega, by omega⟩, fun q nq => f1.ok (Ps.of_same P1.sub (same_new nq)) P1 ⟨q, _, rfl, nq, P1.sub.free nq, P1.nf _ nq, fun i z => (P1.on i q z).2.2.1 nq, upd_same, ?_⟩⟩
    have := dq_rng (K := K) (G := G1) (a := 0) (b := n)
    rw [Int.sub_zero] at this
    exact this
  · cases hz2⟩
/-- a, b = x, y -/
def sPar (i j : Nat) (m : M (List PyData)) : SM := sBind m fun ds r => match ds with
  | [d, e] => sSeq (sPut i d) (sPut j e) r
  | _ => none
def rMt (K : PySem.W.Frag) (g : PyData → List PyData → Option PyData) : V → List V → Hp → VK → Prop := fun x xs H Q => ∃ G d ds z, Same G H ∧ Dq K G x d ∧ DqAll K G xs ds ∧ g d ds = some z ∧ ∀ v G' H', Ps G H G' H' → Dq K G' v z → Q v H'
def MtD (K : PySem.W.Frag) (X : Cx) (id : String) (g : PyData → List PyData → Option PyData) : Prop := X.K = K → MtR X id (rMt K g)
/-- of that built-in type, one that bears methods here -/
def hasT (T : String) : PyData → Bool
  | .str _ => T == "str"
  | .int _ => T == "int"
  | .list _ => T == "list"
  | _ => false
def mMt (T : String) (g : PyData → List PyData → Option PyData) (ma : M PyData) (m : M (List PyData)) : M PyData := ma.bind fun d => if hasT T d then m.bind fun ds => M.lift (g d ds) else fun _ => none
theorem dq_ty {G H : Hp} {x : V} {d : PyData} {T : String} (h : Dq K G x d) (s : Same G H) (t : hasT T d = true) : tyV K T x H := by
  cases h with
  | str x => exact eq_of_beq t
  | int i => exact eq_of_beq t
  | lst hs ha => exact .inl ⟨eq_of_beq t, _, (s.seq hs)⟩
  | _ => cases t
theorem de_bm {T id : String} {name : Str} {ap : Pos} {g : PyData → List PyData → Option PyData} (pa : PlainAttrs T) (slot : Slot T name id) (hty : typeOf (.builtin id) = pure (.type "method_descriptor")) (hm : MtD K X id g) (ho : DE K E X a ma) (ha : DA K E X (e :: es) m)
    (hbase : attributeBase a name X.env (eval a X.env) = eval a X.env := by rfl)
    (hfew : ((backTo pos (starEach (e :: es) X.env)).all (fun x => !x.1) && (backToKw pos (keywordEach [] X.env)).all (fun x => x.1.isSome)
      && decide ((e :: es).length + ([] : List Keyword).length + (if ([] : List Keyword).isEmpty then 0 else 1) < 30)) = true := by rfl)
    (hline : (ap.endLine == pos.line) = true := by rfl) (hs : starEach (e :: es) X.env = (false, eval e X.env) :: starEach es X.env := by rfl) (hplain : (backTo pos (starEach es X.env)).any (·.1) = false := by rfl) :
    DE K E X (.Call (.Attribute a name ap) (e :: es) [] pos) (mMt T g ma m) := ⟨fun hK => by
  subst hK
  refine PE.imp (pe_bm pa slot hty (hm rfl) (ho.pe rfl) (ha.pa rfl) hbase hfew hline hs hplain) fun σ H Q ⟨F, O, G, r, out, P, em, f⟩ => ?_
  refine tM.run P f em fun d r1 x G1 H1 P1 g1 q1 e1 f1 => ?_
  split at e1
  · rename_i ht
    refine ⟨dq_ty q1 P1.sub ht, tM.run P1 f1 e1 fun ds r2 xs G2 H2 P2 g2 q2 e2 f2 => ?_⟩
    obtain ⟨z, hz, rfl⟩ := lift_ok e2
    exact ⟨G2, d, ds, z, P2.sub, q1.sm g2.gg, q2, hz, fun v G' H' p q => f2.ok p P2 q⟩
  · cases e1⟩
def countM : PyData → List PyData → Option PyData
  | .list ds, [d] => if flatD d && ds.all flatD then some (.int ((ds.countP fun z => PyData.eqv z d : Nat) : Int)) else none
  | _, _ => none
theorem countP_eqU {x : V} : ∀ {xs : List V} {us : List Value}, Vals xs us → xs.all flatV = true → us.countP (eqU x) = xs.countP fun y => eqV y x
  | [], [], .nil, _ => rfl
  | y :: xs, u :: us, .cons r t, f => by
    rw [List.all_cons, Bool.and_eq_true] at f
    rw [List.countP_cons, List.countP_cons, eqU_of r f.1, countP_eqU t f.2]
theorem dq_countV {G : Hp} {x : V} {d : PyData} (hx : Dq K G x d) (f : flatD d = true) : ∀ {vs : List V} {ds : List PyData}, DqAll K G vs ds → ds.all flatD = true → (vs.countP fun y => eqV y x) = ds.countP fun z => PyData.eqv z d
  | _, _, .nil, _ => rfl
  | _, _, .cons h1 h2, g => by
    rw [List.all_cons, Bool.and_eq_true] at g
    rw [List.countP_cons, List.countP_cons, dq_countV hx f h2 g.2, dq_eqV h1 hx g.1 f]
theorem mtd_count : MtD K X "list.count" countM := fun hK => by
  subst hK
  intro pins s σ H x xs v us Q I rx rxs h
  obtain ⟨G, d, ds, z, sg, hd, hds, hz, q⟩ := h
  unfold countM at hz
  split at hz
  · split at hz
    · rename_i hfl
      rw [Bool.and_eq_true] at hfl
      cases hz
      cases hd with
      | lst hs ha =>
        cases rx
        obtain ⟨w, rfl, hw⟩ := one_of hds
        obtain ⟨u, rfl, ru⟩ := rxs.one
        obtain ⟨its, rv, ⟨⟨cls, dd, data, sl⟩, n, ho, hc, hdn, hdt⟩, hlen⟩ := I.list ((sg.seq hs))
        simp only at hc hdt
        subst hc hdt
        have fw := dq_flat hw hfl.1
        have fx := dq_flats ha hfl.2
        refine call_meets PySem.F.slot_list_count ⟨_, ho, rfl⟩ PySem.F.entry_list_count (PySem.F.args_list_count_2 _ _)
          (SeqAt.list_countAt _ its.toArray n dd sl u (eqU w)) ⟨ho, fun y hy => mem_eqAt ru fw rv fx y (by simpa using hy), ?_⟩
        have ec : its.toArray.toList.countP (eqU w) = _ := (countP_eqU rv fx).trans (dq_countV hw hfl.1 ha hfl.2)
        refine ⟨.int _, H, I.tok _, ⟨s.toks, ?_⟩, q _ G H (Ps.refl sg) (.int _)⟩
        show Value.int ((its.toArray.toList.countP (eqU w) : Nat) : Int) s.toks = _
        rw [ec]
    · cases hz
  · cases hz
open PySem.AutoSeq1 in
theorem list_extend_tupA (l : Addr) (items : Array Value) (n : Nat) (b : Addr) (items2 : Array Value) (n2 : Nat) (od : Option Addr) (sl : Array (Option Value)) (hs0 : ¬(!items.isEmpty && Builtin.List.listTooLong (items.size + items2.size)) = true) (hs1 : items.size ≤ sizeLine) (hs2 : items.size + items2.size ≤ sizeLine + 1 := by seq_fits) :
    Meets (Builtin.«list.extend» ⟨[.ref l, .ref b], []⟩) (fun _ R s => s.heap.get? l = some { cls := .type "list", dict := none, data := .seq items n, slots := #[] } ∧ s.heap.get? b = some { cls := .type "tuple", dict := od, data := .seq items2 n2, slots := sl } ∧ R (.ok (.ret Value.none)) { s with heap := s.heap.update l (Obj.mapSeq fun x => x ++ items2), toks := s.toks }) :=
  .of_wp fun prog w A R s h => by
    obtain ⟨hp, g, d, tk, os⟩ := s; obtain ⟨hl, hb, h⟩ := h; have f1 := idx_int; have f2 := AutoSeq1.sub_tuple_tuple; have f3 := AutoSeq1.sub_list_list; have f4 := AutoSeq1.sub_tuple_list; have f5 := AutoSeq1.sub_list_tuple;
    have hz' : (items ++ items2).size ≤ sizeLine + 1 := by rw [Array.size_append]; exact hs2
    wp_walk using (wpAny_updateSeq hl rfl (hz := hs1) (_hz' := hz')), wpAny_loadPart' hl, wpAny_loadPart' hb; exact ⟨_, rfl, h⟩
def rExtendA (K : PySem.W.Frag) : V → List V → Hp → VK → Prop := fun x vs H Q => ∃ l b xs zs, x = .ref l ∧ vs = [.ref b] ∧ H l = some (.lst xs) ∧ SqT K H b zs ∧ xs.length + zs.length ≤ sizeLine ∧ Q .non (upd H l (.lst (xs ++ zs)))
theorem mt_extendA : MtM X "list.extend" (rExtendA X.K) := by
  intro pins s σ H x vs v us Q I rx rv h
  obtain ⟨l, b, xs, zs, rfl, rfl, hH, hB, hz, q⟩ := h
  cases rx
  obtain ⟨u, rfl, ru⟩ := rv.one
  cases ru
  obtain ⟨z, its, n, r, hl, e⟩ := I.lstM hH
  obtain ⟨its2, r2, ⟨⟨oc, od, odata, osl⟩, e2, hc, n2, hdata⟩, z2⟩ := I.tuple hB
  have hl2 : zs.length = its2.length := r2.length
  cases hc
  cases hdata
  have hsz : its.toArray.size + its2.toArray.size ≤ sizeLine := by rw [List.size_toArray, List.size_toArray]; omega
  have hlong : ¬ (!its.toArray.isEmpty && Builtin.List.listTooLong (its.toArray.size + its2.toArray.size)) = true := by
    rw [notLongL hsz, Bool.and_false]
    exact Bool.false_ne_true
  refine call_meets F.slot_list_extend ⟨_, e, rfl⟩ F.entry_list_extend (F.args_list_extend_2 _ _)
    (list_extend_tupA l its.toArray n b its2.toArray n2 od osl hlong (by rw [List.size_toArray]; omega) (by omega)) ⟨e, e2, ?_⟩
  refine ⟨.non, _, I.lset (its' := its ++ its2) hH e (by simp) (r.append r2) ?_, rfl, q⟩
  rw [List.length_append]
  omega
def sExt (i : Nat) (m : M PyData) : SM := fun r0 => if (ownOf r0[i]?).isSome then sBind m (fun d r => match ownOf r[i]?, asTup d with
  | some ds, some es => if ds.length + es.length ≤ 1000000 then some (.nx (upO i (ds ++ es) r)) else none
  | _, _ => none) r0 else none
theorem ds_ext (i : Nat) {st : Stmt} {te : TE} (ha : X.K = K → ∀ σ H Q, tM K E (rD K) ma σ H Q → te σ H Q) (hp : PS X st (tDrop (tBM X.K "list" (rExtendA X.K) (tVar i) (tCons te tNil)))) : DS K E X st (sExt i ma) := ⟨fun hK => by
  subst hK
  refine PS.imp hp fun D σ H ⟨F, O, G, r, fl, P, em, ff⟩ => ?_
  unfold sExt at em
  split at em
  · rename_i hs
    obtain ⟨bs0, e0⟩ := isSome_ex hs
    obtain ⟨q, xs0, hq, hσ, hx0, _⟩ := P.own_at e0
    refine ⟨_, hσ, .inl ⟨rfl, _, .inl (.inl hx0)⟩, ha rfl _ _ _ (tS.run P ff em fun d r1 x G1 H1 P1 g1 q1 e1 f1 => ?_)⟩
    split at e1
    · rename_i ds es e2 hes
      split at e1
      · rename_i hl
        cases e1
        obtain ⟨q', xs1, hq', hσ', hx, hb⟩ := P1.own_at e2
        rw [hq] at hq'
        cases hq'
        have gp := (P1.on i q hq).2.1
        have fin : ∀ (ys : List V), DqAll X.K G1 ys es → D.nx σ (upd H1 q (.lst (xs1 ++ ys))) := fun ys hy => by
          obtain ⟨P2, g2⟩ := P1.chg e2 hq (Same.refl G1) (fun c o e => by rw [upd_ne (ne_of_none e gp)]; exact P1.sub _ _ e) gp (fun c o n e => by rw [upd_ne n]; exact e) (fun c e => .inl e) (upd_same (o := .lst (xs1 ++ ys))) (hb.append hy)
          exact f1 O G1 σ _ P2 (Same.refl _)
        cases asTup_some hes
        cases q1 with
        | tup hs ha => exact ⟨q, _, xs1, _, rfl, rfl, hx, Lk.Same.tup P1.sub hs, line_le (by rw [hb.length, ha.length]; exact hl), fin _ ha⟩
      · cases e1
    · cases e1
  · cases em⟩
end
end DL
namespace DL
open PySem PySem.Spec PyProof.Rows L2 Lk
def lc2Go (vs vs1 : List Nat) (g : PyData → En → Option En) (mt : M Bool) (mi1 : M (List PyData)) (g1 : PyData → En → Option En) (mt1 : M Bool) (me : M PyData) : List PyData → En → Option (List PyData × En)
  | [], r => some ([], wipeE r vs)
  | x :: xs, r => (g x (wipeE r vs)).bind fun r1 => match mt r1 with
    | some (.ok true r2) => (match mi1 r2 with
      | some (.ok items r3) => (lcGo vs1 g1 mt1 me items r3).bind fun z => (lc2Go vs vs1 g mt mi1 g1 mt1 me xs z.2).map fun y => (z.1 ++ y.1, y.2)
      | _ => none)
    | some (.ok false r2) => lc2Go vs vs1 g mt mi1 g1 mt1 me xs r2
    | _ => none
def mLc2 (vs vs1 : List Nat) (mi : M (List PyData)) (g : PyData → En → Option En) (mt : M Bool) (mi1 : M (List PyData)) (g1 : PyData → En → Option En) (mt1 : M Bool) (me : M PyData) : M (List PyData) := mi.bind fun items r =>
  if freeAt r vs then (lc2Go vs vs1 g mt mi1 g1 mt1 me items r).bind fun z => if z.1.length ≤ 1000000 then some (.ok z.1 (restE r z.2 vs)) else none else none
section
variable {K : PySem.W.Frag} {E : XE} {X : Cx} {pos : Pos} {F : Fm} {O : Ow} {G H : Hp} {σ : L2.St} {r : En}
theorem own_none {vs : List Nat} (hf : freeAt r vs = true) : ∀ v ∈ vs, ∀ ds, r[v]? ≠ some (Cel.ow ds) ∧ r[v]? ≠ some (Cel.io ds) ∧ r[v]? ≠ some (Cel.dk ds) := fun v hv ds => by
  have q := List.all_eq_true.mp hf v hv
  refine ⟨fun e => ?_, fun e => ?_, fun e => ?_⟩ <;>
  · rw [e] at q
    cases q
theorem wipe_sub {σ σ' : L2.St} {vs us : List Nat} (hs : ∀ u ∈ us, u ∈ vs) (h : L2.wipe σ us = L2.wipe σ' us) : L2.wipe σ vs = L2.wipe σ' vs := by
  have hl : σ.length = σ'.length := by rw [← wipe_length σ us, h, wipe_length]
  refine wipe_eq hl fun j hj => ?_
  have hj' : j ∉ us := fun z => hj (hs j z)
  rw [← wipe_out hj', h, wipe_out hj']
/-- the new list at D, unseen, so far -/
structure Acc (K : PySem.W.Frag) (F : Fm) (O : Ow) (G1 H1 : Hp) (D : Addr) (σ : L2.St) (G H : Hp) (r : En) (xs : List V) (ds : List PyData) : Prop where
  rp : Rp K F O G σ H r
  go : Go O G1 H1 G H
  gD : G D = none
  hD : H D = some (.lst xs)
  hx : DqAll K G xs ds
theorem Acc.step {G1 H1 G2 H2 : Hp} {D : Addr} {xs : List V} {ds : List PyData} {r2 : En} {σ2 : L2.St} (A : Acc K F O G1 H1 D σ G H r xs ds) (hDo : ∀ i, O i ≠ some D) (g : Go O G H G2 H2) (P : Rp K F O G2 σ2 H2 r2) : Acc K F O G1 H1 D σ2 G2 H2 r2 xs ds := by
  have hD2 := g.keep _ _ A.hD hDo
  refine ⟨P, A.go.trans g, ?_, hD2, A.hx.sm g.gg⟩
  cases z : G2 D with
  | none => rfl
  | some o =>
    rcases g.gn D (some_ne z) with w | w
    · exact absurd A.gD w
    · rw [A.hD] at w
      cases w
theorem Acc.app {G1 H1 : Hp} {D : Addr} {xs : List V} {ds : List PyData} {y : V} {d : PyData} (A : Acc K F O G1 H1 D σ G H r xs ds) (nD : H1 D = none) (hD0 : F.H0 D = none) (hDo : ∀ i, O i ≠ some D) (hy : Dq K G y d) : Acc K F O G1 H1 D σ G (upd H D (.lst (xs ++ [y]))) r (xs ++ [y]) (ds ++ [d]) :=
  ⟨A.rp.wr A.gD hD0 hDo, A.go.wr nD, A.gD, upd_same, A.hx.append (.cons hy .nil)⟩
theorem lc2_run {vs vs1 ts ts1 : List Nat} {mi : M (List PyData)} {g : PyData → En → Option En} {mt : M Bool} {mi1 : M (List PyData)} {g1 : PyData → En → Option En} {mt1 : M Bool} {me : M PyData} (hts : ∀ t ∈ ts, t ∈ vs) (hts1 : ∀ t ∈ ts1, t ∈ vs1) (hvs : ∀ t ∈ vs1, t ∈ vs) {Q : VK} (h : tM K E (rF K) (mLc2 vs vs1 mi g mt mi1 g1 mt1 me) σ H Q) :
    tLc2 (tM K E (rIt K) mi) (tG K ts g) (tM K XN rB mt) (tM K XN (rIt K) mi1) (tG K ts1 g1) (tM K XN rB mt1) (tM K XN (rD K) me) vs vs1 σ H Q := by
  obtain ⟨F, O, G, r, out, P, em, f⟩ := h
  refine tM.run P f em fun items r1 J G1 H1 P1 gg1 q1 e1 f1 => ?_
  split at e1
  · rename_i hfree
    obtain ⟨⟨ds, r'⟩, hgo, e1⟩ := Option.bind_eq_some_iff.mp e1
    split at e1
    · rename_i hlen
      cases e1
      dsimp only at hlen
      have ov := free_own P1 hfree
      have ov1 : ∀ v ∈ vs1, O v = none := fun v hv => ov v (hvs v hv)
      intro D nD
      have hD0 : F.H0 D = none := P1.nf _ nD
      have hDo : ∀ i, O i ≠ some D := fun i z => (P1.on i D z).2.2.1 nD
      have hDG : G1 D = none := P1.sub.free nD
      have A0 : Acc K F O G1 H1 D σ G1 (upd H1 D (.lst [])) r1 [] [] := ⟨P1.wr hDG hD0 hDo, Go.refl.wr nD, hDG, upd_same, .nil⟩
      refine ⟨fun i m H' => m = items.length - i ∧ i ≤ items.length ∧ ∃ G' r2 xs ds0 ds1, Acc K F O G1 H1 D (L2.wipe σ vs) G' H' (wipeE r2 vs) xs ds0 ∧ lc2Go vs vs1 g mt mi1 g1 mt1 me (items.drop i) r2 = some (ds1, r') ∧ ds = ds0 ++ ds1,
        ⟨items.length, by simp, Nat.zero_le _, G1, r1, [], [], ds, ⟨A0.rp.wipe ov, A0.go, A0.gD, A0.hD, A0.hx⟩, hgo, rfl⟩, ?_⟩
      rintro i m H' ⟨rfl, hi, G', r2, xs, ds0, ds1, A, hgo2, rfl⟩
      by_cases hlt : i < items.length
      · refine .inr ?_
        have e3 := List.getElem?_eq_getElem hlt
        rw [List.drop_eq_getElem_cons hlt] at hgo2
        obtain ⟨jgo, jy⟩ := (q1 i H' G' A.go.gg A.rp.sub).1 _ e3
        refine ⟨jgo, _, fun H4 p => ⟨_, (by omega : items.length - (i + 1) < items.length - i), p⟩, fun x H'' y => ?_⟩
        obtain ⟨G2, ps, hd⟩ := jy x H'' y
        obtain ⟨r3, e4, e5⟩ := Option.bind_eq_some_iff.mp hgo2
        have A2 := A.step hDo (ps.go (O := O)) (A.rp.ps ps)
        refine ⟨F, O, G2, _, r3, _, A2.rp, hd, e4, fun σ2 P3 l3 k3 => ?_⟩
        have w3 : L2.wipe σ2 vs = L2.wipe σ vs := by
          have := wipe_eq l3 (vs := vs) fun j hj => k3 j fun z => hj (hts j z)
          rw [this, wipe_wipe]
        refine ⟨w3, ?_⟩
        have A3 := A2.step hDo Go.refl P3
        cases em3 : mt r3 with
        | none => rw [em3] at e5; cases e5
        | some o3 =>
          rw [em3] at e5
          cases o3 with
          | ex c p => cases e5
          | ok b r4 =>
            refine ⟨F, O, G2, r3, _, P3, em3, fun b' G4 H4 P4 g4 hb => ?_⟩
            cases hb
            have A4 := A3.step hDo g4 P4
            cases b with
            | false =>
              refine iteF ⟨rfl, hlt, G4, r4, xs, ds0, ds1, ?_, e5, rfl⟩
              have := P4.wipe ov
              rw [w3] at this
              exact ⟨this, A4.go, A4.gD, A4.hD, A4.hx⟩
            | true =>
              refine iteT ?_
              cases em5 : mi1 r4 with
              | none =>
                simp only [em5] at e5
                cases e5
              | some o5 =>
                cases o5 with
                | ex c p =>
                  simp only [em5] at e5
                  cases e5
                | ok items1 r5 =>
                  simp only [em5] at e5
                  obtain ⟨⟨es, r6⟩, hgo6, e6⟩ := Option.bind_eq_some_iff.mp e5
                  obtain ⟨⟨fs, r7⟩, hgo7, e7⟩ := Option.map_eq_some_iff.mp e6
                  cases e7
                  refine ⟨F, O, G4, r4, _, P4, em5, fun J1 G5 H5 P5 g5 q5 => ?_⟩
                  have A5 := A4.step hDo g5 P5
                  refine ⟨fun j k H' => k = items1.length - j ∧ j ≤ items1.length ∧ ∃ G' r8 xs es0 es1, Acc K F O G1 H1 D (L2.wipe σ2 vs1) G' H' (wipeE r8 vs1) xs (ds0 ++ es0) ∧ Same G5 G' ∧ lcGo vs1 g1 mt1 me (items1.drop j) r8 = some (es1, r6) ∧ es = es0 ++ es1,
                    ⟨items1.length, by simp, Nat.zero_le _, G5, r5, xs, [], es, ⟨A5.rp.wipe ov1, A5.go, A5.gD, A5.hD, by rw [List.append_nil]; exact A5.hx⟩, Same.refl _, hgo6, rfl⟩, ?_⟩
                  rintro j k H6 ⟨rfl, hj, G6, r8, xs6, es0, es1, A6, gg6, hgo8, rfl⟩
                  by_cases hlt1 : j < items1.length
                  · refine .inr ?_
                    have e9 := List.getElem?_eq_getElem hlt1
                    rw [List.drop_eq_getElem_cons hlt1] at hgo8
                    obtain ⟨jgo1, jy1⟩ := (q5 j H6 G6 gg6 A6.rp.sub).1 _ e9
                    refine ⟨jgo1, _, fun H4 p => ⟨_, (by omega : items1.length - (j + 1) < items1.length - j), p⟩, fun x1 H7 y1 => ?_⟩
                    obtain ⟨G7, ps7, hd7⟩ := jy1 x1 H7 y1
                    obtain ⟨r9, e10, e11⟩ := Option.bind_eq_some_iff.mp hgo8
                    have A7 := A6.step hDo (ps7.go (O := O)) (A6.rp.ps ps7)
                    refine ⟨F, O, G7, _, r9, _, A7.rp, hd7, e10, fun σ3 P8 l8 k8 => ?_⟩
                    have w8 : L2.wipe σ3 vs1 = L2.wipe σ2 vs1 := by
                      have := wipe_eq l8 (vs := vs1) fun j hj => k8 j fun z => hj (hts1 j z)
                      rw [this, wipe_wipe]
                    refine ⟨w8, ?_⟩
                    have A8 := A7.step hDo Go.refl P8
                    cases em12 : mt1 r9 with
                    | none => rw [em12] at e11; cases e11
                    | some o12 =>
                      rw [em12] at e11
                      cases o12 with
                      | ex c p => cases e11
                      | ok b r10 =>
                        refine ⟨F, O, G7, r9, _, P8, em12, fun b' G9 H9 P9 g9 hb => ?_⟩
                        cases hb
                        have A9 := A8.step hDo g9 P9
                        cases b with
                        | false =>
                          refine iteF ⟨rfl, hlt1, G9, r10, xs6, es0, es1, ?_, (gg6.trans ps7.gg).trans g9.gg, e11, rfl⟩
                          have := P9.wipe ov1
                          rw [w8] at this
                          exact ⟨this, A9.go, A9.gD, A9.hD, A9.hx⟩
                        | true =>
                          refine iteT ?_
                          cases em13 : me r10 with
                          | none =>
                            simp only [em13] at e11
                            cases e11
                          | some o13 =>
                            cases o13 with
                            | ex c p =>
                              simp only [em13] at e11
                              cases e11
                            | ok d r11 =>
                              simp only [em13] at e11
                              obtain ⟨⟨es2, r12⟩, hgo14, e14⟩ := Option.map_eq_some_iff.mp e11
                              cases e14
                              refine ⟨F, O, G9, r10, _, P9, em13, fun y G10 H10 P10 g10 hy => ?_⟩
                              have A10 := A9.step hDo g10 P10
                              have ly : xs6.length = (ds0 ++ es0).length := A10.hx.length
                              have lx : xs6.length ≤ 1000000 := by
                                rw [ly]
                                simp only [List.length_append, List.length_cons] at hlen ⊢
                                omega
                              have A11 := A10.app nD hD0 hDo hy
                              refine ⟨xs6, A10.hD, line_lt lx, rfl, hlt1, G10, r11, xs6 ++ [y], es0 ++ [d], es2, ?_, ((gg6.trans ps7.gg).trans g9.gg).trans g10.gg, hgo14, by rw [List.append_assoc]; rfl⟩
                              have := A11.rp.wipe ov1
                              rw [w8] at this
                              exact ⟨this, A11.go, A11.gD, A11.hD, by rw [← List.append_assoc]; exact A11.hx⟩
                  · refine .inl ?_
                    have e9 : j = items1.length := by omega
                    subst e9
                    rw [List.drop_length] at hgo8
                    cases hgo8
                    refine ⟨(q5 _ H6 G6 gg6 A6.rp.sub).2 (Nat.le_refl _), rfl, hlt, G6, wipeE r8 vs1, xs6, ds0 ++ es0, fs, ?_, hgo7, by rw [List.append_nil, List.append_assoc]⟩
                    have := A6.rp.wipe ov
                    rw [wipe_sub hvs (wipe_wipe (σ := σ2) (vs := vs1)), w3] at this
                    exact ⟨this, A6.go, A6.gD, A6.hD, A6.hx⟩
      · refine .inl ?_
        have e3 : i = items.length := by omega
        subst e3
        rw [List.drop_length] at hgo2
        cases hgo2
        rw [List.append_nil] at f1
        refine ⟨(q1 _ H' G' A.go.gg A.rp.sub).2 (Nat.le_refl _), f1 _ G' H' (Rp.rest (fun v hv d e => ?_) (own_none hfree) A.rp ov) A.go ⟨D, xs, rfl, nD, A.gD, hD0, hDo, A.hD, A.hx⟩⟩
        obtain ⟨x, h1, h2⟩ := P1.pl v d e
        exact ⟨x, h1, h2.sm A.go.gg⟩
    · cases e1
  · cases e1
section
variable {elt tg iter tg1 iter1 : Expr} {ifs ifs1 : List Expr} {scope : Scope} {own : List (Str × Nat)} {vs1 ts ts1 : List Nat} {mi mi1 : M (List PyData)} {g g1 : PyData → En → Option En} {mt mt1 : M Bool} {me : M PyData}
variable {i : Nat} {y : Str} {py spos : Pos}
theorem ds_setLc2 (hc : X.calm = true) (hN : X.N.Nodup) (hy : X.N[i]? = some y) (hyl : X.env.scope.names.lookup y = some .local)
    (hsw : swapsWith (.ListComp elt [⟨tg, iter, ifs, 0⟩, ⟨tg1, iter1, ifs1, 0⟩] scope pos) (some (.Name y py)) spos.line X.env = pure true) (hi : DI K E X tg iter mi) (ok : BlkOk X.N X.env.scope scope own) (hv : ∀ i ∈ vs1, i ∈ own.map (·.2))
    (hg : ∀ (s : Shared) (H : Hp) (C : Addr) (cl : List (Str × Addr)) (fp : List Addr), DG K (X.blk s H scope (compEnvC scope cl C X.env) fp) tg ts g) (ht : ∀ (s : Shared) (H : Hp) (C : Addr) (cl : List (Str × Addr)) (fp : List Addr), DTs K (X.blk s H scope (compEnvC scope cl C X.env) fp) ifs mt)
    (hi1 : ∀ (s : Shared) (H : Hp) (C : Addr) (cl : List (Str × Addr)) (fp : List Addr), DI K XN (X.blk s H scope (compEnvC scope cl C X.env) fp) tg1 iter1 mi1)
    (hg1 : ∀ (s : Shared) (H : Hp) (C : Addr) (cl : List (Str × Addr)) (fp : List Addr), DG K (X.blk s H scope (compEnvC scope cl C X.env) fp) tg1 ts1 g1) (ht1 : ∀ (s : Shared) (H : Hp) (C : Addr) (cl : List (Str × Addr)) (fp : List Addr), DTs K (X.blk s H scope (compEnvC scope cl C X.env) fp) ifs1 mt1)
    (he : ∀ (s : Shared) (H : Hp) (C : Addr) (cl : List (Str × Addr)) (fp : List Addr), DE K XN (X.blk s H scope (compEnvC scope cl C X.env) fp) elt me) (hts : ∀ t ∈ ts, t ∈ own.map (·.2) := by decide) (hts1 : ∀ t ∈ ts1, t ∈ vs1 := by decide) (hs : ∀ x, foldedSetIterable iter X.env x = pure x := by intro _; rfl) (hs1 : ∀ env x, foldedSetIterable iter1 env x = pure x := by intro _ _; rfl) :
    DS K E X (.Assign [.Name y py] (.ListComp elt [⟨tg, iter, ifs, 0⟩, ⟨tg1, iter1, ifs1, 0⟩] scope pos) spos) (sSet i ((mLc2 (own.map (·.2)) vs1 mi g mt mi1 g1 mt1 me).map PyData.list)) :=
  ⟨fun hK => ds_set_t (ps_setLc2 hc hN hy hyl hsw (hi.pi hK) ok hv (fun s H C cl fp => (hg s H C cl fp).pg hK) (fun s H C cl fp => (ht s H C cl fp).pt hK) (fun s H C cl fp => (hi1 s H C cl fp).pi hK) (fun s H C cl fp => (hg1 s H C cl fp).pg hK) (fun s H C cl fp => (ht1 s H C cl fp).pt hK) (fun s H C cl fp => (he s H C cl fp).pe hK) hs hs1) fun _ _ _ h => lc2_run hts hts1 hv (fr_t h)⟩
end
end
end DL
namespace DL
open PySem PySem.Spec PyProof.Rows L2 Lk
section
variable {K : PySem.W.Frag} {E : XE} {X : Cx} {a b c e : Expr} {es : List Expr} {ma mb mc : M PyData} {m : M (List PyData)} {mt : M Bool} {pos : Pos}
theorem xe_op {op : Operator} {g : PyData → PyData → Option PyData} (ho : OpD K X (binaryOp op) g) (ha : DE K E X a ma) (hb : DE K E X b mb) : DE K E X (.BinOp a op b pos) (mOp2 g ma mb) := de_op ho ha hb
theorem xe_cmp {op : CmpOp} {g : PyData → PyData → Option PyData} (ho : OpD K X (compareOp op) g) (ha : DE K E X a ma) (hb : DE K E X b mb) (hm : behindInMarks op b = false) : DE K E X (.Compare a [op] [b] pos) (mOp2 g ma mb) := de_cmp ho ha hb hm
theorem xt_cmp {op : CmpOp} {g : PyData → PyData → Option PyData} (ho : OpD K X (compareOp op) g) (ha : DE K E X a ma) (hb : DE K E X b mb) (hm : behindInMarks op b = false) : DT K E X (.Compare a [op] [b] pos) (mOpT g ma mb) := dt_cmp ho ha hb hm
theorem xa_nil : DA K E X [] mNil := da_nil
theorem xa_cons (ha : DE K E X e ma) (hr : DA K E X es m) (hs : starEach (e :: es) X.env = (false, eval e X.env) :: starEach es X.env := by rfl) : DA K E X (e :: es) (mCons ma m) := da_cons ha hr hs
theorem xe_tup {x1} (h : DA K E X es m) : DE K E X (.Tuple es x1 pos) (mTup m) := de_tup h
theorem xf_lst (h : DA K E X es m) : DF K E X (.List es pos) (mLst m) := df_lst h
theorem xe_fr (h : DF K E X e m) : DE K E X e (mNew m) := de_fr h
theorem xt_tru (ha : DE K E X e ma) (he : ∀ whole, isTrue e X.env whole = (do let v ← whole; standAt e.pos; holding [v] (truthy v)) := by intro _; rfl) : DT K E X e (mTru ma) := dt_tru ha he
theorem xt_not (ha : DT K E X a mt) : DT K E X (.UnaryOp .Not a pos) (mNotT mt) := dt_not ha
theorem xe_not (ha : DE K E X a ma) : DE K E X (.UnaryOp .Not a pos) (mNotV ma) := de_not ha
theorem xe_isi {T : Str} {n : String} {p p2 : Pos} (hT : n ∈ ["int", "bool", "list", "tuple", "str"]) (hg : Gl X "isinstance") (hm : X.mg "isinstance" = none) (hgT : Gl X T) (hmT : X.mg T = none) (hvT : bootBuiltins T = some (.type n)) (ha : DE K E X e ma) (hn : T ≠ "__name__" := by decide) (hdb : (T == ("__debug__" : Str)) = false := by decide)
    (hs1 : starEach [e, .Name T p2] X.env = (false, eval e X.env) :: starEach [.Name T p2] X.env := by rfl) (hs2 : starEach [.Name T p2] X.env = (false, eval (.Name T p2) X.env) :: starEach [] X.env := by rfl) (hpl : (backTo pos (starEach [.Name T p2] X.env)).any (·.1) = false := by rfl) :
    DE K E X (.Call (.Name "isinstance" p) [e, .Name T p2] [] pos) (mIsi n ma) := de_isi hT hg hm hgT hmT hvT ha hn hdb hs1 hs2 hpl
theorem xi_seq {tg : Expr} (hl : DE K E X e ma) : DI K E X tg e (mSeq ma) := di_seq hl
theorem xi_range1 {tg : Expr} {p : Pos} (hg : Gl X "range") (hm : X.mg "range" = none) (ha : DA K E X [a] m) (hs : starEach [a] X.env = [(false, eval a X.env)] := by rfl) : DI K E X tg (.Call (.Name "range" p) [a] [] pos) (mRng1 m) := di_range1 hg hm ha hs
theorem xo_some (ha : DE K E X e ma) : DO K E X (some e) (mPart ma) := do_some ha
theorem xo_none : DO K E X none mNoPart := do_none
theorem xf_slice {lo hi : Option Expr} {ml mh : M (Option Int)} {p2 : Pos} (ha : DE K E X e ma) (hl : DO K E X lo ml) (hh : DO K E X hi mh) : DF K E X (.Subscript e (.Slice lo hi none p2) pos) (mSlice ma ml mh) := df_slice ha hl hh
theorem xe_ix (ha : DE K E X a ma) (hb : DE K E X b mb) (hs : PlainIx b) : DE K E X (.Subscript a b pos) (mOp2 ixM ma mb) := de_ix ixd ha hb hs
def mRep (ml : M (List PyData)) (mb : M PyData) : M (List PyData) := ml.bind fun xs => mb.bind fun d => M.lift (repM xs d)
theorem xf_rep {ml : M (List PyData)} (ha : DF K E X a ml) (hb : DE K E X b mb) : DF K E X (.BinOp a .Mult b pos) (mRep ml mb) := df_rep ha hb
theorem xc {x : Str} {p : Pos} {k : Nat} {ps : List Str} {g : List PyData → Option PyData} (G : Has X.prog X.w K X.mg X.base k x ps (spD K g)) (hr : Room k X.A) (hg : Gl X x)
    (ha : DA K E X (e :: es) m) (hdb : (x == ("__debug__" : Str)) = false := by decide) (he : starEach (e :: es) X.env = (false, eval e X.env) :: starEach es X.env := by rfl)
    (hpl : (backTo pos (starEach es X.env)).any (·.1) = false := by rfl) : DE K E X (.Call (.Name x p) (e :: es) [] pos) (mCall g m) := dc G hr hg ha hdb he hpl
theorem xcB {x : Str} {p : Pos} {id : String} {g : List PyData → Option PyData} (hc : CallD K X (.builtin id) g) (hg : Gl X x) (hm : X.mg x = none) (hv : bootBuiltins x = some (.builtin id)) (ha : DA K E X (e :: es) m) (hn : x ≠ "__name__" := by decide) (hdb : (x == ("__debug__" : Str)) = false := by decide)
    (he : starEach (e :: es) X.env = (false, eval e X.env) :: starEach es X.env := by rfl) (hpl : (backTo pos (starEach es X.env)).any (·.1) = false := by rfl) : DE K E X (.Call (.Name x p) (e :: es) [] pos) (mCall g m) := de_callB hc hg hm hv ha hn hdb he hpl
theorem xcT {x : Str} {p : Pos} {T : String} {g : List PyData → Option PyData} (hc : CallD K X (.type T) g) (hg : Gl X x) (hm : X.mg x = none) (hv : bootBuiltins x = some (.type T)) (ha : DA K E X (e :: es) m) (hn : x ≠ "__name__" := by decide) (hdb : (x == ("__debug__" : Str)) = false := by decide)
    (he : starEach (e :: es) X.env = (false, eval e X.env) :: starEach es X.env := by rfl) (hpl : (backTo pos (starEach es X.env)).any (·.1) = false := by rfl) : DE K E X (.Call (.Name x p) (e :: es) [] pos) (mCall g m) := de_callTy hc hg hm hv ha hn hdb he hpl
theorem xcTF {x : Str} {p : Pos} {T : String} {g : List PyData → Option (List PyData)} (hc : CallF K X (.type T) g) (hg : Gl X x) (hm : X.mg x = none) (hv : bootBuiltins x = some (.type T)) (ha : DA K E X (e :: es) m) (hn : x ≠ "__name__" := by decide) (hdb : (x == ("__debug__" : Str)) = false := by decide)
    (he : starEach (e :: es) X.env = (false, eval e X.env) :: starEach es X.env := by rfl) (hpl : (backTo pos (starEach es X.env)).any (·.1) = false := by rfl) : DF K E X (.Call (.Name x p) (e :: es) [] pos) (mCallF g m) := df_callTy hc hg hm hv ha hn hdb he hpl
theorem xs_no {st : Stmt} : DS K E X st sNo := ds_never
end
/-- the same order of the places, of values and of data -/
structure Perm3 (gB : List V → List V → List V) (gD : List PyData → List PyData) : Prop where
  all : ∀ {K : PySem.W.Frag} {G : Hp} {zs : List V} {ds : List PyData}, DqAll K G zs ds → DqAll K G (gB [] zs) (gD ds)
structure DK (K : PySem.W.Frag) (E : XE) (X : Cx) (kws : List Keyword) (m : M (List PyData)) : Prop where
  pk : X.K = K → PK X kws (tM K E (rA K) m)
section
variable {K : PySem.W.Frag} {E : XE} {X : Cx} {e : Expr} {kws : List Keyword} {ma : M PyData} {m : M (List PyData)} {pos : Pos}
theorem PK.imp {t t' : TA} (h : PK X kws t) (i : ∀ σ H Q, t' σ H Q → t σ H Q) : PK X kws t' := ⟨fun pos pins s σ H Q I q => h.run pos pins s σ H Q I (i _ _ _ q)⟩
def mCallK (gD : List PyData → List PyData) (g : List PyData → Option PyData) (m : M (List PyData)) : M PyData := m.bind fun ds => M.lift (g (gD ds))
end
theorem has_none {P : Program} {w : World} {K : PySem.W.Frag} {mg : Str → Option Value} {base : Heap} {k : Nat} {x qual : Str} {st : Stmt} {f : Addr} {fd : FuncData} {ps : List Str} (F : Fun K x qual st f fd) (hb : Binds K fd ps []) (hm : mg x = some (.ref f)) : Has P w K mg base k x ps (spD K fun _ => none) :=
  ⟨f, fd, ⟨fun vs H Q E ⟨G, ds, z, _, _, hz, _⟩ => (by cases hz), fun A outer s H args us vs Q E _ _ _ _ ⟨G, ds, z, _, _, hz, _⟩ => (by cases hz)⟩, hb, hm, F.kp⟩
def spLaw (K : PySem.W.Frag) (g : List PyData → Option PyData) : Sp := fun vs H Q _ => ∃ (a : Addr) (ns : List Int), vs = [.ref a] ∧ SqL K H a (ns.map V.int) ∧ g [.list (ns.map PyData.int)] = some (.bool true) ∧ ∀ H', Q (.bl true) H'
theorem law_fn {P : Program} {w : World} {K : PySem.W.Frag} {mg : Str → Option Value} {base : Heap} {k : Nat} {f : Addr} {fd : FuncData} {ps : List Str} {g : List PyData → Option PyData} (F : FnOk P w K mg base CX0 k f fd ps (spD K g)) : FnOk P w K mg base CX0 k f fd ps (spLaw K g) :=
  F.imp fun vs H Q E ⟨a, ns, e, hs, hg, q⟩ => ⟨H, _, _, Same.refl H, by rw [e]; exact .cons (.lst hs (DqAll.ints ns)) .nil, hg, fun v G' H' _ hv => by
    rw [dp_bool hv]
    exact q H'⟩
end DL
namespace DL
open PySem PySem.Spec PyProof.Rows L2 Lk
def CTup (K : PySem.W.Frag) (mg : Str → Option Value) (x : Str) (c : PyData) : Prop := ∃ a : Addr, mg x = some (.ref a) ∧ ∀ H, Dq K H (.ref a) c
theorem CTup.de {K : PySem.W.Frag} {E : XE} {X : Cx} {x : Str} {c : PyData} {pos : Pos} (h : CTup K X.mg x c) (hg : Gl X x) (hdb : (x == ("__debug__" : Str)) = false := by decide) : DE K E X (.Name x pos) (M.ret c) := by
  obtain ⟨a, h1, h2⟩ := h
  exact de_g hg h1 (v := .ref a) rfl h2 hdb
/-- how deep a def may call itself; how often a while may turn -/
def FU : Nat := 60
def WH : Nat := 1000000
section
variable {P : Program} {w : World} {K : PySem.W.Frag} {mg : Str → Option Value} {base : Heap}
theorem fn_d {x qual : Str} {st : Stmt} {f : Addr} {fd : FuncData} {N ps : List Str} {k n : Nat} {sv : SM} (F : Fun K x qual st f fd) (S : FnScope N ps (defScope st))
    (h : ∀ (cdv : Value) (A : Around) (outer : List Env) (s : Shared) (H : Hp) (E : XK), Room k (A.deeper (envOfC qual (defScope st) s.heap.objs.size f cdv)) → DSs K XN (cxOf CX0 P w K mg base N qual (defScope st) f cdv A outer s H E).nox (defBody st) sv)
    (hn : ps.length = n := by rfl) : FnOk P w K mg base CX0 (k + 1) f fd ps (spD K (runD N n sv)) := by
  refine def_D F S h fun ds z e => ?_
  unfold runD at e
  split at e
  · rename_i hl
    refine ⟨hl.trans hn.symm, ?_⟩
    cases q : sv (ini N ds) with
    | none => rw [q] at e; cases e
    | some fl =>
      rw [q] at e
      cases fl with
      | rt d r => cases e; exact ⟨r, .inl rfl⟩
      | nx r => cases e; exact ⟨r, .inr ⟨rfl, rfl⟩⟩
      | _ => cases e
  · cases e
end
end DL
namespace Lk
open PySem PySem.Spec PyProof.Rows L2
theorem walk_ofGB {l : PySem.W.OpenLaw} {n k : Nat} {q : Program} {loose : List Str} {XP : (Str → Option Value) → Heap → Prop} {YP : World → Heap → Prop} {d : DefRec}
    {K : Params → PySem.W.Frag} {sp : World → Sp} {x : Str} (hn : l.most = some n) (hn2 : n ≤ sizeLine) (hdf : d.params.defaults = []) (hr : Room k callerA)
    (hY : ∀ (w : World) (h : Heap), YP w h → (K w.params).In h)
    (F : ∀ (w : World) (mg : Str → Option Value) (fa : Addr) (h : Heap), (K w.params).In h → h.Ns mainGlobals mg → mg d.name = some (.ref fa) →
      ∃ fd : FuncData, (∀ (s : Shared) (u : Value), BindsTo s fd ⟨[u], []⟩ [(x, u)]) ∧
        ∀ base : Heap, (K w.params).In base → base.Ns mainGlobals mg → FnG l.prog w (K w.params) mg base CX0 k fa fd [x] (sp w))
    (hsp : ∀ (w : World) (H : Hp) (a : Addr) (ns : List Int), ns.length ≤ n → (∀ z ∈ ns, Builtin.Int.intBits z ≤ 1048576) → Only H → SqL (K w.params) H a (ns.map V.int) → sp w [.ref a] H (fun v _ => v = .bl true) fun _ _ _ => False) :
    PySem.W.WalkO q loose XP YP l.row.toRowW d [] (fun f vs => PySem.call f vs) := by
  refine Att.attach_callB hn hdf ?_
  intro w s₀ s₁ mg mb fa o pm cd doc a vs ns G Y _ _ _ hmg hobj hints hlen hbits hg
  have KX := hY w _ Y
  obtain ⟨fd, hb, hF⟩ := F w mg fa _ KX G.T.g hmg
  exact law_callG KX G.T.g G.T.b G.T.builtins G.T.nolimit hg hobj hints (Nat.le_trans hlen hn2) hr hF hb fun H hO hS => hsp w H a ns hlen hbits hO hS
end Lk
namespace DL
open PySem PySem.Spec PyProof.Rows L2 Lk
section
variable {K : PySem.W.Frag} {E : XE} {X : Cx} {tg a : Expr} {ma : M PyData} {pos : Pos}
end
end DL
namespace DL
open PySem PySem.Spec PyProof.Rows L2 Lk
section
variable {K : PySem.W.Frag} {E : XE} {X : Cx} {a b e : Expr} {ma mb : M PyData} {pos : Pos}
end
end DL
namespace DL
open PySem PySem.Spec PyProof.Rows L2 Lk
section
variable {K : PySem.W.Frag} {E : XE} {X : Cx} {tg a b c e : Expr} {ma mb : M PyData} {m : M (List PyData)} {pos : Pos}
def rngC (i c : Int) (n : Nat) : List PyData := (List.range n).map fun k => .int (i + (k : Nat) * c)
def rng3M : List PyData → Option (List PyData)
  | [.int i, .int j, .int c] => if c ≠ 0 ∧ c.natAbs < 1000000 ∧ Builtin.Range.small i j c = true ∧ 0 ≤ Builtin.Range.rangeSize i j c then some (rngC i c (Builtin.Range.rangeSize i j c).toNat) else none
  | _ => none
def mRng3 (m : M (List PyData)) : M (List PyData) := m.bind fun ds => M.lift (rng3M ds)
theorem gives_rng3 {G : Hp} {i c : Int} {n : Nat} : Gives K (Itc i c n) (rngC i c n) G := fun k H' G1 s1 s2 => by
  refine ⟨fun d hd => ?_, fun hl => ?_⟩
  · unfold rngC at hd
    rw [List.getElem?_map] at hd
    obtain ⟨q, h1, rfl⟩ := Option.map_eq_some_iff.mp hd
    obtain ⟨h2, h3⟩ := List.getElem?_eq_some_iff.mp h1
    rw [List.length_range] at h2
    rw [List.getElem_range] at h3
    subst h3
    refine ⟨h2, fun x H'' y => ?_⟩
    obtain ⟨rfl, rfl⟩ := y
    exact ⟨G1, Ps.refl s2, .int _⟩
  · rw [rngC, List.length_map, List.length_range] at hl
    exact hl
theorem xi_range3 {p : Pos} (hg : Gl X "range") (hm : X.mg "range" = none) (ha : DA K E X [a, b, c] m) (hs : starEach [a, b, c] X.env = (false, eval a X.env) :: starEach [b, c] X.env := by rfl) (hpl : (backTo pos (starEach [b, c] X.env)).any (·.1) = false := by rfl) :
    DI K E X tg (.Call (.Name "range" p) [a, b, c] [] pos) (mRng3 m) := ⟨fun hK => PI.imp (pi_range3 hg hm (ha.pa hK) hs hpl) fun σ H Q ⟨F, O, G, r, out, P, em, f⟩ => by
  refine tM.run P f em fun ds r1 xs G1 H1 P1 g1 q1 e1 f1 => ?_
  obtain ⟨z, hz, rfl⟩ := lift_ok e1
  unfold rng3M at hz
  split at hz
  · rename_i i j k
    split at hz
    · rename_i hl
      cases hz
      cases q1 with
      | cons h1 t1 =>
        cases t1 with
        | cons h2 t2 =>
          cases t2 with
          | cons h3 t3 =>
            cases t3
            cases h1
            cases h2
            cases h3
            exact ⟨i, j, k, (Builtin.Range.rangeSize i j k).toNat, rfl, ⟨hl.1, by omega, hl.2.2.1, by have := hl.2.2.2; omega⟩, f1.ok (Ps.refl P1.sub) P1 gives_rng3⟩
    · cases hz
  · cases hz⟩
/-- n.bit_length() -/
def mBits (m : M PyData) : M PyData := m.bind fun d => M.lift ((asInt d).map fun i => .int (Builtin.Int.intBits i : Nat))
end
end DL
namespace DL
open PySem PySem.Spec PyProof.Rows L2 Lk
abbrev PQ := PyData ⊕ List PyData
def rQ (K : PySem.W.Frag) : RR V PQ := fun S O F G H v z => match z with
  | .inl d => rD K S O F G H v d
  | .inr ds => rF K S O F G H v ds
instance {K : PySem.W.Frag} : Anti (rQ K) := ⟨fun {S S' O F G H b a} k h => by
  cases a with
  | inl d => exact h
  | inr ds => exact Anti.anti (R := rF K) (O := O) (F := F) (H := H) k h⟩
structure DQ (K : PySem.W.Frag) (E : XE) (X : Cx) (e : Expr) (m : M PQ) : Prop where
  pe : X.K = K → PE X e (tM K E (rQ K) m)
section
variable {K : PySem.W.Frag} {E : XE} {X : Cx} {a b e : Expr} {es : List Expr} {m : M (List PyData)} {mq : M PQ} {pos : Pos}
def mCallQ (g : List PyData → Option PQ) (m : M (List PyData)) : M PQ := m.bind fun ds => M.lift (g ds)
/-- x = f(..) -/
def sSetQ (i : Nat) (m : M PQ) : SM := sBind m fun z => match z with
  | .inl d => sPut i d
  | .inr ds => sPutO i ds
/-- return f(..) -/
def sRetQ (m : M PQ) : SM := sBind m fun z r => match z with
  | .inl d => some (.rt d r)
  | .inr ds => some (.rf ds r)
/-- return the list that a slot owns -/
def sRetO (i : Nat) : SM := fun r => match r[i]? with
  | some (.ow ds) => some (.rf ds r)
  | _ => none
end
def outQ : Option Fl → Option PQ
  | some (.rt z _) => some (.inl z)
  | some (.nx _) => some (.inl .none)
  | some (.rf ds _) => some (.inr ds)
  | _ => none
section
variable {P : Program} {w : World} {K : PySem.W.Frag} {mg : Str → Option Value} {base : Heap}
end
end DL
namespace DL
open PySem PySem.Spec PyProof.Rows L2 Lk
section
variable {K : PySem.W.Frag} {E : XE} {F : Fm} {O : Ow} {G H : Hp} {σ : L2.St} {r : En}
theorem Rp.frz2 (R : Rp K F O G σ H r) {i : Nat} {ds : List PyData} (e : r[i]? = some (Cel.ow ds)) : ∃ p xs, O i = some p ∧ H p = some (.lst xs) ∧ G p = none ∧ Rp K F (fun j => if j = i then none else O j) (upd G p (.lst xs)) σ H (r.set i (.pl (.list ds))) := by
  obtain ⟨p, xs, h1, h2, h0, h3, h4⟩ := R.ow i ds e
  have hio : ∀ ds', r[i]? ≠ some (Cel.io ds') := fun ds' z => by rw [e] at z; cases z
  have gp : G p = none := (R.on i p h1).2.1
  have P := dropO R hio
  have no : ∀ j, (fun j => if j = i then none else O j) j ≠ some p := fun j z => by
    dsimp only at z
    split at z
    · cases z
    · rename_i n
      exact n (R.inj j i p z h1)
  have Q := P.see h3 gp h0 no
  have S := Q.tell (i := i) (c := .pl (.list ds)) (by show (if i = i then none else O i) = none; rw [if_pos rfl]) (.inr ⟨_, .ref p, rfl, h2, .lst (.inl (.inl upd_same)) (h4.sm (same_new gp))⟩)
  rw [List.set_set] at S
  exact ⟨p, xs, h1, h3, gp, S⟩
def fzTo : Nat → En → En
  | 0, r => r
  | n + 1, r => match (fzTo n r)[n]? with
    | some (.ow ds) => (fzTo n r).set n (.pl (.list ds))
    | _ => fzTo n r
def fz (r : En) : En := fzTo r.length r
theorem fzTo_ge {r : En} : ∀ {n j : Nat}, n ≤ j → (fzTo n r)[j]? = r[j]?
  | 0, _, _ => rfl
  | n + 1, j, h => by
    have ih := fzTo_ge (r := r) (n := n) (j := j) (by omega)
    rw [fzTo]
    split
    · rw [List.getElem?_set_ne (by omega)]
      exact ih
    · exact ih
theorem frz_to (R : Rp K F O G σ H r) : ∀ n, ∃ O' G', Same G G' ∧ (∀ j c, O' j = some c → O j = some c) ∧ (∀ j ds p, j < n → r[j]? = some (.ow ds) → O j = some p → G' p = H p) ∧ (∀ j, n ≤ j → O' j = O j) ∧ Rp K F O' G' σ H (fzTo n r)
  | 0 => ⟨O, G, Same.refl _, fun _ _ e => e, fun j ds p h => absurd h (Nat.not_lt_zero _), fun _ _ => rfl, R⟩
  | n + 1 => by
    obtain ⟨O', G', h1, h2, h3, h4, h5⟩ := frz_to R n
    rw [fzTo]
    split
    · rename_i ds e
      obtain ⟨p, xs, o1, o2, gp, S⟩ := h5.frz2 e
      refine ⟨_, _, h1.trans (same_new gp), fun j c e => ?_, fun j ds' q hj er eo => ?_, fun j hj => ?_, S⟩
      · have e' : (if j = n then none else O' j) = some c := e
        split at e'
        · cases e'
        · exact h2 j c e'
      · by_cases z : j = n
        · subst z
          rw [← h4 j (Nat.le_refl _), o1] at eo
          cases eo
          rw [upd_same, o2]
        · have := h3 j ds' q (by omega) er eo
          by_cases y : q = p
          · subst y
            rw [upd_same, o2]
          · rw [upd_ne y]
            exact this
      · show (if j = n then none else O' j) = O j
        rw [if_neg (by omega)]
        exact h4 j (by omega)
    · rename_i hno
      refine ⟨O', G', h1, h2, fun j ds' q hj er eo => ?_, fun j hj => h4 j (by omega), h5⟩
      by_cases z : j = n
      · subst z
        rw [← fzTo_ge (Nat.le_refl j)] at er
        exact absurd er (hno ds')
      · exact h3 j ds' q (by omega) er eo
end
section
variable {α β : Type}
end
def noIo : Cel → Bool
  | .io _ => false
  | .dk _ => false
  | _ => true
def mPeek (m : M Bool) : M Bool := fun r => if r.all noIo then (match m (fz r) with
  | some (.ok b _) => some (.ok b r)
  | some (.ex c p) => some (.ex c p)
  | none => none) else none
section
variable {K : PySem.W.Frag} {E : XE} {F : Fm} {O : Ow} {G H : Hp} {σ : L2.St} {r : En}
theorem frz_run (P : Rp K F O G σ H r) (hio : r.all noIo = true) : ∃ O' G', Same G G' ∧ Rp K F O' G' σ H (fz r) ∧ ∀ (G2 H2 : Hp) (r1 : En), Rp K F O' G2 σ H2 r1 → Go O' G' H G2 H2 → Rp K F O G σ H2 r ∧ Go O G H G H2 ∧ Same G G2 := by
  obtain ⟨O', G', h1, h2, h3, h4, R⟩ := frz_to P r.length
  refine ⟨O', G', h1, R, fun G2 H2 r1 R2 g2 => ?_⟩
  have keep : ∀ (j : Nat) (ds : List PyData), r[j]? = some (.ow ds) → ∀ p, O j = some p → ∀ o, H p = some o → H2 p = some o := fun j ds e p ho o hh => by
    have lj : j < r.length := (List.getElem?_eq_some_iff.mp e).1
    have := h3 j ds p lj e ho
    rw [hh] at this
    exact R2.sub _ _ (g2.gg _ _ this)
  have noio : ∀ (j : Nat) (ds : List PyData), r[j]? ≠ some (.io ds) := fun j ds e => by
    have := List.all_eq_true.mp hio _ (List.mem_of_getElem? e)
    cases this
  refine ⟨⟨fun c o e => R2.sub _ _ (g2.gg _ _ (h1 _ _ e)), P.len, P.pl, fun i ds e => ?_, fun i ds e => absurd e (noio i ds), P.dk, fun i p e => ?_, P.inj, R2.old, R2.nf, P.g0, P.gn⟩, ⟨Same.refl _, fun c o e n => g2.keep c o e fun i z => n i (h2 i c z), fun c e => .inl e, g2.nf⟩, h1.trans g2.gg⟩
  · obtain ⟨p, xs, o1, o2, o3, o4, o5⟩ := P.ow i ds e
    exact ⟨p, xs, o1, o2, o3, keep i ds e p o1 _ o4, o5⟩
  · obtain ⟨⟨c, c1, c2⟩, n1, n2, n3⟩ := P.on i p e
    refine ⟨⟨c, c1, c2⟩, n1, ?_, n3⟩
    cases c with
    | ow ds =>
      obtain ⟨p', xs, o1, o2, o3, o4, o5⟩ := P.ow i ds c1
      rw [e] at o1
      cases o1
      rw [keep i ds c1 p e _ o4]
      simp
    | io ds => exact absurd c1 (noio i ds)
    | dk ks =>
      have := List.all_eq_true.mp hio _ (List.mem_of_getElem? c1)
      cases this
    | un => cases c2
    | pl d => cases c2
theorem dt_peek {X : Cx} {e : Expr} {m : M Bool} (h : DT K E X e m) : DT K E X e (mPeek m) := ⟨fun hK => PT.imp (h.pt hK) fun σ H Q ⟨F, O, G, r, out, P, em, f⟩ => by
  unfold mPeek at em
  split at em
  · rename_i hio
    obtain ⟨O', G', _, R, k⟩ := frz_run P hio
    cases e0 : m (fz r) with
    | none => rw [e0] at em; cases em
    | some o =>
      rw [e0] at em
      refine ⟨F, O', G', fz r, o, R, e0, ?_⟩
      cases o with
      | ex c p => cases em; exact f
      | ok b r1 =>
        cases em
        intro b' G2 H2 R2 g2 q
        obtain ⟨k1, k2, _⟩ := k G2 H2 r1 R2 g2
        exact f b' G H2 k1 k2 q
  · cases em⟩
/-- no list, no tuple -/
def atomD : PyData → Bool
  | .int _ => true
  | .bool _ => true
  | .none => true
  | .str _ => true
  | _ => false
def mPeekV (m : M PyData) : M PyData := fun r => if r.all noIo then (match m (fz r) with
  | some (.ok d _) => if atomD d then some (.ok d r) else none
  | some (.ex c p) => some (.ex c p)
  | none => none) else none
/-- a new list of plain values -/
def mPeekF (m : M (List PyData)) : M (List PyData) := fun r => if r.all noIo then (match m (fz r) with
  | some (.ok ds _) => if ds.all atomD then some (.ok ds r) else none
  | some (.ex c p) => some (.ex c p)
  | none => none) else none
end
end DL
namespace DL
open PySem PySem.Spec PyProof.Rows L2 Lk
section
variable {P : Program} {w : World} {K : PySem.W.Frag} {mg : Str → Option Value} {base : Heap}
end
end DL
namespace DL
open PySem PySem.Spec PyProof.Rows L2 Lk
/-- what a call gives: a value, or the class of the error that it raises -/
abbrev PX := PyData ⊕ Str
/-- a class of errors -/
structure ErrC (K : PySem.W.Frag) (C : Addr) : Prop where
  ex : PySem.W.excIn K C [.type "ValueError", .type "Exception", .type "BaseException", .type "object"] "ValueError.__new__" = true
  kp : PySem.W.keepIn K (.ref C) = true
  ty : PySem.W.typeIn K (.ref C) = some (.type "type")
  sb : PySem.W.subIn K (.ref C) (.type "BaseException") = some true
def Kls (K : PySem.W.Frag) (mg : Str → Option Value) (c : Str) : Prop := ∃ C, mg c = some (.ref C) ∧ ErrC K C
def catches (h c : Str) : Bool := h == c || h == "ReasonError"
/-- whether a clause of h takes an error of c -/
def Exo (K : PySem.W.Frag) (mg : Str → Option Value) (c h : Str) : Prop := ∀ C CH, mg c = some (.ref C) → mg h = some (.ref CH) → PySem.W.exmOne K (.ref C) (.ref CH) = some (catches h c)
def HasX (P : Program) (w : World) (K : PySem.W.Frag) (mg : Str → Option Value) (base : Heap) (k : Nat) (x : Str) (ps : List Str) (sp : Sp) : Prop :=
  ∃ (f : Addr) (fd : FuncData), FnOk P w K mg base (L2.CX P w) k f fd ps sp ∧ Binds K fd ps [] ∧ mg x = some (.ref f) ∧ PySem.W.keepIn K (.ref f) = true
theorem HasX.mono {P : Program} {w : World} {K : PySem.W.Frag} {mg : Str → Option Value} {base : Heap} {k j : Nat} {x : Str} {ps : List Str} {sp : Sp} (h : HasX P w K mg base k x ps sp) (l : k ≤ j) : HasX P w K mg base j x ps sp := by
  obtain ⟨f, fd, F, r⟩ := h
  exact ⟨f, fd, F.mono l, r⟩
def mCallX (g : List PyData → Option PX) (m : M (List PyData)) : M PyData := m.bind fun ds r => match g ds with
  | some (.inl z) => some (.ok z r)
  | some (.inr c) => some (.ex c [])
  | none => none
section
variable {K : PySem.W.Frag} {E : XE} {X : Cx} {e : Expr} {es : List Expr} {m : M (List PyData)} {pos : Pos}
end
def sRaise (c : Str) : SM := fun _ => some (.ex c [])
def outX : Option Fl → Option PX
  | some (.rt z _) => some (.inl z)
  | some (.nx _) => some (.inl .none)
  | some (.ex c []) => some (.inr c)
  | _ => none
section
variable {P : Program} {w : World} {K : PySem.W.Frag} {mg : Str → Option Value} {base : Heap}
end
def pick (c : Str) : List (Str × SM) → Option SM
  | [] => none
  | (h, sv) :: t => if catches h c then some sv else pick c t
def sTry (L : List Str) (g : List PyData → Option PX) (m : M (List PyData)) (hs : List (Str × SM)) (ok : PyData → SM) : SM := fun r => match m r with
  | some (.ok ds r') => match g ds with
    | some (.inl z) => ok z r'
    | some (.inr c) => if L.contains c then (match pick c hs with
      | some sv => sv r'
      | none => none) else none
    | none => none
  | _ => none
def okNx (_ : PyData) : SM := fun r => some (.nx r)
/-- the clauses, and for each its suite -/
inductive Hds (K : PySem.W.Frag) (E : XE) (X : Cx) (L : List Str) : List ExceptHandler → List (Str × SM) → Prop
  | nil : Hds K E X L [] []
  | cons {x : Str} {b₀ : Stmt} {suite : List Stmt} {np pos' : Pos} {hds : List ExceptHandler} {sv : SM} {l : List (Str × SM)} (kl : Kls K X.mg x) (hg : Gl X x) (hdb : (x == ("__debug__" : Str)) = false)
      (ex : ∀ c ∈ L, Exo K X.mg c x) (hsu : ∀ (a : Addr) (pn : List (Addr × Obj)), DSs K E (X.suite a pn) (b₀ :: suite) sv) (r : Hds K E X L hds l) :
      Hds K E X L (.ExceptHandler (some (.Name x np)) none (b₀ :: suite) pos' :: hds) ((x, sv) :: l)
section
variable {K : PySem.W.Frag} {E : XE} {X : Cx} {e : Expr} {es : List Expr} {m : M (List PyData)} {pos : Pos}
end
section
variable {K : PySem.W.Frag} {E : XE} {X : Cx} {a b c e : Expr} {ma mb mc : M PyData} {pos : Pos}
end
end DL
namespace DL
open PySem PySem.Spec PyProof.Rows L2 Lk
def countT : PyData → List PyData → Option PyData
  | .tuple ds, [d] => if SeqAt.shaped (.tuple ds) && SeqAt.shaped d then some (.int ((ds.countP fun z => PyData.eqv z d : Nat) : Int)) else none
  | _, _ => none
section
variable {K : PySem.W.Frag} {E : XE} {X : Cx} {a b e : Expr} {es : List Expr} {ma mb : M PyData} {pos : Pos}
def mCntT (i : Nat) (m : M (List PyData)) : M PyData := (mV i).bind fun d => m.bind fun ds => M.lift (countT d ds)
variable {kn : L2.St → Hp → Prop}
end
section
variable {P : Program} {w : World} {K : PySem.W.Frag} {mg : Str → Option Value} {base : Heap}
end
section
variable {K : PySem.W.Frag} {E : XE} {X : Cx} {a b e : Expr} {pos : Pos} {ma mb : M PyData}
/-- tuple(l) of a list -/
def tupL : PyData → Option PyData
  | .list ds => some (.tuple ds)
  | _ => none
def mTested (g : List PyData → Option PyData) (ma mb : M PyData) : M PyData := ma.bind fun d => mb.bind fun l => M.lift ((tupL l).bind fun t => g [d, t])
end
section
variable {K : PySem.W.Frag} {E : XE} {X : Cx} {a b c e : Expr} {pos : Pos} {m : M PyData} {mc : M Bool} {ml : M (List PyData)} {ma mb : M PQ}
end
end DL
namespace DL
open PySem PySem.Spec PyProof.Rows L2 Lk
theorem Vals.at2 : ∀ {xs : List V} {us : List Value} (j : Nat), Vals xs us → (xs[j]? = none ∧ us[j]? = none) ∨ ∃ x u, xs[j]? = some x ∧ us[j]? = some u ∧ RelV x u
  | _, _, j, .nil => .inl ⟨rfl, rfl⟩
  | _, _, 0, .cons r _ => .inr ⟨_, _, rfl, rfl, r⟩
  | _, _, j + 1, .cons _ t => Vals.at2 j t
theorem Vals.pick {xs : List V} {us : List Value} (r : Vals xs us) : ∀ (ix : List Nat), Vals (ix.filterMap fun j => xs[j]?) (ix.filterMap fun j => us[j]?)
  | [] => .nil
  | j :: ix => by
    rcases Vals.at2 j r with ⟨h1, h2⟩ | ⟨x, u, h1, h2, h3⟩
    · rw [List.filterMap_cons, List.filterMap_cons, h1, h2]
      exact Vals.pick r ix
    · rw [List.filterMap_cons, List.filterMap_cons, h1, h2]
      exact .cons h3 (Vals.pick r ix)
section
variable {K : PySem.W.Frag} {E : XE} {X : Cx} {e : Expr} {te : TE} {lo hi : Option Expr} {es : Expr} {tl th ts : TO} {p2 pos : Pos}
theorem DqAll.at2 {G : Hp} : ∀ {xs : List V} {ds : List PyData} (j : Nat), DqAll K G xs ds → (xs[j]? = none ∧ ds[j]? = none) ∨ ∃ x d, xs[j]? = some x ∧ ds[j]? = some d ∧ Dq K G x d
  | _, _, j, .nil => .inl ⟨rfl, rfl⟩
  | _, _, 0, .cons r _ => .inr ⟨_, _, rfl, rfl, r⟩
  | _, _, j + 1, .cons _ t => DqAll.at2 j t
theorem DqAll.pick {G : Hp} {xs : List V} {ds : List PyData} (r : DqAll K G xs ds) : ∀ (ix : List Nat), DqAll K G (ix.filterMap fun j => xs[j]?) (ix.filterMap fun j => ds[j]?)
  | [] => .nil
  | j :: ix => by
    rcases DqAll.at2 j r with ⟨h1, h2⟩ | ⟨x, u, h1, h2, h3⟩
    · rw [List.filterMap_cons, List.filterMap_cons, h1, h2]
      exact DqAll.pick r ix
    · rw [List.filterMap_cons, List.filterMap_cons, h1, h2]
      exact .cons h3 (DqAll.pick r ix)
end
end DL
namespace DL
open PySem PySem.Spec PyProof.Rows L2 Lk
def asInts : List PyData → Option (List Int)
  | [] => some []
  | .int i :: r => (asInts r).map (i :: ·)
  | _ => none
theorem asInts_some : ∀ {ds : List PyData} {ns : List Int}, asInts ds = some ns → ds = ns.map PyData.int
  | [], ns, h => by cases h; rfl
  | d :: ds, ns, h => by
    cases d with
    | int i =>
      rw [asInts] at h
      obtain ⟨r, h1, rfl⟩ := Option.map_eq_some_iff.mp h
      rw [asInts_some h1]
      rfl
    | _ => cases h
section
variable {K : PySem.W.Frag} {E : XE} {X : Cx} {e : Expr} {ma : M PyData} {pos : Pos}
end
end DL
namespace DL
open PySem PySem.Spec PyProof.Rows L2 Lk
section
variable {K : PySem.W.Frag} {X : Cx}
end
end DL
namespace DL
open PySem PySem.Spec PyProof.Rows L2 Lk
def insU (k : Int) : List Int → List Int
  | [] => [k]
  | x :: xs => if k < x then k :: x :: xs else if k = x then x :: xs else x :: insU k xs
def sortU (l : List Int) : List Int := l.foldl (fun a k => insU k a) []
theorem mem_insU {k j : Int} : ∀ {l : List Int}, j ∈ insU k l ↔ j = k ∨ j ∈ l
  | [] => by simp [insU]
  | x :: xs => by
    rw [insU]
    split
    · simp
    · split
      · rename_i h
        subst h
        simp
      · rw [List.mem_cons, mem_insU, List.mem_cons]
        constructor
        · rintro (h | h | h)
          · exact .inr (.inl h)
          · exact .inl h
          · exact .inr (.inr h)
        · rintro (h | h | h)
          · exact .inr (.inl h)
          · exact .inl h
          · exact .inr (.inr h)
theorem insU_up {k : Int} : ∀ {l : List Int}, l.Pairwise (· < ·) → (insU k l).Pairwise (· < ·)
  | [], _ => by simp [insU]
  | x :: xs, h => by
    have h' := List.pairwise_cons.mp h
    rw [insU]
    split
    · rename_i hk
      exact List.pairwise_cons.mpr ⟨fun y hy => by
        rcases List.mem_cons.mp hy with e | hy
        · rw [e]; exact hk
        · have := h'.1 y hy; omega, h⟩
    · split
      · exact h
      · rename_i h1 h2
        refine List.pairwise_cons.mpr ⟨fun y hy => ?_, insU_up h'.2⟩
        rcases mem_insU.mp hy with e | hy
        · omega
        · exact h'.1 y hy
theorem insU_len {k : Int} : ∀ {l : List Int}, l.Pairwise (· < ·) → (insU k l).length = if k ∈ l then l.length else l.length + 1
  | [], _ => by simp [insU]
  | x :: xs, h => by
    have h' := List.pairwise_cons.mp h
    rw [insU]
    split
    · rename_i hk
      have : k ∉ x :: xs := fun hm => by
        rcases List.mem_cons.mp hm with e | hm
        · omega
        · have := h'.1 k hm; omega
      rw [if_neg this]; rfl
    · split
      · rename_i h1 h2
        rw [if_pos (by rw [h2]; exact List.mem_cons_self)]
      · rename_i h1 h2
        rw [List.length_cons, insU_len h'.2]
        by_cases hm : k ∈ xs
        · rw [if_pos hm, if_pos (List.mem_cons_of_mem _ hm), List.length_cons]
        · rw [if_neg hm, if_neg (fun z => by
            rcases List.mem_cons.mp z with e | z
            · exact h2 e
            · exact hm z), List.length_cons]
theorem sortU_snoc (l : List Int) (k : Int) : sortU (l ++ [k]) = insU k (sortU l) := by
  unfold sortU
  rw [List.foldl_append]
  rfl
theorem foldU : ∀ (l a : List Int), a.Pairwise (· < ·) → (l.foldl (fun a k => insU k a) a).Pairwise (· < ·) ∧ ∀ j, j ∈ l.foldl (fun a k => insU k a) a ↔ j ∈ a ∨ j ∈ l
  | [], a, h => ⟨h, fun j => by simp⟩
  | k :: l, a, h => by
    obtain ⟨h1, h2⟩ := foldU l (insU k a) (insU_up h)
    refine ⟨h1, fun j => ?_⟩
    rw [List.foldl_cons, h2, mem_insU, List.mem_cons]
    constructor
    · rintro ((h | h) | h)
      · exact .inr (.inl h)
      · exact .inl h
      · exact .inr (.inr h)
    · rintro (h | h | h)
      · exact .inl (.inr h)
      · exact .inl (.inl h)
      · exact .inr h
theorem sortU_up (l : List Int) : (sortU l).Pairwise (· < ·) := (foldU l [] List.Pairwise.nil).1
theorem mem_sortU {l : List Int} {j : Int} : j ∈ sortU l ↔ j ∈ l := by
  rw [show sortU l = l.foldl (fun a k => insU k a) [] from rfl, (foldU l [] List.Pairwise.nil).2 j]
  simp
theorem len_mono (l : List Int) (i : Nat) (hi : i ≤ l.length) : (sortU (l.take i)).length ≤ (sortU l).length := by
  have : ∀ d, ∀ i, l.length - i = d → i ≤ l.length → (sortU (l.take i)).length ≤ (sortU l).length := by
    intro d
    induction d with
    | zero =>
      intro i h1 h2
      have : i = l.length := by omega
      rw [this, List.take_length]
      exact Nat.le_refl _
    | succ d ih =>
      intro i h1 h2
      have hlt : i < l.length := by omega
      have := ih (i + 1) (by omega) hlt
      rw [List.take_succ, List.getElem?_eq_getElem hlt, Option.toList_some, sortU_snoc, insU_len (sortU_up _)] at this
      split at this
      · exact this
      · omega
  exact this _ i rfl hi
theorem up_unique : ∀ {l m : List Int}, l.Pairwise (· < ·) → m.Pairwise (· < ·) → (∀ j, j ∈ l ↔ j ∈ m) → l = m
  | [], [], _, _, _ => rfl
  | [], x :: _, _, _, h => absurd ((h x).mpr List.mem_cons_self) (by simp)
  | x :: _, [], _, _, h => absurd ((h x).mp List.mem_cons_self) (by simp)
  | x :: l, y :: m, h1, h2, h => by
    have h1' := List.pairwise_cons.mp h1
    have h2' := List.pairwise_cons.mp h2
    have e : x = y := by
      rcases List.mem_cons.mp ((h x).mp List.mem_cons_self) with e | e
      · exact e
      · rcases List.mem_cons.mp ((h y).mpr List.mem_cons_self) with e' | e'
        · exact e'.symm
        · have := h1'.1 y e'
          have := h2'.1 x e
          omega
    subst e
    rw [up_unique h1'.2 h2'.2 fun j => ⟨fun hj => by
      rcases List.mem_cons.mp ((h j).mp (List.mem_cons_of_mem _ hj)) with e | e
      · have := h1'.1 j hj; omega
      · exact e, fun hj => by
      rcases List.mem_cons.mp ((h j).mpr (List.mem_cons_of_mem _ hj)) with e | e
      · have := h2'.1 j hj; omega
      · exact e⟩]
section
variable {prog : Program} {w : World} {A : Around} {E : Value → Shared → Prop} {s : Shared}
theorem fill_set {R : Result → Shared → Prop} {I : Addr} {fp wr : List Addr} {G : Array GenState → Array GenState → Prop} {P : Nat → Value → Prop} {St : Nat → Shared → Prop} {ns : List Int} (W : WalksS prog w A.in1 I fp wr G ns.length P St) (S : Addr) (hSf : S ∉ fp)
    (hval : ∀ i v, P i v → ∃ k t, ns[i]? = some k ∧ v = .int k t) (hb : (sortU ns).length + 1 < scanBound) :
    ∀ (k i : Nat) (s : Shared), ns.length - i = k → i ≤ ns.length → St i s → SetR w s.heap S (fun j => decide (j ∈ ns.take i)) (sortU (ns.take i)).length →
      (∀ s', Moved (S :: wr) G s s' → SetR w s'.heap S (fun j => decide (j ∈ ns)) (sortU ns).length → R (.ok (.ret .none)) s') →
      codeAny (model prog w) A (.builtin "set.update.loop" ⟨[.ref S, .ref I], []⟩) R s := by
  have off : S ∉ wr := fun h => hSf (W.sub _ h)
  have inc : ∀ b ∈ wr, b ∈ S :: wr := fun b hb => List.mem_cons_of_mem _ hb
  intro k
  induction k with
  | zero =>
    intro i s hk hi hst hS hR
    obtain rfl : i = ns.length := by omega
    rw [List.take_length] at hS
    refine codeAny_builtin F.entry_set_update_loop ?_
    rw [Around.under_plainId F.plain_set_update_loop _]
    show wpAny _ A.in1 (pyNext (.ref I) >>= _) _ _ s
    refine wpAny_bind (W.done s _ _ hst fun s' hm => ?_)
    show wpAny _ A.in1 (ret Value.none) _ _ s'
    exact wpAny_pure (hR s' (hm.mono inc) (hS.at fun o ho => hm.heap S _ off ho))
  | succ k ih =>
    intro i s hk hi hst hS hR
    have hlt : i < ns.length := by omega
    refine codeAny_builtin F.entry_set_update_loop ?_
    rw [Around.under_plainId F.plain_set_update_loop _]
    show wpAny _ A.in1 (pyNext (.ref I) >>= _) _ _ s
    refine wpAny_bind (W.item i s _ _ hlt hst fun v s' hP hst' hm => ?_)
    obtain ⟨m, t, hm1, rfl⟩ := hval i v hP
    have hS' := hS.at (h' := s'.heap) fun o ho => hm.heap S _ off ho
    show wpAny _ A.in1 (holding [Value.int m t] (setAdd S (.int m t)) >>= _) _ _ s'
    refine wpAny_bind (wpAny_holding ?_)
    unfold setAdd
    refine wpAny_holding ?_
    refine wpAny_bind ((intKind prog w).pyHash (intKind_is prog w m t) ?_)
    have tk : ns.take (i + 1) = ns.take i ++ [m] := by rw [List.take_succ, hm1]; rfl
    have room : (sortU (ns.take i)).length + 1 < scanBound := by
      have := len_mono ns i hi
      omega
    refine setR_add_hashed (s := { s' with toks := s'.toks + 1 }) hS' room fun h' sb r => ?_
    have r' : SetR w h' S (fun j => decide (j ∈ ns.take (i + 1))) (sortU (ns.take (i + 1))).length := by
      have e : (sortU (ns.take (i + 1))).length = if decide (m ∈ ns.take i) = true then (sortU (ns.take i)).length else (sortU (ns.take i)).length + 1 := by
        rw [tk, sortU_snoc, insU_len (sortU_up _)]
        simp only [mem_sortU, decide_eq_true_eq]
      rw [e]
      refine r.congr fun j => ?_
      rw [tk]
      simp only [List.mem_append, List.mem_singleton]
      by_cases h1 : j ∈ ns.take i <;> by_cases h2 : j = m <;> simp [h1, h2]
    refine wpAny_pure ⟨plainId_quiet F.plain_set_update_loop _, ih (i + 1) _ (by omega) hlt (W.frame _ s' _ _ hst' (Nat.le_succ _) fun b hb o e => ?_) r' fun s'' hm'' hS'' => ?_⟩
    · rw [sb.2 b (fun h : b = S => hSf (by rw [← h]; exact hb))]; exact e
    · refine hR s'' (Moved.trans W.gtrans ((hm.mono inc).then_heap (Nat.le_succ _) fun b o hb e => ?_) hm'') hS''
      rw [sb.2 b (fun h : b = S => hb (by rw [h]; exact List.mem_cons_self))]; exact e
theorem code_set_one (a : Value) {Q : Value → Shared → Prop}
    (h : Q (.ref s.heap.objs.size) { s with heap := s.heap.push { cls := .type "set", dict := none, data := .set #[] 0 (.fresh 0 0 (!w.params.followText "set-order")) } }) :
    codeAny (model prog w) A (.call (.builtin "set.__new__") ⟨[.type "set", a], []⟩) (wants Q E) s := by
  refine codeAny_of_tree ?_
  show wpAny _ A.in1 (do checkBuiltinCall "set.__new__" ⟨[.type "set", a], []⟩; again (.builtin "set.__new__" ⟨[.type "set", a], []⟩)) _ _ s
  refine wpAny_bind (wpAny_of_eq (F.newCall_set_1 a) (wpAny_pure ⟨plainId_quiet F.plain_set_new _, codeAny_builtin F.entry_set_new ?_⟩))
  rw [Around.under_plainId F.plain_set_new _]
  unfold Builtin.«set.__new__» Builtin.Frozenset.newClass
  have sb := sub_set_self
  obtain ⟨hp, g, d, tk, os⟩ := s
  dsimp only
  wp_walk
  refine wpAny_askSetting (wpAny_pure ?_)
  dsimp only
  simp only [newObj]
  refine wpAny_bind (wpAny_alloc (wpAny_pure ?_))
  exact wpAny_pure h
set_option maxHeartbeats 3200000 in
theorem set_of {l : Addr} {items : Array Value} {ns : List Int} {Q : Value → Shared → Prop} (hh : A.handled = none) (hl : s.heap.IsList l items) (hi : IntsAre items.toList ns) (hb : (sortU ns).length + 1 < scanBound)
    (h : ∀ (h' : Heap) (tk : Nat), SetR w h' s.heap.objs.size (fun j => decide (j ∈ ns)) (sortU ns).length → (∀ b o, b < s.heap.objs.size → s.heap.get? b = some o → h'.get? b = some o) → Q (.ref s.heap.objs.size) { s with heap := h', toks := tk }) :
    wpAny (model prog w) A (call (.type "set") [.ref l]) Q E s := by
  obtain ⟨c, tl, hmro⟩ := F.called_set.mro
  have hmade := F.called_set.made
  have hsub := F.called_set.sub
  refine wpAny_call (codeAny_of_tree ?_)
  show wpAny _ _ (callAny (.type "set") _) _ _ _
  refine wpAny_pure ⟨Code.quiet_builtin _ (by decide +kernel), codeAny_builtin F.entry_type_call ?_⟩
  rw [Around.under_plain (weight_type_call_type "set" [.ref l] []) rfl]
  have h1 := F.called_set.notType
  have h2 := F.called_set.canCreate
  have hct := F.typeCall_set_1 (.ref l)
  repeat (any_goals (first | assumption | wp_step))
  generalize eO : (!w.params.followText "set-order") = led
  refine codeAny_mono (code_set_one (.ref l) (E := E) (Q := fun obj s₁ => obj = .ref s.heap.objs.size ∧ s₁ = { s with heap := s.heap.push ({ cls := .type "set", dict := none, data := .set #[] 0 (.fresh 0 0 led) } : Obj) }) (by rw [eO]; exact ⟨rfl, rfl⟩)) fun r s₁ hr => ?_
  have R0 : SetR w (s.heap.push ({ cls := .type "set", dict := none, data := .set #[] 0 (.fresh 0 0 led) } : Obj)) s.heap.objs.size (fun _ => false) 0 := by rw [← eO]; exact setR_fresh w
  cases r with
  | error e => exact hr
  | ok fl =>
    cases fl with
    | ret obj =>
      obtain ⟨rfl, rfl⟩ := hr
      have hS : (s.heap.push ({ cls := .type "set", dict := none, data := .set #[] 0 (.fresh 0 0 led) } : Obj)).get? s.heap.objs.size = some ({ cls := .type "set", dict := none, data := .set #[] 0 (.fresh 0 0 led) } : Obj) := Heap.get?_push_size _ rfl
      have hT : Shared.TypeIs { s with heap := s.heap.push ({ cls := .type "set", dict := none, data := .set #[] 0 (.fresh 0 0 led) } : Obj) } (.ref s.heap.objs.size) "set" := ⟨_, hS, rfl⟩
      have hli := F.called_set.init.lookup
      have hbi := F.called_set.init.bind (.ref s.heap.objs.size)
      repeat (any_goals (first | assumption | wp_step))
      refine codeAny_mono (codeAny_call_builtin (R := wants (fun r s₂ => r = .none ∧ ∃ h' tk, s₂ = { s with heap := h', toks := tk } ∧ SetR w h' s.heap.objs.size (fun j => decide (j ∈ ns)) (sortU ns).length ∧
          (∀ b o, b < s.heap.objs.size → s.heap.get? b = some o → h'.get? b = some o)) E) F.called_set.init.plain F.entry_set_init (check_set_init_1 hT ?_)) fun r₂ s₂ hr₂ => ?_
      · obtain ⟨ol, hol, hcl, nl, hdl⟩ := hl
        obtain ⟨ocls, odict, odata, oslots⟩ := ol
        simp only at hcl hdl
        subst hcl; subst hdl
        have hol' : (s.heap.push ({ cls := .type "set", dict := none, data := .set #[] 0 (.fresh 0 0 led) } : Obj)).get? l = some { cls := .type "list", dict := odict, data := .seq items nl, slots := oslots } := Heap.get?_push_of_some _ hol
        have hsls := F.sub_list_set
        have hslf := F.sub_list_frozenset
        have hne : (Value.type "list" == Value.type "dict") = false := by decide
        have hl1 : (s.heap.push ({ cls := .type "set", dict := none, data := .set #[] 0 (.fresh 0 0 led) } : Obj)).IsList l items := ⟨_, hol', rfl, nl, rfl⟩
        unfold Builtin.«set.__init__» noKeywords Builtin.Frozenset.updateFrom
        generalize hPI : pyIter = PI
        wp_walk
        subst hPI
        refine wpAny_pyIter_list (s := { s with heap := s.heap.push ({ cls := .type "set", dict := none, data := .set #[] 0 (.fresh 0 0 led) } : Obj) }) hl1 ?_
        refine wpAny_bind (wpAny_runValue ?_)
        have lt : l < s.heap.objs.size := Heap.lt_size hol
        have hh3 : A.in1.in1.in1.handled = none := by simp [hh]
        have ne1 : l ≠ (s.heap.push ({ cls := .type "set", dict := none, data := .set #[] 0 (.fresh 0 0 led) } : Obj)).objs.size := by
          rw [Heap.size_push]; exact Nat.ne_of_lt (Nat.lt_succ_of_lt lt)
        have off : s.heap.objs.size ∉ [(s.heap.push ({ cls := .type "set", dict := none, data := .set #[] 0 (.fresh 0 0 led) } : Obj)).objs.size, l] := by
          rw [Heap.size_push]; simp only [List.mem_cons, List.mem_singleton, List.not_mem_nil, or_false, not_or]
          exact ⟨Nat.ne_of_lt (Nat.lt_succ_self _), Nat.ne_of_gt lt⟩
        have hn : items.size = ns.length := by
          have q := congrArg List.length (SrtO.iv_ints hi)
          rw [List.length_map] at q
          rw [← Array.length_toList]
          exact q
        have W := (Walks.list (prog := prog) (w := w) hh3 (s.heap.push ({ cls := .type "set", dict := none, data := .set #[] 0 (.fresh 0 0 led) } : Obj)).objs.size l ne1 items).toS
        rw [hn] at W
        refine fill_set W s.heap.objs.size off (fun i v hv => ?_) hb ns.length 0 _ (by omega) (Nat.zero_le _) ⟨⟨_, Heap.get?_push_size _ rfl, rfl, rfl⟩, (hl1.push _)⟩ ?hS0 ?hR
        · obtain ⟨t, e⟩ := IntsAre.int_at hi i v (by rw [Array.getElem?_toList]; exact hv)
          have hlt : i < ns.length := by
            rw [← hn]
            exact (Array.getElem?_eq_some_iff.mp hv).1
          exact ⟨ns[i], t, List.getElem?_eq_getElem hlt, by rw [e, List.getD_eq_getElem?_getD, List.getElem?_eq_getElem hlt]; rfl⟩
        case hS0 =>
          exact (R0.at fun o ho => Heap.get?_push_of_some _ ho).congr fun j => by simp
        case hR =>
          intro s' hm hS'
          obtain ⟨h', g', d', tk', os'⟩ := s'
          obtain rfl : g' = s.gens := hm.gens
          obtain rfl : d' = s.drawn := hm.drawn
          obtain rfl : os' = s.os := hm.os
          show wpAny _ _ _ _ _ _
          refine wpAny_pure ?_
          show wpAny _ _ (ret Value.none) _ _ _
          refine wpAny_pure ⟨rfl, h', tk', rfl, hS', fun b o hb e => ?_⟩
          have hb1 : b ≠ s.heap.objs.size := Nat.ne_of_lt hb
          have hb2 : b ≠ (s.heap.push ({ cls := .type "set", dict := none, data := .set #[] 0 (.fresh 0 0 led) } : Obj)).objs.size := by
            rw [Heap.size_push]; exact Nat.ne_of_lt (Nat.lt_succ_of_lt hb)
          exact hm.heap b o (by simp only [List.mem_cons, List.mem_singleton, List.not_mem_nil, or_false, not_or]; exact ⟨hb1, hb2⟩) (Heap.get?_push_of_some _ (Heap.get?_push_of_some _ e))
      · cases r₂ with
        | error e => exact hr₂
        | ok fl₂ =>
          cases fl₂ with
          | ret r =>
            obtain ⟨rfl, h', tk, rfl, hS', hk'⟩ := hr₂
            repeat (any_goals (first | assumption | wp_step))
            exact h _ _ hS' hk'
          | next => exact hr₂.elim
          | brk => exact hr₂.elim
          | cont => exact hr₂.elim
    | next => exact hr.elim
    | brk => exact hr.elim
    | cont => exact hr.elim
end
section
variable {K : PySem.W.Frag} {E : XE} {X : Cx} {a : Expr} {ma : M PyData} {ta : TE} {p p2 q pos : Pos}
end
end DL
namespace DL
open PySem PySem.Spec PyProof.Rows L2 Lk
section
variable {K : PySem.W.Frag} {E : XE} {X : Cx} {pos : Pos}
end
end DL
namespace DL
open PySem PySem.Spec PyProof.Rows L2 Lk
section
variable {K : PySem.W.Frag} {E : XE} {X : Cx} {ma : M PyData} {pos : Pos}
open PySem.AutoSeq1 in
theorem list_extend_lstA (l : Addr) (items : Array Value) (n : Nat) (b : Addr) (items2 : Array Value) (n2 : Nat) (od : Option Addr) (sl : Array (Option Value)) (hs0 : ¬(!items.isEmpty && Builtin.List.listTooLong (items.size + items2.size)) = true) (hs1 : items.size ≤ sizeLine) (hs2 : items.size + items2.size ≤ sizeLine + 1 := by seq_fits) :
    Meets (Builtin.«list.extend» ⟨[.ref l, .ref b], []⟩) (fun _ R s => s.heap.get? l = some { cls := .type "list", dict := none, data := .seq items n, slots := #[] } ∧ s.heap.get? b = some { cls := .type "list", dict := od, data := .seq items2 n2, slots := sl } ∧ R (.ok (.ret Value.none)) { s with heap := s.heap.update l (Obj.mapSeq fun x => x ++ items2), toks := s.toks }) :=
  .of_wp fun prog w A R s h => by
    obtain ⟨hp, g, d, tk, os⟩ := s; obtain ⟨hl, hb, h⟩ := h; have f1 := idx_int; have f2 := AutoSeq1.sub_tuple_tuple; have f3 := AutoSeq1.sub_list_list; have f4 := AutoSeq1.sub_tuple_list; have f5 := AutoSeq1.sub_list_tuple;
    have hz' : (items ++ items2).size ≤ sizeLine + 1 := by rw [Array.size_append]; exact hs2
    wp_walk using (wpAny_updateSeq hl rfl (hz := hs1) (_hz' := hz')), wpAny_loadPart' hl, wpAny_loadPart' hb; exact ⟨_, rfl, h⟩
def rExtendL (K : PySem.W.Frag) : V → List V → Hp → VK → Prop := fun x vs H Q => ∃ l b xs zs, x = .ref l ∧ vs = [.ref b] ∧ H l = some (.lst xs) ∧ SqL K H b zs ∧ xs.length + zs.length ≤ sizeLine ∧ Q .non (upd H l (.lst (xs ++ zs)))
theorem mt_extendL : MtM X "list.extend" (rExtendL X.K) := by
  intro pins s σ H x vs v us Q I rx rv h
  obtain ⟨l, b, xs, zs, rfl, rfl, hH, hB, hz, q⟩ := h
  cases rx
  obtain ⟨u, rfl, ru⟩ := rv.one
  cases ru
  obtain ⟨z, its, n, r, hl, e⟩ := I.lstM hH
  obtain ⟨its2, r2, pl2, z2⟩ := I.list hB
  obtain ⟨⟨oc, od, odata, osl⟩, e2, hc, n2, hdata⟩ := pl2.isList
  have hl2 : zs.length = its2.length := r2.length
  simp only at hc hdata
  subst hc
  subst hdata
  have hsz : its.toArray.size + its2.toArray.size ≤ sizeLine := by rw [List.size_toArray, List.size_toArray]; omega
  have hlong : ¬ (!its.toArray.isEmpty && Builtin.List.listTooLong (its.toArray.size + its2.toArray.size)) = true := by
    rw [notLongL hsz, Bool.and_false]
    exact Bool.false_ne_true
  refine call_meets F.slot_list_extend ⟨_, e, rfl⟩ F.entry_list_extend (F.args_list_extend_2 _ _)
    (list_extend_lstA l its.toArray n b its2.toArray n2 od osl hlong (by rw [List.size_toArray]; omega) (by omega)) ⟨e, e2, ?_⟩
  refine ⟨.non, _, I.lset (its' := its ++ its2) hH e (by simp) (r.append r2) ?_, rfl, q⟩
  rw [List.length_append]
  omega
def sExtL (i : Nat) (m : M PyData) : SM := fun r0 => if (ownOf r0[i]?).isSome then sBind m (fun d r => match ownOf r[i]?, asList d with
  | some ds, some es => if ds.length + es.length ≤ 1000000 then some (.nx (upO i (ds ++ es) r)) else none
  | _, _ => none) r0 else none
@[simp] theorem s_extL {i : Nat} {r : En} : sExtL i ma r = if (ownOf r[i]?).isSome then sBind ma (fun d r => match ownOf r[i]?, asList d with
  | some ds, some es => if ds.length + es.length ≤ 1000000 then some (.nx (upO i (ds ++ es) r)) else none
  | _, _ => none) r else none := rfl
theorem ds_extL (i : Nat) {st : Stmt} {te : TE} (ha : X.K = K → ∀ σ H Q, tM K E (rD K) ma σ H Q → te σ H Q) (hp : PS X st (tDrop (tBM X.K "list" (rExtendL X.K) (tVar i) (tCons te tNil)))) : DS K E X st (sExtL i ma) := ⟨fun hK => by
  subst hK
  refine PS.imp hp fun D σ H ⟨F, O, G, r, fl, P, em, ff⟩ => ?_
  unfold sExtL at em
  split at em
  · rename_i hs
    obtain ⟨bs0, e0⟩ := isSome_ex hs
    obtain ⟨q, xs0, hq, hσ, hx0, _⟩ := P.own_at e0
    refine ⟨_, hσ, .inl ⟨rfl, _, .inl (.inl hx0)⟩, ha rfl _ _ _ (tS.run P ff em fun d r1 x G1 H1 P1 g1 q1 e1 f1 => ?_)⟩
    split at e1
    · rename_i ds es e2 hes
      split at e1
      · rename_i hl
        cases e1
        obtain ⟨q', xs1, hq', hσ', hx, hb⟩ := P1.own_at e2
        rw [hq] at hq'
        cases hq'
        have gp := (P1.on i q hq).2.1
        have fin : ∀ (ys : List V), DqAll X.K G1 ys es → D.nx σ (upd H1 q (.lst (xs1 ++ ys))) := fun ys hy => by
          obtain ⟨P2, g2⟩ := P1.chg e2 hq (Same.refl G1) (fun c o e => by rw [upd_ne (ne_of_none e gp)]; exact P1.sub _ _ e) gp (fun c o n e => by rw [upd_ne n]; exact e) (fun c e => .inl e) (upd_same (o := .lst (xs1 ++ ys))) (hb.append hy)
          exact f1 O G1 σ _ P2 (Same.refl _)
        cases asList_some hes
        cases q1 with
        | lst hs ha => exact ⟨q, _, xs1, _, rfl, rfl, hx, P1.sub.seq hs, line_le (by rw [hb.length, ha.length]; exact hl), fin _ ha⟩
      · cases e1
    · cases e1
  · cases em⟩
end
end DL
namespace DL
open PySem PySem.Spec PyProof.Rows L2 Lk
def lenOf : PyData → Nat
  | .list ds => ds.length
  | .tuple ds => ds.length
  | _ => 0
def isLst : PyData → Bool
  | .list _ => true
  | .tuple _ => true
  | _ => false
def leLen (a b : PyData) : Bool := decide ((lenOf a : Int) ≤ (lenOf b : Int))
def sortLenM : PyData → Option (List PyData)
  | .list ds => if ds.all isLst then some (ds.mergeSort leLen) else none
  | _ => none
def mSortLen (m : M PyData) : M (List PyData) := m.bind fun d => M.lift (sortLenM d)
@[simp] theorem e_sortLen {m : M PyData} {r : En} : mSortLen m r = M.bind m (fun d => M.lift (sortLenM d)) r := rfl
def tSortLen (K : PySem.W.Frag) (ta : TE) : TE := fun σ H Q => ta σ H fun x H1 => ∃ (l : Addr) (bs : List (V × PyData)), [x] = [V.ref l] ∧ SqL K H1 l (bs.map (·.1)) ∧ (∀ b ∈ bs, ∃ p zs, b.1 = .ref p ∧ (SqL K H1 p zs ∨ SqT K H1 p zs) ∧ zs.length = lenOf b.2) ∧
  ∀ p, H1 p = none → Q (.ref p) (upd H1 p (.lst ((bs.mergeSort fun a b => leLen a.2 b.2).map (·.1))))
section
variable {K : PySem.W.Frag} {E : XE} {X : Cx} {a : Expr} {ma : M PyData} {ta : TE} {p p1 p2 pos : Pos}
theorem vals_each : ∀ {bs : List (V × PyData)} {us : List Value}, Vals (bs.map (·.1)) us → PySem.W.EachIs (fun (v : Value) (b : V × PyData) => RelV b.1 v) us bs
  | [], _, .nil => .nil
  | _ :: _, _, .cons r t => .cons r (vals_each t)
theorem each_vals : ∀ {bs : List (V × PyData)} {us : List Value}, PySem.W.EachIs (fun (v : Value) (b : V × PyData) => RelV b.1 v) us bs → Vals (bs.map (·.1)) us
  | [], _, .nil => .nil
  | _ :: _, _, .cons r t => .cons r (each_vals t)
theorem pe_sortLen {k : Nat} (hr : Room k X.A) (hc : X.calm = true) (hg : Gl X "sorted") (hm : X.mg "sorted" = none) (hg2 : Gl X "len") (hm2 : X.mg "len" = none) (ha : PE X a ta)
    (na : starEach [a] X.env = (false, eval a X.env) :: starEach [] X.env := by rfl)
    (he : backTo pos (starEach [a] X.env) = (false, eval a X.env) :: backTo pos (starEach [] X.env) := by rfl) (hpl : (backTo pos (starEach [a] X.env)).any (·.1) = false := by rfl)
    (hall : (backToKw pos (keywordEach [⟨some "key", .Name "len" p1, p2⟩] X.env)).all (·.1.isSome) = true := by rfl) (hnone : (backToKw pos (keywordEach [⟨some "key", .Name "len" p1, p2⟩] X.env)).any (·.1.isNone) = false := by rfl)
    (hks : (backToKw pos (keywordEach [⟨some "key", .Name "len" p1, p2⟩] X.env)).filterMap (·.1) = [Str.ofString "key"] := by rfl) : PE X (.Call (.Name "sorted" p) [a] [⟨some "key", .Name "len" p1, p2⟩] pos) (tSortLen X.K ta) := by
  refine ⟨fun pins s σ H Q I h => ?_⟩
  refine wpAny_Call_Name_kw (ld_blt I hg hm PyProof.Rows.boot_sorted ?_)
  refine PyProof.Rows.callWith_kw (thn ((pa_cons ha pa_nil na).run pos pins s σ H (fun vs H1 => ∃ (l : Addr) (bs : List (V × PyData)), vs = [V.ref l] ∧ SqL X.K H1 l (bs.map (·.1)) ∧ (∀ b ∈ bs, ∃ p zs, b.1 = .ref p ∧ (SqL X.K H1 p zs ∨ SqT X.K H1 p zs) ∧ zs.length = lenOf b.2) ∧
    ∀ p, H1 p = none → Q (.ref p) (upd H1 p (.lst ((bs.mergeSort fun a b => leLen a.2 b.2).map (·.1))))) I ?_) fun us s1 ⟨vs, H1, I1, r1, q1⟩ => ?_) he hpl hall hnone
  · exact h
  · obtain ⟨l, bs, rfl, hs, hb, q⟩ := q1
    obtain rfl := Vals.ref1 r1
    show wpAny _ _ (evalAll ((do let v ← eval (.Name "len" p1) X.env; standAt pos; pure v) :: [])) _ _ s1
    refine wpAny_evalAll_cons (wpAny_bind (ld_blt I1 hg2 hm2 PySem.boot_len (wpAny_bind (wpAny_standAt (wpAny_pure ?_)))))
    refine wpAny_evalAll_nil ?_
    rw [hks]
    obtain ⟨its, rv, hl, hz⟩ := I1.list hs
    have ev := vals_each rv
    refine PySem.W.sorted_key_data (b := false) (vs := its) (bs := bs) (f := .builtin "len") (fun b => .int (lenOf b.2 : Int)) hl.isList ev (fun d hd d' hd' => ?_) (.inr fun d hd => ?_) (by rw [← List.length_map (f := (·.1)) (as := bs)]; exact hz) (fun b _ => ?_) (ksk_s1 _ _) (fun _ => ksk_l1 _ _) (fun _ => rfl) (fun v b hv hm h tk kp => ?_) fun out c h' tk kp fr hD hl2 eo => ?_
    · obtain ⟨b, _, rfl⟩ := List.mem_map.mp hd
      obtain ⟨b', _, rfl⟩ := List.mem_map.mp hd'
      rfl
    · obtain ⟨b, _, rfl⟩ := List.mem_map.mp hd
      exact ⟨fun z => (by cases z), fun xs z => (by cases z)⟩
    · have := hr.un
      rw [PyData.depth]
      omega
    · obtain ⟨p, zs, e, hq, hn⟩ := hb b hm
      rw [e] at hv
      obtain rfl : v = Value.ref p := hv
      rcases hq with hq | hq
      · obtain ⟨its2, rv2, hl3, hz2⟩ := I1.list hq
        have il : h.IsList p its2.toArray := by
          obtain ⟨o, ho, r⟩ := hl3.isList
          exact ⟨o, kp p o ho, r⟩
        have ln : its2.toArray.size = lenOf b.2 := by rw [List.size_toArray, ← rv2.length, hn]
        refine Calls.call_len_list (s := { s1 with heap := h, toks := tk }) il (by have := hz2; rw [rv2.length] at this; rw [List.size_toArray]; rw [sizeLine_eq] at this; omega) ⟨h, tk + 1 + 1, rfl, fun _ _ e => e, ?_⟩
        rw [ln]
        exact .int _ _
      · obtain ⟨its2, rv2, hl3, hz2⟩ := I1.tuple hq
        have il : IsTup h p its2.toArray := by
          obtain ⟨o, ho, r⟩ := hl3
          exact ⟨o, kp p o ho, r⟩
        have ln : its2.toArray.size = lenOf b.2 := by rw [List.size_toArray, ← rv2.length, hn]
        refine len_tuple (s := { s1 with heap := h, toks := tk }) il (by have := hz2; rw [rv2.length] at this; rw [List.size_toArray]; rw [sizeLine_eq] at this; omega) ⟨h, tk + 1 + 1, rfl, fun _ _ e => e, ?_⟩
        rw [ln]
        exact .int _ _
    · rw [PySem.W.dataLe_int (fun b : V × PyData => (lenOf b.2 : Int))] at eo
      have ve := each_vals eo
      have hlen : ((bs.mergeSort fun a b => leLen a.2 b.2).map (·.1)).length ≤ sizeLine := by
        rw [List.length_map, (List.mergeSort_perm _ _).length_eq, ← List.length_map (f := (·.1)) (as := bs)]
        exact hz
      have hp : H1 (s1.heap.objs.size + 1) = none := I1.hok.fresh (Nat.le_succ _)
      exact ⟨.ref _, upd H1 (s1.heap.objs.size + 1) (.lst ((bs.mergeSort fun a b => leLen a.2 b.2).map (·.1))), I1.laid (t' := tk) kp (Nat.le_succ _) ⟨hlen, out, c, ve, hD⟩, rfl, q _ hp⟩
theorem dq_pairs {G : Hp} : ∀ {xs : List V} {ds : List PyData}, DqAll K G xs ds → (∀ b ∈ xs.zip ds, Dq K G b.1 b.2) ∧ (xs.zip ds).map (·.1) = xs ∧ (xs.zip ds).map (·.2) = ds
  | _, _, .nil => ⟨fun b h => by simp at h, rfl, rfl⟩
  | _, _, .cons h t => by
    obtain ⟨h1, h2, h3⟩ := dq_pairs t
    refine ⟨fun b hb => ?_, by rw [List.zip_cons_cons, List.map_cons, h2], by rw [List.zip_cons_cons, List.map_cons, h3]⟩
    rw [List.zip_cons_cons] at hb
    rcases List.mem_cons.mp hb with e | hb
    · rw [e]; exact h
    · exact h1 b hb
theorem pairs_dq {G : Hp} : ∀ {bs : List (V × PyData)}, (∀ b ∈ bs, Dq K G b.1 b.2) → DqAll K G (bs.map (·.1)) (bs.map (·.2))
  | [], _ => .nil
  | b :: bs, h => .cons (h b List.mem_cons_self) (pairs_dq fun c hc => h c (List.mem_cons_of_mem _ hc))
theorem df_sortLen {k : Nat} (hr : Room k X.A) (hc : X.calm = true) (hg : Gl X "sorted") (hm : X.mg "sorted" = none) (hg2 : Gl X "len") (hm2 : X.mg "len" = none) (ha : DE K E X a ma)
    (na : starEach [a] X.env = (false, eval a X.env) :: starEach [] X.env := by rfl)
    (he : backTo pos (starEach [a] X.env) = (false, eval a X.env) :: backTo pos (starEach [] X.env) := by rfl) (hpl : (backTo pos (starEach [a] X.env)).any (·.1) = false := by rfl)
    (hall : (backToKw pos (keywordEach [⟨some "key", .Name "len" p1, p2⟩] X.env)).all (·.1.isSome) = true := by rfl) (hnone : (backToKw pos (keywordEach [⟨some "key", .Name "len" p1, p2⟩] X.env)).any (·.1.isNone) = false := by rfl)
    (hks : (backToKw pos (keywordEach [⟨some "key", .Name "len" p1, p2⟩] X.env)).filterMap (·.1) = [Str.ofString "key"] := by rfl) : DF K E X (.Call (.Name "sorted" p) [a] [⟨some "key", .Name "len" p1, p2⟩] pos) (mSortLen ma) := ⟨fun hK => by
  subst hK
  refine PE.imp (pe_sortLen hr hc hg hm hg2 hm2 (ha.pe rfl) na he hpl hall hnone hks) fun σ H Q ⟨F, O, G, r, out, P, em, f⟩ => ?_
  refine tM.run P f em fun d r1 x G1 H1 P1 g1 q1 e1 f1 => ?_
  obtain ⟨z, hz, rfl⟩ := lift_ok e1
  cases d with
  | list ds =>
    have hz : (if ds.all isLst = true then some (ds.mergeSort leLen) else none) = some z := hz
    by_cases hall : ds.all isLst = true
    · rw [if_pos hall] at hz
      cases hz
      cases q1 with
      | @lst l xs _ hs hd =>
        obtain ⟨h1, h2, h3⟩ := dq_pairs hd
        refine ⟨l, xs.zip ds, rfl, by rw [h2]; exact P1.sub.seq hs, fun b hb => ?_, fun p hp => ?_⟩
        · have m : b.2 ∈ ds := by rw [← h3]; exact List.mem_map.mpr ⟨b, hb, rfl⟩
          have il := List.all_eq_true.mp hall b.2 m
          have dq := h1 b hb
          obtain ⟨v, d⟩ := b
          dsimp only at il dq ⊢
          cases d with
          | list es =>
            cases dq with
            | lst hs2 hd2 => exact ⟨_, _, rfl, .inl (P1.sub.seq hs2), hd2.length⟩
          | tuple es =>
            cases dq with
            | tup hs2 hd2 => exact ⟨_, _, rfl, .inr (Lk.Same.tup P1.sub hs2), hd2.length⟩
          | _ => cases il
        · have ez : ds.mergeSort leLen = ((xs.zip ds).mergeSort fun a b => leLen a.2 b.2).map (·.2) := by
            rw [List.map_mergeSort (s := leLen) fun a _ b _ => rfl, h3]
          rw [ez] at f1
          exact f1.ok (Ps.of_same P1.sub (same_new hp)) P1 ⟨p, _, rfl, hp, P1.sub.free hp, P1.nf _ hp, fun i z => (P1.on i p z).2.2.1 hp, upd_same, pairs_dq fun b hb => h1 b ((List.mergeSort_perm _ _).mem_iff.mp hb)⟩
    · rw [if_neg hall] at hz
      cases hz
  | _ => cases hz⟩
end
end DL
namespace DL
open PySem PySem.Spec PyProof.Rows L2 Lk
section
variable {K : PySem.W.Frag} {E : XE} {X : Cx} {e : Expr} {ma : M PyData} {pos : Pos}
def popAt (ds : List PyData) (j : Int) : Option (PyData × List PyData) := if ds.length ≤ 1000000 then (ixN ds.length j).bind fun k => (ds[k]?).map fun z => (z, ds.eraseIdx k) else none
def mPopAt (i : Nat) (m : M PyData) : M PyData := fun r0 => if (ownOf r0[i]?).isSome then (m.bind fun d r => match ownOf r[i]?, asInt d with
  | some ds, some j => (popAt ds j).map fun z => .ok z.1 (upO i z.2 r)
  | _, _ => none) r0 else none
@[simp] theorem e_popAt {i : Nat} {r : En} : mPopAt i ma r = if (ownOf r[i]?).isSome then (ma.bind fun d r => match ownOf r[i]?, asInt d with
  | some ds, some j => (popAt ds j).map fun z => .ok z.1 (upO i z.2 r)
  | _, _ => none) r else none := rfl
end
end DL
namespace DL
open PySem PySem.Spec PyProof.Rows L2 Lk
def isBM : PyData → PyData → Option PyData
  | .bool a, .bool b => some (.bool (decide (a = b)))
  | _, _ => none
def isNotBM : PyData → PyData → Option PyData
  | .bool a, .bool b => some (.bool (!decide (a = b)))
  | _, _ => none
@[simp] theorem e_isB {a b : Bool} : isBM (.bool a) (.bool b) = some (.bool (decide (a = b))) := rfl
@[simp] theorem e_isNotB {a b : Bool} : isNotBM (.bool a) (.bool b) = some (.bool (!decide (a = b))) := rfl
section
variable {K : PySem.W.Frag} {X : Cx}
end
def catM : PyData → PyData → Option (List PyData)
  | .list xs, .list ys => if xs.length + ys.length ≤ 1000000 then some (xs ++ ys) else none
  | _, _ => none
def mCat (ma mb : M PyData) : M (List PyData) := ma.bind fun d => mb.bind fun e => M.lift (catM d e)
@[simp] theorem e_cat {ma mb : M PyData} {r : En} : mCat ma mb r = M.bind ma (fun d => mb.bind fun e => M.lift (catM d e)) r := rfl
section
variable {K : PySem.W.Frag} {E : XE} {X : Cx} {a b : Expr} {ma mb : M PyData} {pos : Pos}
end
end DL
namespace DL
open PySem PySem.Spec PyProof.Rows
theorem wp_forL {α β : Type} {M : Model} {A : Around} {E : Value → Shared → Prop} (f : α → β → Sem (ForInStep β)) (I : List α → β → Shared → Prop) (Q : β → Shared → Prop)
    (hs : ∀ (x : α) (xs : List α) (b : β) (s : Shared), I (x :: xs) b s → wpAny M A (f x b) (fun st s' => match st with
      | .yield b' => I xs b' s'
      | .done b' => Q b' s') E s) (hd : ∀ (b : β) (s : Shared), I [] b s → Q b s) : ∀ (l : List α) (b : β) (s : Shared), I l b s → wpAny M A (forIn l b f) Q E s
  | [], b, s, h => by
    rw [List.forIn_nil]
    exact wpAny_pure (hd b s h)
  | x :: xs, b, s, h => by
    rw [List.forIn_cons]
    refine wpAny_bind (wpAny_mono (hs x xs b s h) (fun st s' h' => ?_) fun _ _ z => z)
    cases st with
    | done b' => exact wpAny_pure h'
    | yield b' => exact wp_forL f I Q hs hd xs b' s' h'
abbrev ZipO (h : Heap) (z TI TO : Addr) (f0 f1 : Value) : Prop :=
  h.get? z = some { cls := .type "zip", dict := none, data := .fields #[f0, f1, .bool false, .ref TI, .ref TO], slots := #[] }
abbrev TupO (h : Heap) (T : Addr) (vs : List Value) : Prop := h.get? T = some { cls := .type "tuple", data := .seq vs.toArray }
section
variable {prog : Program} {w : World} {A : Around} {E : Value → Shared → Prop} {s : Shared}
theorem upd_tupO {T : Addr} {vs : List Value} {x : Value} {k : Nat} {Q : Unit → Shared → Prop} (hT : TupO s.heap T vs) (hz : vs.length ≤ 1000)
    (h : ∀ h', TupO h' T (vs.set k x) → Heap.SameBut T s.heap h' → Q () { s with heap := h' }) :
    wpAny (model prog w) A (updateSeq T (·.setIfInBounds k x)) Q E s := by
  refine wpAny_updateSeq hT rfl (h _ ?_ (Heap.SameBut.update ..)) (by rw [List.size_toArray, sizeLine_eq]; omega) (by rw [Array.size_setIfInBounds, List.size_toArray, sizeLine_eq]; omega)
  show (s.heap.update T _).get? T = _
  rw [Heap.get?_update_self _ hT rfl]
  simp [Obj.mapSeq]
/-- the iterators before the place k have been asked, the others not -/
structure ZTurn (h : Heap) (z TI TO : Addr) (its ls : List Addr) (i k : Nat) : Prop where
  len : its.length = ls.length
  gone : ∀ (j : Nat) (it l : Addr), j < k → its[j]? = some it → ls[j]? = some l → h.IsListIter it l (i + 1)
  here : ∀ (j : Nat) (it l : Addr), k ≤ j → its[j]? = some it → ls[j]? = some l → h.IsListIter it l i
structure ZApart (z TI TO : Addr) (its ls : List Addr) : Prop where
  nd : (z :: TI :: TO :: its).Nodup
  ne : ∀ l ∈ ls, l ≠ z ∧ l ≠ TI ∧ l ≠ TO ∧ l ∉ its
theorem alive_any {a : Addr} {Q : Option Obj → Shared → Prop} (h : ∀ o, Q o s) : wpAny (model prog w) A (loadIfAlive a) Q E s := by
  exact fun _ _ _ => h _
theorem z_isFree {z TI TO : Addr} {f0 f1 : Value} {Q : Bool → Shared → Prop} (hz : ZipO s.heap z TI TO f0 f1) (hf : f0 = .none ∨ ∃ T, f0 = rawInt T)
    (h : ∀ h' b f1', ZipO h' z TI TO f0 f1' → Heap.SameBut z s.heap h' → Q b { s with heap := h' }) : wpAny (model prog w) A (Builtin.SmallTypes.ownedTupleIsFree (.ref z)) Q E s := by
  unfold Builtin.SmallTypes.ownedTupleIsFree
  refine wpAny_bind (wpAny_field hz rfl (x := f0) rfl ?_)
  rcases hf with rfl | ⟨T, rfl⟩
  · exact wpAny_pure (h s.heap true f1 hz (Heap.SameBut.refl _ _))
  · show wpAny _ _ (loadIfAlive _ >>= _) _ _ _
    refine wpAny_bind (alive_any fun o => ?_)
    cases o with
    | none => exact wpAny_pure (h s.heap true f1 hz (Heap.SameBut.refl _ _))
    | some o =>
      simp only [Option.isNone_some, Bool.false_eq_true, if_false]
      refine wpAny_bind (wpAny_field hz rfl (x := f1) rfl ?_)
      by_cases hb : (f1 != .bool true) = true
      · rw [if_pos hb]
        refine wpAny_bind (wpAny_setField_rec hz (by simp) fun h' hz' hs' => ?_)
        exact wpAny_pure (h h' false (.bool true) hz' hs')
      · rw [if_neg hb]
        exact wpAny_bind (wpAny_pure (wpAny_pure (h s.heap false f1 hz (Heap.SameBut.refl _ _))))
theorem isL_at {h h' : Heap} {l : Addr} {xs : Array Value} (e : h.IsList l xs) (k : ∀ o, h.get? l = some o → h'.get? l = some o) : h'.IsList l xs := by
  obtain ⟨o, ho, r⟩ := e
  exact ⟨o, k o ho, r⟩
theorem ZTurn.step {h h' : Heap} {z TI TO : Addr} {its ls : List Addr} {i k : Nat} {it l : Addr} (t : ZTurn h z TI TO its ls i k) (nd : its.Nodup) (e1 : its[k]? = some it) (e2 : ls[k]? = some l) (hit : h'.IsListIter it l (i + 1)) (sb : Heap.SameBut it h h') : ZTurn h' z TI TO its ls i (k + 1) := by
  have ne : ∀ (j : Nat) (b : Addr), j ≠ k → its[j]? = some b → b ≠ it := fun j b hj e q => by
    subst q
    exact hj ((List.getElem?_inj (by exact (List.getElem?_eq_some_iff.mp e).1) nd).mp (e.trans e1.symm))
  refine ⟨t.len, fun j b c hj h1 h2 => ?_, fun j b c hj h1 h2 => ?_⟩
  · by_cases q : j = k
    · subst q
      rw [e1] at h1
      rw [e2] at h2
      cases h1; cases h2
      exact hit
    · exact (t.gone j b c (by omega) h1 h2).extBut sb.extBut (ne j b q h1)
  · exact (t.here j b c (by omega) h1 h2).extBut sb.extBut (ne j b (by omega) h1)
theorem ZTurn.but {h h' : Heap} {z TI TO a : Addr} {its ls : List Addr} {i k : Nat} (t : ZTurn h z TI TO its ls i k) (ha : a ∉ its) (sb : Heap.SameBut a h h') : ZTurn h' z TI TO its ls i k :=
  ⟨t.len, fun j b c hj h1 h2 => (t.gone j b c hj h1 h2).extBut sb.extBut fun q => ha (by rw [← q]; exact List.mem_of_getElem? h1), fun j b c hj h1 h2 => (t.here j b c hj h1 h2).extBut sb.extBut fun q => ha (by rw [← q]; exact List.mem_of_getElem? h1)⟩
theorem ZTurn.at {h h' : Heap} {z TI TO : Addr} {its ls : List Addr} {i k : Nat} (t : ZTurn h z TI TO its ls i k) (ha : ∀ b ∈ its, ∀ o, h.get? b = some o → h'.get? b = some o) : ZTurn h' z TI TO its ls i k :=
  ⟨t.len, fun j b c hj h1 h2 => (t.gone j b c hj h1 h2).at fun o e => ha b (List.mem_of_getElem? h1) o e, fun j b c hj h1 h2 => (t.here j b c hj h1 h2).at fun o e => ha b (List.mem_of_getElem? h1) o e⟩
theorem ZTurn.all {h : Heap} {z TI TO : Addr} {its ls : List Addr} {i : Nat} (t : ZTurn h z TI TO its ls i its.length) : ZTurn h z TI TO its ls (i + 1) 0 :=
  ⟨t.len, fun j b c hj => by omega, fun j b c _ h1 h2 => t.gone j b c (List.getElem?_eq_some_iff.mp h1).1 h1 h2⟩
theorem drop_idx {α : Type} {l : List α} {k : Nat} {x : α × Nat} {xs : List (α × Nat)} (h : x :: xs = l.zipIdx.drop k) : x.2 = k ∧ l[k]? = some x.1 ∧ xs = l.zipIdx.drop (k + 1) ∧ k < l.length := by
  have hk : k < l.length := by
    have := congrArg List.length h
    rw [List.length_drop, List.length_zipIdx, List.length_cons] at this
    omega
  rw [List.drop_eq_getElem_cons (by rw [List.length_zipIdx]; exact hk)] at h
  obtain ⟨rfl, rfl⟩ := List.cons.inj h
  refine ⟨by simp, ?_, rfl, hk⟩
  rw [List.getElem?_eq_getElem hk]
  simp
theorem drop_one {α : Type} {l : List α} {k : Nat} {x : α} {xs : List α} (h : x :: xs = l.drop k) : l[k]? = some x ∧ xs = l.drop (k + 1) ∧ k < l.length := by
  have hk : k < l.length := by
    have := congrArg List.length h
    rw [List.length_drop, List.length_cons] at this
    omega
  rw [List.drop_eq_getElem_cons hk] at h
  obtain ⟨rfl, rfl⟩ := List.cons.inj h
  exact ⟨List.getElem?_eq_getElem hk, rfl, hk⟩
theorem set_mid {row tv : List Value} {k : Nat} {x : Value} (hr : row[k]? = some x) (hl : tv.length = row.length) : (row.take k ++ tv.drop k).set k x = row.take (k + 1) ++ tv.drop (k + 1) := by
  have hk : k < row.length := (List.getElem?_eq_some_iff.mp hr).1
  have e := List.getElem?_eq_getElem hk
  rw [e] at hr
  cases hr
  refine List.ext_getElem? fun j => ?_
  by_cases hj : j = k
  · subst hj
    rw [List.getElem?_set_self (by simp; omega), List.getElem?_append_left (by simp; omega), List.getElem?_take_of_lt (by omega), e]
  · rw [List.getElem?_set_ne (Ne.symm hj)]
    by_cases h2 : j < k
    · rw [List.getElem?_append_left (by simp; omega), List.getElem?_append_left (by simp; omega), List.getElem?_take_of_lt h2, List.getElem?_take_of_lt (by omega)]
    · rw [List.getElem?_append_right (by simp; omega), List.getElem?_append_right (by simp; omega), List.getElem?_drop, List.getElem?_drop]
      simp only [List.length_take]
      congr 1
      omega
theorem zipN_item {z TI TO : Addr} {its ls : List Addr} {i : Nat} {f0 f1 : Value} {tv row : List Value} {Q : Value → Shared → Prop} (D : ZApart z TI TO its ls) (hz : ZipO s.heap z TI TO f0 f1) (hf : f0 = .none ∨ ∃ T, f0 = rawInt T)
    (hTI : TupO s.heap TI (its.map Value.ref)) (hTO : TupO s.heap TO tv) (htv : tv.length = its.length) (h0 : its ≠ []) (h6 : its.length ≤ 1000) (ht : ZTurn s.heap z TI TO its ls i 0) (hrow : row.length = its.length)
    (hl : ∀ (j : Nat) (l : Addr) (x : Value), ls[j]? = some l → row[j]? = some x → ∃ xs : Array Value, s.heap.IsList l xs ∧ xs[i]? = some x)
    (hQ : ∀ h' f0' f1' tv', ZipO h' z TI TO f0' f1' → (f0' = .none ∨ ∃ T, f0' = rawInt T) → TupO h' TO tv' → tv'.length = its.length → ZTurn h' z TI TO its ls (i + 1) 0 → TupO h' s.heap.objs.size row → h'.objs.size = s.heap.objs.size + 1 →
      (∀ c o, c ∉ z :: TO :: its → s.heap.get? c = some o → h'.get? c = some o) → Q (.ref s.heap.objs.size) { s with heap := h' }) :
    wpAny (model prog w) A (Builtin.«zip.__next__» ⟨[.ref z], []⟩) (fun fin s' => ∃ v, fin = .done (.ret v) ∧ Q v s') E s := by
  show wpAny _ _ (field (.ref z) 2 >>= _) _ _ _
  refine wpAny_bind (wpAny_field hz rfl (x := .bool false) rfl ?_)
  show wpAny _ _ (field (.ref z) 3 >>= _) _ _ _
  refine wpAny_bind (wpAny_field hz rfl (x := .ref TI) rfl ?_)
  refine wpAny_bind (wpAny_seqItems hTI rfl ?_)
  have he : (its.map Value.ref).toArray.isEmpty = false := by
    cases its with
    | nil => exact absurd rfl h0
    | cons _ _ => simp
  simp only [he, Bool.false_eq_true, if_false]
  show wpAny _ _ (Builtin.SmallTypes.ownedTupleIsFree (.ref z) >>= _) _ _ _
  refine wpAny_bind (z_isFree hz hf fun h₁ b f1' hz₁ sb₁ => ?_)
  cases b with
  | true =>
    simp only [if_true]
    refine wpAny_bind (wpAny_rule ?_)
    refine wpAny_bind (wpAny_field hz₁ rfl (x := .ref TO) rfl ?_)
    refine wpAny_bind (wpAny_setField_rec hz₁ (by simp) fun h₂ hz₂ sb₂ => ?_)
    replace hz₂ : ZipO h₂ z TI TO .ellipsis f1' := hz₂
    have zn : z ∉ TI :: TO :: its := (List.nodup_cons.mp D.nd).1
    have Tn : TI ∉ TO :: its := (List.nodup_cons.mp (List.nodup_cons.mp D.nd).2).1
    have On : TO ∉ its := (List.nodup_cons.mp (List.nodup_cons.mp (List.nodup_cons.mp D.nd).2).2).1
    have nd : its.Nodup := (List.nodup_cons.mp (List.nodup_cons.mp (List.nodup_cons.mp D.nd).2).2).2
    simp only [List.mem_cons, not_or] at zn Tn
    refine wpAny_bind (wp_forL _ (fun rest b s' => b = (none, ()) ∧ ∃ (k : Nat) (h' : Heap), rest = (its.map Value.ref).zipIdx.drop k ∧ k ≤ its.length ∧ s' = { s with heap := h' } ∧ h'.objs.size = s.heap.objs.size ∧ ZipO h' z TI TO .ellipsis f1' ∧ TupO h' TO (row.take k ++ tv.drop k) ∧
      ZTurn h' z TI TO its ls i k ∧ ∀ c o, c ∉ z :: TO :: its → s.heap.get? c = some o → h'.get? c = some o) _ ?_ ?_ _ _ _ ?_)
    · rintro x xs b s' ⟨rfl, k, h', hx, hk, rfl, hsz, hzz, htt, hT, hfr⟩
      obtain ⟨e1, e2, rfl, hlt⟩ := drop_idx hx
      rw [List.length_map] at hlt
      obtain ⟨v, m⟩ := x
      dsimp only at e1 e2
      subst e1
      have e3 : its[m]? = some its[m] := List.getElem?_eq_getElem hlt
      rw [List.getElem?_map, e3, Option.map_some] at e2
      cases e2
      have e4 : ls[m]? = some (ls[m]'(by have := hT.len; omega)) := List.getElem?_eq_getElem _
      have e5 : row[m]? = some (row[m]'(by omega)) := List.getElem?_eq_getElem _
      obtain ⟨ys, hy1, hy2⟩ := hl m _ _ e4 e5
      have ln := D.ne _ (List.mem_of_getElem? e4)
      have hy1 : h'.IsList _ ys := isL_at hy1 fun o e => hfr _ o (by simp only [List.mem_cons, not_or]; exact ⟨ln.1, ln.2.2.1, ln.2.2.2⟩) e
      have im : its[m] ∈ its := List.getElem_mem hlt
      refine wpAny_bind (wpAny_onRaise ?_)
      show wpAny _ _ (Builtin.SmallTypes.nextOf (.ref its[m]) >>= _) _ _ _
      refine wpAny_bind (wpAny_nextOf_list_item (hT.here m _ _ (Nat.le_refl _) e3 e4) hy1 hy2 fun h3 hit3 sb3 => wpAny_pure ?_)
      have itO : its[m] ≠ TO := fun q => On (by rw [← q]; exact im)
      have itz : its[m] ≠ z := fun q => zn.2.2 (by rw [← q]; exact im)
      have ht3 : TupO h3 TO (row.take m ++ tv.drop m) := sb3.extBut _ _ (Ne.symm itO) htt
      refine wpAny_bind (wpAny_seqItems ht3 rfl ?_)
      refine wpAny_bind (upd_tupO ht3 (by simp; omega) fun h4 ht4 sb4 => ?_)
      refine wpAny_bind (wpAny_letGo (wpAny_pure ⟨rfl, m + 1, h4, rfl, hlt, rfl, by rw [sb4.1, sb3.1]; exact hsz, ?_, ?_, ?_, fun c o hc e => ?_⟩))
      · exact sb4.extBut _ _ zn.2.1 (sb3.extBut _ _ (Ne.symm itz) hzz)
      · rw [set_mid e5 (by omega)] at ht4
        exact ht4
      · exact ((hT.step nd e3 e4 hit3 sb3).but On sb4)
      · simp only [List.mem_cons, not_or] at hc
        exact sb4.extBut _ _ hc.2.1 (sb3.extBut _ _ (fun q => hc.2.2 (by rw [q]; exact im)) (hfr c o (by simp only [List.mem_cons, not_or]; exact hc) e))
    · rintro b s' ⟨rfl, k, h', hx, hk, rfl, hsz, hzz, htt, hT, hfr⟩
      have hkn : k = its.length := by
        have := congrArg List.length hx
        rw [List.length_drop, List.length_zipIdx, List.length_map] at this
        simp at this
        omega
      subst hkn
      have htt : TupO h' TO row := by
        have e1 : row.take its.length = row := List.take_of_length_le (by omega)
        have e2 : tv.drop its.length = [] := List.drop_of_length_le (by omega)
        rw [e1, e2, List.append_nil] at htt
        exact htt
      dsimp only
      refine wpAny_bind (wpAny_seqItems htt rfl ?_)
      dsimp only
      refine wpAny_bind (wpAny_newTuple ?A1 ?B1)
      case B1 => rw [sizeLine_eq]; show row.length ≤ _; omega
      unfold Builtin.SmallTypes.ownedTupleHandOut
      have hzl : z < h'.objs.size := Heap.lt_size hzz
      have hz6 : ZipO (h'.push { cls := .type "tuple", data := .seq row.toArray }) z TI TO .ellipsis f1' := Heap.get?_push_of_some _ hzz
      refine wpAny_bind (wpAny_bind (wpAny_setField_rec hz6 (by simp) fun h7 hz7 sb7 => ?_))
      replace hz7 : ZipO h7 z TI TO (rawInt h'.objs.size) f1' := hz7
      refine wpAny_setField_rec hz7 (by simp) fun h8 hz8 sb8 => ?_
      replace hz8 : ZipO h8 z TI TO (rawInt h'.objs.size) (.bool false) := hz8
      have up : ∀ c o, c ≠ z → h'.get? c = some o → h8.get? c = some o := fun c o c1 e => sb8.extBut _ _ c1 (sb7.extBut _ _ c1 (Heap.get?_push_of_some _ e))
      have hT8 : TupO h8 h'.objs.size row := sb8.extBut _ _ (Nat.ne_of_gt hzl) (sb7.extBut _ _ (Nat.ne_of_gt hzl) (Heap.get?_push_size _ rfl))
      have sz8 : h8.objs.size = h'.objs.size + 1 := by rw [sb8.1, sb7.1, Heap.size_push]
      refine wpAny_pure ⟨_, rfl, ?_⟩
      show Q (.ref h'.objs.size) _
      rw [hsz] at hT8 sz8 ⊢
      refine hQ h8 _ _ row hz8 (.inr ⟨_, rfl⟩) (up _ _ (Ne.symm zn.2.1) htt) hrow (hT.all.at fun b hb o e => up b o (fun q => zn.2.2 (by rw [← q]; exact hb)) e) hT8 sz8 fun c o hc e => ?_
      simp only [List.mem_cons, not_or] at hc
      exact up c o hc.1 (hfr c o (by simp only [List.mem_cons, not_or]; exact hc) e)
    · refine ⟨rfl, 0, h₂, by simp, Nat.zero_le _, rfl, by rw [sb₂.1]; exact sb₁.1, hz₂, ?_, ?_, fun c o hc e => ?_⟩
      · rw [List.take_zero, List.drop_zero, List.nil_append]
        exact sb₂.extBut _ _ (Ne.symm zn.2.1) (sb₁.extBut _ _ (Ne.symm zn.2.1) hTO)
      · exact (ht.but zn.2.2 sb₁).but zn.2.2 sb₂
      · simp only [List.mem_cons, not_or] at hc
        exact sb₂.extBut _ _ hc.1 (sb₁.extBut _ _ hc.1 e)
  | false =>
    simp only [Bool.false_eq_true, if_false]
    have zn : z ∉ TI :: TO :: its := (List.nodup_cons.mp D.nd).1
    have Tn : TI ∉ TO :: its := (List.nodup_cons.mp (List.nodup_cons.mp D.nd).2).1
    have On : TO ∉ its := (List.nodup_cons.mp (List.nodup_cons.mp (List.nodup_cons.mp D.nd).2).2).1
    have nd : its.Nodup := (List.nodup_cons.mp (List.nodup_cons.mp (List.nodup_cons.mp D.nd).2).2).2
    simp only [List.mem_cons, not_or] at zn Tn
    rw [List.forIn_toArray]
    refine wpAny_bind (wp_forL _ (fun rest b s' => ∃ (k : Nat) (h' : Heap), b = (none, (row.take k).toArray) ∧ rest = (its.map Value.ref).drop k ∧ k ≤ its.length ∧ s' = { s with heap := h' } ∧ h'.objs.size = s.heap.objs.size ∧ ZipO h' z TI TO f0 f1' ∧ TupO h' TO tv ∧
      ZTurn h' z TI TO its ls i k ∧ ∀ c o, c ∉ z :: TO :: its → s.heap.get? c = some o → h'.get? c = some o) _ ?_ ?_ _ _ _ ?_)
    · rintro x xs b s' ⟨m, h', rfl, hx, hk, rfl, hsz, hzz, htt, hT, hfr⟩
      obtain ⟨e2, rfl, hlt⟩ := drop_one hx
      rw [List.length_map] at hlt
      have e3 : its[m]? = some its[m] := List.getElem?_eq_getElem hlt
      rw [List.getElem?_map, e3, Option.map_some] at e2
      cases e2
      have e4 : ls[m]? = some (ls[m]'(by have := hT.len; omega)) := List.getElem?_eq_getElem _
      have e5 : row[m]? = some (row[m]'(by omega)) := List.getElem?_eq_getElem _
      obtain ⟨ys, hy1, hy2⟩ := hl m _ _ e4 e5
      have ln := D.ne _ (List.mem_of_getElem? e4)
      have hy1 : h'.IsList _ ys := isL_at hy1 fun o e => hfr _ o (by simp only [List.mem_cons, not_or]; exact ⟨ln.1, ln.2.2.1, ln.2.2.2⟩) e
      have im : its[m] ∈ its := List.getElem_mem hlt
      refine wpAny_bind (wpAny_holding ?_)
      show wpAny _ _ (Builtin.SmallTypes.nextOf (.ref its[m]) >>= _) _ _ _
      refine wpAny_bind (wpAny_nextOf_list_item (hT.here m _ _ (Nat.le_refl _) e3 e4) hy1 hy2 fun h3 hit3 sb3 => wpAny_pure ?_)
      have itO : its[m] ≠ TO := fun q => On (by rw [← q]; exact im)
      have itz : its[m] ≠ z := fun q => zn.2.2 (by rw [← q]; exact im)
      refine wpAny_pure ⟨m + 1, h3, ?_, rfl, hlt, rfl, by rw [sb3.1]; exact hsz, ?_, ?_, ?_, fun c o hc e => ?_⟩
      · rw [List.take_succ, e5]
        simp
      · exact sb3.extBut _ _ (Ne.symm itz) hzz
      · exact sb3.extBut _ _ (Ne.symm itO) htt
      · exact hT.step nd e3 e4 hit3 sb3
      · simp only [List.mem_cons, not_or] at hc
        exact sb3.extBut _ _ (fun q => hc.2.2 (by rw [q]; exact im)) (hfr c o (by simp only [List.mem_cons, not_or]; exact hc) e)
    · rintro b s' ⟨k, h', rfl, hx, hk, rfl, hsz, hzz, htt, hT, hfr⟩
      have hkn : k = its.length := by
        have := congrArg List.length hx
        rw [List.length_drop, List.length_map] at this
        simp at this
        omega
      subst hkn
      have e1 : row.take its.length = row := List.take_of_length_le (by omega)
      rw [e1]
      dsimp only
      refine wpAny_bind (wpAny_newTuple ?A2 ?B2)
      case B2 => rw [sizeLine_eq]; show row.length ≤ _; omega
      refine wpAny_pure ⟨_, rfl, ?_⟩
      show Q (.ref h'.objs.size) _
      have hT8 : TupO (h'.push { cls := .type "tuple", data := .seq row.toArray.toList.toArray }) h'.objs.size row := Heap.get?_push_size _ rfl
      have sz8 : (h'.push { cls := .type "tuple", data := .seq row.toArray.toList.toArray }).objs.size = h'.objs.size + 1 := by rw [Heap.size_push]
      rw [hsz] at hT8 sz8 ⊢
      refine hQ _ _ _ tv (Heap.get?_push_of_some _ hzz) hf (Heap.get?_push_of_some _ htt) htv (hT.all.at fun b hb o e => Heap.get?_push_of_some _ e) hT8 sz8 fun c o hc e => ?_
      exact Heap.get?_push_of_some _ (hfr c o hc e)
    · refine ⟨0, h₁, by simp, by simp, Nat.zero_le _, rfl, sb₁.1, hz₁, ?_, ?_, fun c o hc e => ?_⟩
      · exact sb₁.extBut _ _ (Ne.symm zn.2.1) hTO
      · exact ht.but zn.2.2 sb₁
      · simp only [List.mem_cons, not_or] at hc
        exact sb₁.extBut _ _ hc.1 e
theorem zipN_end {z TI TO : Addr} {its ls : List Addr} {i : Nat} {f0 f1 : Value} {tv : List Value} {Q : PySem.Fin → Shared → Prop} (hh : A.handled = none) (D : ZApart z TI TO its ls) (hz : ZipO s.heap z TI TO f0 f1) (hf : f0 = .none ∨ ∃ T, f0 = rawInt T)
    (hTI : TupO s.heap TI (its.map Value.ref)) (hTO : TupO s.heap TO tv) (h0 : its ≠ []) (ht : ZTurn s.heap z TI TO its ls i 0)
    (hl : ∀ (l : Addr), ls[0]? = some l → ∃ xs : Array Value, s.heap.IsList l xs ∧ xs[i]? = none)
    (hE : ∀ h' e, (∀ c o, c ∉ z :: TO :: its → s.heap.get? c = some o → h'.get? c = some o) → (∃ o, h'.get? e = some o ∧ o.cls = .type "StopIteration") → E (.ref e) { s with heap := h' }) :
    wpAny (model prog w) A (Builtin.«zip.__next__» ⟨[.ref z], []⟩) Q E s := by
  show wpAny _ _ (field (.ref z) 2 >>= _) _ _ _
  refine wpAny_bind (wpAny_field hz rfl (x := .bool false) rfl ?_)
  show wpAny _ _ (field (.ref z) 3 >>= _) _ _ _
  refine wpAny_bind (wpAny_field hz rfl (x := .ref TI) rfl ?_)
  refine wpAny_bind (wpAny_seqItems hTI rfl ?_)
  have he : (its.map Value.ref).toArray.isEmpty = false := by
    cases its with
    | nil => exact absurd rfl h0
    | cons _ _ => simp
  simp only [he, Bool.false_eq_true, if_false]
  show wpAny _ _ (Builtin.SmallTypes.ownedTupleIsFree (.ref z) >>= _) _ _ _
  refine wpAny_bind (z_isFree hz hf fun h₁ b f1' hz₁ sb₁ => ?_)
  have zn : z ∉ TI :: TO :: its := (List.nodup_cons.mp D.nd).1
  simp only [List.mem_cons, not_or] at zn
  obtain ⟨it, its', rfl⟩ : ∃ it its', its = it :: its' := by
    cases its with
    | nil => exact absurd rfl h0
    | cons a l => exact ⟨a, l, rfl⟩
  obtain ⟨l, ls', rfl⟩ : ∃ l ls', ls = l :: ls' := by
    cases ls with
    | nil => have := ht.len; simp at this
    | cons a l => exact ⟨a, l, rfl⟩
  obtain ⟨xs, hx1, hx2⟩ := hl l rfl
  have ln := D.ne l List.mem_cons_self
  have itz : it ≠ z := fun q => zn.2.2 (by rw [← q]; exact List.mem_cons_self)
  have lit : l ≠ it := fun q => ln.2.2.2 (by rw [q]; exact List.mem_cons_self)
  have T1 := ht.but zn.2.2 sb₁
  cases b with
  | true =>
    simp only [if_true]
    refine wpAny_bind (wpAny_rule ?_)
    refine wpAny_bind (wpAny_field hz₁ rfl (x := .ref TO) rfl ?_)
    refine wpAny_bind (wpAny_setField_rec hz₁ (by simp) fun h₂ hz₂ sb₂ => ?_)
    replace hz₂ : ZipO h₂ z TI TO .ellipsis f1' := hz₂
    have T2 := T1.but zn.2.2 sb₂
    rw [List.map_cons, List.zipIdx_cons, List.forIn_cons]
    refine wpAny_bind (wpAny_bind (wpAny_bind (wpAny_onRaise ?_)))
    show wpAny _ _ (Builtin.SmallTypes.nextOf (.ref it) >>= _) _ _ _
    refine wpAny_bind (wpAny_nextOf_list_end hh (T2.here 0 it l (Nat.le_refl _) rfl rfl) ((hx1.extBut sb₁.extBut ln.1).extBut sb₂.extBut ln.1) hx2 fun h3 e sb3 he => ?_)
    obtain ⟨oe, hoe, hce⟩ := he
    have hz3 : ZipO h3 z TI TO .ellipsis f1' := sb3 _ _ (Ne.symm itz) hz₂
    have hez : e ≠ z := fun x => by subst x; rw [hz3] at hoe; cases hoe; simp at hce
    refine wpAny_setField_rec hz3 (by simp) fun h4 _ sb4 => hE h4 e (fun c o hc x => ?_) ⟨oe, sb4.extBut _ _ hez hoe, hce⟩
    simp only [List.mem_cons, not_or] at hc
    exact sb4.extBut _ _ hc.1 (sb3 _ _ hc.2.2.1 (sb₂.extBut _ _ hc.1 (sb₁.extBut _ _ hc.1 x)))
  | false =>
    simp only [Bool.false_eq_true, if_false]
    rw [List.forIn_toArray, List.map_cons, List.forIn_cons]
    refine wpAny_bind (wpAny_bind (wpAny_bind (wpAny_holding ?_)))
    show wpAny _ _ (Builtin.SmallTypes.nextOf (.ref it) >>= _) _ _ _
    refine wpAny_bind (wpAny_nextOf_list_end hh (T1.here 0 it l (Nat.le_refl _) rfl rfl) (hx1.extBut sb₁.extBut ln.1) hx2 fun h3 e sb3 he => ?_)
    refine hE h3 e (fun c o hc x => ?_) he
    simp only [List.mem_cons, not_or] at hc
    exact sb3 _ _ hc.2.2.1 (sb₁.extBut _ _ hc.1 x)
theorem next_zipN_item {z TI TO : Addr} {its ls : List Addr} {i : Nat} {f0 f1 : Value} {tv row : List Value} {Q : Option Value → Shared → Prop} (D : ZApart z TI TO its ls) (hz : ZipO s.heap z TI TO f0 f1) (hf : f0 = .none ∨ ∃ T, f0 = rawInt T)
    (hTI : TupO s.heap TI (its.map Value.ref)) (hTO : TupO s.heap TO tv) (htv : tv.length = its.length) (h0 : its ≠ []) (h6 : its.length ≤ 1000) (ht : ZTurn s.heap z TI TO its ls i 0) (hrow : row.length = its.length)
    (hl : ∀ (j : Nat) (l : Addr) (x : Value), ls[j]? = some l → row[j]? = some x → ∃ xs : Array Value, s.heap.IsList l xs ∧ xs[i]? = some x)
    (hQ : ∀ h' f0' f1' tv', ZipO h' z TI TO f0' f1' → (f0' = .none ∨ ∃ T, f0' = rawInt T) → TupO h' TO tv' → tv'.length = its.length → ZTurn h' z TI TO its ls (i + 1) 0 → TupO h' s.heap.objs.size row → h'.objs.size = s.heap.objs.size + 1 →
      (∀ c o, c ∉ z :: TO :: its → s.heap.get? c = some o → h'.get? c = some o) → Q (some (.ref s.heap.objs.size)) { s with heap := h' }) :
    wpAny (model prog w) A (pyNext (.ref z)) Q E s := by
  have hT : s.TypeIs (.ref z) "zip" := ⟨_, hz, rfl⟩
  unfold pyNext
  exact wpAny_bind (wpAny_attempt (wpAny_callSpecial?_slot (name := Str.ofString "__next__") hT F.slot_zip_next
    (wpAny_call_entry F.slot_zip_next hT F.entry_zip_next
      (zipN_item D hz hf hTI hTO htv h0 h6 ht hrow hl fun h' a b c d1 d2 d3 d4 d5 d6 d7 d8 => wpAny_pure (hQ h' a b c d1 d2 d3 d4 d5 d6 d7 d8)) (F.args_zip_next_1 _))))
theorem next_zipN_end {z TI TO : Addr} {its ls : List Addr} {i : Nat} {f0 f1 : Value} {tv : List Value} {Q : Option Value → Shared → Prop} (hh : A.handled = none) (D : ZApart z TI TO its ls) (hz : ZipO s.heap z TI TO f0 f1) (hf : f0 = .none ∨ ∃ T, f0 = rawInt T)
    (hTI : TupO s.heap TI (its.map Value.ref)) (hTO : TupO s.heap TO tv) (h0 : its ≠ []) (ht : ZTurn s.heap z TI TO its ls i 0)
    (hl : ∀ (l : Addr), ls[0]? = some l → ∃ xs : Array Value, s.heap.IsList l xs ∧ xs[i]? = none)
    (hQ : ∀ h', (∀ c o, c ∉ z :: TO :: its → s.heap.get? c = some o → h'.get? c = some o) → Q none { s with heap := h' }) :
    wpAny (model prog w) A (pyNext (.ref z)) Q E s := by
  have hT : s.TypeIs (.ref z) "zip" := ⟨_, hz, rfl⟩
  unfold pyNext
  refine wpAny_bind (wpAny_attempt (wpAny_callSpecial?_slot (name := Str.ofString "__next__") hT F.slot_zip_next
    (wpAny_call_entry F.slot_zip_next hT F.entry_zip_next (zipN_end hh D hz hf hTI hTO h0 ht hl fun h' e hk he => ?_) (F.args_zip_next_1 _))))
  obtain ⟨o, ho, hc⟩ := he
  refine wpAny_bind (wpAny_isInstance (T := "StopIteration") (b := true) ⟨o, ho, hc⟩ isSubtype_stop ?_)
  exact wpAny_pure (hQ _ hk)
theorem typeCall_zipN : ∀ (ls : List Addr), ls.length ≤ 6 → checkTypeCall "zip" ⟨ls.map Value.ref, []⟩ = pure ()
  | [], _ => by kernel_rfl
  | [_], _ => by kernel_rfl
  | [_, _], _ => by kernel_rfl
  | [_, _, _], _ => by kernel_rfl
  | [_, _, _, _], _ => by kernel_rfl
  | [_, _, _, _, _], _ => by kernel_rfl
  | [_, _, _, _, _, _], _ => by kernel_rfl
  | _ :: _ :: _ :: _ :: _ :: _ :: _ :: _, h => by simp at h
theorem newCall_zipN : ∀ (ls : List Addr), ls.length ≤ 6 → checkBuiltinCall "zip.__new__" ⟨.type "zip" :: ls.map Value.ref, []⟩ = pure ()
  | [], _ => by kernel_rfl
  | [_], _ => by kernel_rfl
  | [_, _], _ => by kernel_rfl
  | [_, _, _], _ => by kernel_rfl
  | [_, _, _, _], _ => by kernel_rfl
  | [_, _, _, _, _], _ => by kernel_rfl
  | [_, _, _, _, _, _], _ => by kernel_rfl
  | _ :: _ :: _ :: _ :: _ :: _ :: _ :: _, h => by simp at h
theorem args_objN : ∀ (obj : Value) (ls : List Addr), ls.length ≤ 6 → argsOk "object.__init__" ⟨obj :: ls.map Value.ref, []⟩ := by
  intro obj ls h
  unfold argsOk
  rw [signature?_of (id := "object.__init__") (n := ['_', '_', 't', 'i', 'n', 'i', '_', '_']) (o := ['t', 'c', 'e', 'j', 'b', 'o']) (by kernel_rfl) F.owner_object]
  match ls, h with
  | [], _ => kernel_rfl
  | [_], _ => kernel_rfl
  | [_, _], _ => kernel_rfl
  | [_, _, _], _ => kernel_rfl
  | [_, _, _, _], _ => kernel_rfl
  | [_, _, _, _, _], _ => kernel_rfl
  | [_, _, _, _, _, _], _ => kernel_rfl
  | _ :: _ :: _ :: _ :: _ :: _ :: _ :: _, h => simp at h
def zIts (n len : Nat) : List Nat := (List.range len).map fun j => n + j
structure ZMade (h h' : Heap) (ls : List Addr) : Prop where
  its : ∀ (j : Nat) (l : Addr), ls[j]? = some l → h'.IsListIter (h.objs.size + j) l 0
  ti : TupO h' (h.objs.size + ls.length) ((zIts h.objs.size ls.length).map Value.ref)
  to_ : TupO h' (h.objs.size + ls.length + 1) (((zIts h.objs.size ls.length).map Value.ref).map fun _ => Value.none)
  z : ZipO h' (h.objs.size + ls.length + 2) (h.objs.size + ls.length) (h.objs.size + ls.length + 1) .none (.bool false)
  sz : h'.objs.size = h.objs.size + ls.length + 3
  old : ∀ c o, h.get? c = some o → h'.get? c = some o
theorem meets_zipN_new (ls : List Addr) (hlen : ls.length ≤ 1000) : Meets (Builtin.«zip.__new__» ⟨.type "zip" :: ls.map Value.ref, []⟩) (fun _ R s => (∀ l ∈ ls, ∃ xs, s.heap.IsList l xs) ∧ ∀ h', ZMade s.heap h' ls → R (.ok (.ret (.ref (s.heap.objs.size + ls.length + 2)))) { s with heap := h' }) :=
  .of_wp fun prog w A R s h => by
    obtain ⟨hl, hR⟩ := h
    have hsub := sub_zip
    unfold Builtin.«zip.__new__» Builtin.SmallTypes.newClass
    dsimp only
    refine wpAny_bind (wpAny_bind ?_)
    show wpAny _ _ (pure true) _ _ _
    refine wpAny_pure ?_
    simp only [Bool.not_true, Bool.false_eq_true, if_false]
    rw [hsub]
    refine wpAny_bind (wpAny_pure ?_)
    simp only [Bool.not_true, Bool.false_eq_true, if_false]
    refine wpAny_pure ?_
    simp only [List.length_nil, gt_iff_lt, Nat.not_lt_zero, if_false]
    refine wpAny_bind ?_
    unfold Builtin.SmallTypes.iterAll
    refine wpAny_bind (wp_forL _ (fun rest b s' => ∃ (k : Nat) (h' : Heap), b = ((zIts s.heap.objs.size k).map Value.ref).toArray ∧ rest = (ls.map Value.ref).drop k ∧ k ≤ ls.length ∧ s' = { s with heap := h' } ∧ h'.objs.size = s.heap.objs.size + k ∧
      (∀ (j : Nat) (l : Addr), j < k → ls[j]? = some l → h'.IsListIter (s.heap.objs.size + j) l 0) ∧ ∀ c o, s.heap.get? c = some o → h'.get? c = some o) _ ?_ ?_ _ _ _ ?_)
    · rintro x xs b s' ⟨k, h', rfl, hx, hk, rfl, hsz, hit, hfr⟩
      obtain ⟨e2, rfl, hlt⟩ := drop_one hx
      rw [List.length_map] at hlt
      have e3 : ls[k]? = some ls[k] := List.getElem?_eq_getElem hlt
      rw [List.getElem?_map, e3, Option.map_some] at e2
      cases e2
      obtain ⟨ys, hy⟩ := hl _ (List.getElem_mem hlt)
      have hy : h'.IsList ls[k] ys := isL_at hy (hfr _)
      refine wpAny_bind (wpAny_holding (wpAny_pyIter_list (s := { s with heap := h' }) hy ?_))
      refine wpAny_pure ⟨k + 1, _, ?_, rfl, hlt, rfl, by rw [Heap.size_push]; show h'.objs.size + 1 = _; omega, fun j l hj hl => ?_, fun c o e => Heap.get?_push_of_some _ (hfr c o e)⟩
      · show _ = _
        unfold zIts
        rw [List.range_succ, List.map_append, List.map_append]
        show _ = _
        rw [hsz]
        simp
      · by_cases q : j = k
        · subst q
          rw [e3] at hl
          cases hl
          rw [← hsz]
          exact ⟨_, Heap.get?_push_size _ rfl, rfl, rfl⟩
        · exact (hit j l (by omega) hl).at fun o e => Heap.get?_push_of_some _ e
    · rintro b s' ⟨k, h', rfl, hx, hk, rfl, hsz, hit, hfr⟩
      have hkn : k = ls.length := by
        have := congrArg List.length hx
        rw [List.length_drop, List.length_map] at this
        simp at this
        omega
      subst hkn
      refine wpAny_pure ?_
      dsimp only
      have lz : (zIts s.heap.objs.size ls.length).length = ls.length := by unfold zIts; simp
      refine wpAny_bind (wpAny_newTuple ?A1 ?B1)
      case B1 =>
        rw [sizeLine_eq]
        simp
        omega
      refine wpAny_bind (wpAny_newTuple ?A2 ?B2)
      case B2 =>
        rw [sizeLine_eq]
        simp
        omega
      unfold Builtin.SmallTypes.newRecord
      dsimp only
      refine wpAny_bind (wpAny_newObj_type ?_ ?_)
      · refine wpAny_pure ⟨_, rfl, ?_⟩
        dsimp only
        have hTI : ∃ p1 : Heap, p1 = h'.push { cls := .type "tuple", data := .seq ((zIts s.heap.objs.size ls.length).map Value.ref).toArray } := ⟨_, rfl⟩
        obtain ⟨p1, hp1⟩ := hTI
        have s1 : p1.objs.size = s.heap.objs.size + ls.length + 1 := by rw [hp1, Heap.size_push, hsz]
        have g1 : TupO p1 (s.heap.objs.size + ls.length) ((zIts s.heap.objs.size ls.length).map Value.ref) := by
          rw [hp1, ← hsz]
          exact Heap.get?_push_size _ rfl
        have hTO : ∃ p2 : Heap, p2 = p1.push { cls := .type "tuple", data := .seq (((zIts s.heap.objs.size ls.length).map Value.ref).map fun _ => Value.none).toArray } := ⟨_, rfl⟩
        obtain ⟨p2, hp2⟩ := hTO
        have s2 : p2.objs.size = s.heap.objs.size + ls.length + 2 := by rw [hp2, Heap.size_push, s1]
        have g2 : TupO p2 (s.heap.objs.size + ls.length + 1) (((zIts s.heap.objs.size ls.length).map Value.ref).map fun _ => Value.none) := by
          rw [hp2, ← s1]
          exact Heap.get?_push_size _ rfl
        have up1 : ∀ c o, h'.get? c = some o → p1.get? c = some o := fun c o e => by rw [hp1]; exact Heap.get?_push_of_some _ e
        have up2 : ∀ c o, p1.get? c = some o → p2.get? c = some o := fun c o e => by rw [hp2]; exact Heap.get?_push_of_some _ e
        have hZ : ∃ p3 : Heap, p3 = p2.push { cls := .type "zip", dict := none, data := .fields #[.none, .bool false, .bool false, .ref h'.objs.size, .ref p1.objs.size] } := ⟨_, rfl⟩
        obtain ⟨p3, hp3⟩ := hZ
        have g3 : ZipO p3 (s.heap.objs.size + ls.length + 2) (s.heap.objs.size + ls.length) (s.heap.objs.size + ls.length + 1) .none (.bool false) := by
          rw [hp3, ← s2, ← s1, ← hsz]
          exact Heap.get?_push_size _ rfl
        have up3 : ∀ c o, p2.get? c = some o → p3.get? c = some o := fun c o e => by rw [hp3]; exact Heap.get?_push_of_some _ e
        have fin := hR p3 ⟨fun j l hl => (hit j l (List.getElem?_eq_some_iff.mp hl).1 hl).at fun o e => up3 _ _ (up2 _ _ (up1 _ _ e)), up3 _ _ (up2 _ _ g1), up3 _ _ g2, g3, by rw [hp3, Heap.size_push, s2], fun c o e => up3 _ _ (up2 _ _ (up1 _ _ (hfr c o e)))⟩
        rw [← s2, hp3, hp2, hp1] at fin
        exact fin
      · show 5 ≤ sizeLine + 2
        rw [sizeLine_eq]
        omega
    · exact ⟨0, s.heap, by simp [zIts], by simp, Nat.zero_le _, rfl, rfl, fun j l hj => by omega, fun c o e => e⟩
theorem zIts_at {n len j b : Nat} (h : (zIts n len)[j]? = some b) : b = n + j ∧ j < len := by
  unfold zIts at h
  rw [List.getElem?_map] at h
  by_cases hj : j < len
  · rw [List.getElem?_range hj] at h
    cases h
    exact ⟨rfl, hj⟩
  · rw [List.getElem?_eq_none (by simp; omega)] at h
    cases h
theorem mem_zIts {n len b : Nat} : b ∈ zIts n len ↔ n ≤ b ∧ b < n + len := by
  unfold zIts
  rw [List.mem_map]
  constructor
  · rintro ⟨j, hj, rfl⟩
    have := List.mem_range.mp hj
    omega
  · rintro ⟨h1, h2⟩
    exact ⟨b - n, List.mem_range.mpr (by omega), by omega⟩
theorem zIts_len {n len : Nat} : (zIts n len).length = len := by unfold zIts; simp
theorem zIts_nodup {n len : Nat} : (zIts n len).Nodup := by
  unfold zIts
  exact List.Pairwise.map _ (fun (a b : Nat) (h : a ≠ b) (q : n + a = n + b) => h (by omega)) List.nodup_range
theorem zApart_made {n : Nat} {ls : List Nat} (h : ∀ l ∈ ls, l < n) : ZApart (n + ls.length + 2) (n + ls.length) (n + ls.length + 1) (zIts n ls.length) ls := by
  have out : ∀ b : Nat, n + ls.length ≤ b → b ∉ zIts n ls.length := fun b hb q => by
    have := (mem_zIts.mp q).2
    omega
  have no : ∀ a b : Nat, a < b → a ≠ b := fun a b h => Nat.ne_of_lt h
  refine ⟨?_, fun l hl => ?_⟩
  · refine List.nodup_cons.mpr ⟨?_, List.nodup_cons.mpr ⟨?_, List.nodup_cons.mpr ⟨out _ (by omega), zIts_nodup⟩⟩⟩
    · simp only [List.mem_cons, not_or]
      exact ⟨Ne.symm (no _ _ (by omega)), Ne.symm (no _ _ (by omega)), out _ (by omega)⟩
    · simp only [List.mem_cons, not_or]
      exact ⟨no _ _ (by omega), out _ (by omega)⟩
  · have := h l hl
    exact ⟨no _ _ (by omega), no _ _ (by omega), no _ _ (by omega), fun q => by
      have := (mem_zIts.mp q).1
      omega⟩
theorem call_zipN {ls : List Addr} {Q : Value → Shared → Prop} (h6 : ls.length ≤ 6) (hl : ∀ l ∈ ls, ∃ xs, s.heap.IsList l xs) (h : ∀ h', ZMade s.heap h' ls → Q (.ref (s.heap.objs.size + ls.length + 2)) { s with heap := h' }) :
    wpAny (model prog w) A (call (.type "zip") (ls.map Value.ref)) Q E s := by
  refine callType_new F.called_zip (by decide) (typeCall_zipN ls h6) (newCall_zipN ls h6) (fun obj => args_objN obj ls h6) F.entry_zip_new (meets_zipN_new ls (by omega)) ⟨hl, fun h' m => ?_⟩
  exact ⟨⟨_, m.z, rfl⟩, h h' m⟩
theorem pyIter_zipN {z TI TO : Addr} {f0 f1 : Value} {Q : Value → Shared → Prop} (hz : ZipO s.heap z TI TO f0 f1) (h : Q (.ref z) s) : wpAny (model prog w) A (pyIter (.ref z)) Q E s := by
  have hT : s.TypeIs (.ref z) "zip" := ⟨_, hz, rfl⟩
  refine wpAny_pyIter_slot hT F.slot_zip_iter (wpAny_call_entry F.slot_zip_iter hT F.entry_zip_iter ?_ (F.args_zip_iter_1 _))
  show wpAny _ _ (ret (.ref z)) _ _ s
  exact wpAny_pure ⟨_, rfl, "zip", _, hT, F.slot_zip_next.lookup, h⟩
end
end DL
namespace DL
open PySem PySem.Spec PyProof.Rows L2
theorem build_list {α : Type} {P : Nat → α → Prop} : ∀ n, (∀ j, j < n → ∃ u, P j u) → ∃ us : List α, us.length = n ∧ ∀ (j : Nat) (u : α), us[j]? = some u → P j u
  | 0, _ => ⟨[], rfl, fun j u h => by simp at h⟩
  | n + 1, h => by
    obtain ⟨us, hl, hu⟩ := build_list n fun j hj => h j (by omega)
    obtain ⟨v, hv⟩ := h n (Nat.lt_succ_self n)
    refine ⟨us ++ [v], by simp [hl], fun j u e => ?_⟩
    by_cases hj : j < us.length
    · rw [List.getElem?_append_left hj] at e
      exact hu j u e
    · rw [List.getElem?_append_right (by omega)] at e
      by_cases hq : j = us.length
      · subst hq
        simp at e
        rw [← e, hl]
        exact hv
      · have : ([v] : List α)[j - us.length]? = none := List.getElem?_eq_none (by simp; omega)
        rw [this] at e
        cases e
theorem vals_get : ∀ {xs : List V} {us : List Value}, xs.length = us.length → (∀ (j : Nat) (x : V) (u : Value), xs[j]? = some x → us[j]? = some u → RelV x u) → Vals xs us
  | [], [], _, _ => .nil
  | [], _ :: _, h, _ => by simp at h
  | _ :: _, [], h, _ => by simp at h
  | x :: xs, u :: us, h, r => .cons (r 0 x u rfl rfl) (vals_get (by simpa using h) fun j y v h1 h2 => r (j + 1) y v h1 h2)
/-- the lists at as as they stand at each turn, the items in new tuples -/
def ItzN (K : PySem.W.Frag) (as : List Addr) : It :=
  ⟨fun i H => ∃ row : List V, row.length = as.length ∧ ∀ (j : Nat) (a : Addr) (x : V), as[j]? = some a → row[j]? = some x → ∃ xs, SqL K H a xs ∧ xs[i]? = some x,
    fun i H v H' => ∃ (T : Addr) (row : List V) (o : Obj), v = .ref T ∧ H T = none ∧ H' = upd H T (.frz o (.tup row)) ∧ o.cls = .type "tuple" ∧ o.dict = none ∧ row.length = as.length ∧ ∀ (j : Nat) (a : Addr) (xs : List V) (x : V), as[j]? = some a → SqL K H a xs → row[j]? = some x → xs[i]? = some x,
    fun i H => ∃ (a : Addr) (xs : List V), as[0]? = some a ∧ SqL K H a xs ∧ xs.length ≤ i⟩
theorem turn_zipN {P : Program} {w : World} {K : PySem.W.Frag} {y : Str} {tpos : Pos} {its as : List Addr} {z TI TO : Addr} (D : ZApart z TI TO its as) (h0 : its ≠ []) (h6 : its.length ≤ 1000) (hlen : its.length = as.length) :
    Turn P w K (.Name y tpos) (ItzN K as) (z :: TI :: TO :: its) z (fun i h => ∃ f0 f1 tv, ZipO h z TI TO f0 f1 ∧ (f0 = .none ∨ ∃ T, f0 = rawInt T) ∧ TupO h TI (its.map Value.ref) ∧ TupO h TO tv ∧ tv.length = its.length ∧ ZTurn h z TI TO its as i 0) where
  mem := List.mem_cons_self
  obj := fun i h st c hc => by
    obtain ⟨f0, f1, tv, hz, hf, hTI, hTO, htv, ht⟩ := st
    simp only [List.mem_cons] at hc
    rcases hc with q | q | q | q
    · rw [q]; exact ⟨_, hz, fun v q => nomatch q⟩
    · rw [q]; exact ⟨_, hTI, fun v q => nomatch q⟩
    · rw [q]; exact ⟨_, hTO, fun v q => nomatch q⟩
    · obtain ⟨j, hj, e⟩ := List.getElem_of_mem q
      obtain ⟨o, e1, _, d1⟩ := ht.here j c _ (Nat.zero_le _) (by rw [List.getElem?_eq_getElem hj, e]) (List.getElem?_eq_getElem (by omega))
      exact ⟨o, e1, fun v q => by rw [d1] at q; cases q⟩
  keep := fun i h h' st k => by
    obtain ⟨f0, f1, tv, hz, hf, hTI, hTO, htv, ht⟩ := st
    exact ⟨f0, f1, tv, k z (by simp) _ hz, hf, k TI (by simp) _ hTI, k TO (by simp) _ hTO, htv, ht.at fun b hb o e => k b (by simp [hb]) o e⟩
  item := by
    intro X hP hw hK hc i pins s σ H E I hf st hg
    subst hP hw hK
    obtain ⟨f0, f1, tv, hz, hf0, hTI, hTO, htv, ht⟩ := st
    obtain ⟨row, hrl, hrow⟩ := hg
    have hzl : z < s.heap.objs.size := Heap.lt_size hz
    obtain ⟨us, hul, hus⟩ := build_list (P := fun j u => ∀ (a : Addr) (x : V), as[j]? = some a → row[j]? = some x → RelV x u ∧ ∃ ys : Array Value, s.heap.IsList a ys ∧ ys[i]? = some u) as.length fun j hj => by
      have e1 : as[j]? = some as[j] := List.getElem?_eq_getElem hj
      have e2 : row[j]? = some (row[j]'(by omega)) := List.getElem?_eq_getElem _
      obtain ⟨xs, hq, hx⟩ := hrow j _ _ e1 e2
      obtain ⟨vs, rv, p, _⟩ := I.list hq
      obtain ⟨u, hu, ru⟩ := rv.get hx
      refine ⟨u, fun a x q1 q2 => ?_⟩
      rw [e1] at q1
      rw [e2] at q2
      cases q1; cases q2
      exact ⟨ru, vs.toArray, p.isList, by simpa using hu⟩
    have rv : Vals row us := vals_get (by omega) fun j x u h1 h2 => (hus j u h2 _ x (List.getElem?_eq_getElem (by have := (List.getElem?_eq_some_iff.mp h1).1; omega)) h1).1
    refine next_zipN_item D hz hf0 hTI hTO htv h0 h6 ht (row := us) (by omega) (fun j l x h1 h2 => ?_) fun h' f0' f1' tv' z' hf' TO' tvl t' hT hsz hk => ?_
    · have hj : j < row.length := by
        have := (List.getElem?_eq_some_iff.mp h1).1
        omega
      exact (hus j x h2 l _ h1 (List.getElem?_eq_getElem hj)).2
    · refine ⟨_, rfl, ?_⟩
      show wpAny _ _ (pure ()) _ _ _
      refine wpAny_pure ?_
      have lrow : row.length ≤ sizeLine := by rw [sizeLine_eq]; omega
      obtain ⟨ob, hob, ocl, odi⟩ : ∃ ob : Obj, h'.get? s.heap.objs.size = some ob ∧ ob.cls = .type "tuple" ∧ ob.dict = none := ⟨_, hT, rfl, rfl⟩
      have new : ObjOk X.prog X.w (upd H s.heap.objs.size (.frz ob (.tup row))) h' s.heap.objs.size (.frz ob (.tup row)) :=
        ⟨hob, lrow, us, rv, ⟨_, hT, rfl, _, rfl⟩⟩
      have I1 : Inv X pins σ (upd H s.heap.objs.size (.frz ob (.tup row))) { s with heap := h' } :=
        I.turnedNew (t' := s.toks) (ch := z :: TI :: TO :: its) (fun c o hb q => hk c o (fun q' => hb (by
          simp only [List.mem_cons] at q' ⊢
          rcases q' with q' | q' | q'
          · exact .inl q'
          · exact .inr (.inr (.inl q'))
          · exact .inr (.inr (.inr q')))) q) hf (Nat.le_refl _) new
      have zn : z ∉ TI :: TO :: its := (List.nodup_cons.mp D.nd).1
      have Tn : TI ∉ TO :: its := (List.nodup_cons.mp (List.nodup_cons.mp D.nd).2).1
      refine ⟨.ref s.heap.objs.size, _, I1, rfl, ⟨_, row, ob, rfl, I.hok.fresh (Nat.le_refl _), rfl, ocl, odi, hrl, fun j a xs x h1 h2 h3 => ?_⟩, ⟨f0', f1', tv', z', hf', ?_, TO', tvl, t'⟩, fun c hcm => ?_⟩
      · obtain ⟨ys, hq, hy⟩ := hrow j a x h1 h3
        rw [I.list_inj h2 hq]
        exact hy
      · refine hk TI _ ?_ hTI
        simp only [List.mem_cons, not_or] at zn Tn ⊢
        exact ⟨Ne.symm zn.1, Tn⟩
      · have hlt : c < s.heap.objs.size := by
          simp only [List.mem_cons] at hcm
          rcases hcm with q | q | q | q
          · rw [q]; exact hzl
          · rw [q]; exact Heap.lt_size hTI
          · rw [q]; exact Heap.lt_size hTO
          · obtain ⟨j, hj, e⟩ := List.getElem_of_mem q
            obtain ⟨o, e1, _⟩ := ht.here j c _ (Nat.zero_le _) (by rw [List.getElem?_eq_getElem hj, e]) (List.getElem?_eq_getElem (by omega))
            exact Heap.lt_size e1
        rw [upd_ne (Nat.ne_of_lt hlt)]
        exact (hf c hcm).1
  done := by
    intro X hP hw hK hc i pins s σ H E I hf st hg
    subst hP hw hK
    obtain ⟨f0, f1, tv, hz, hf0, hTI, hTO, htv, ht⟩ := st
    obtain ⟨a, xs, ha, hq, hend⟩ := hg
    obtain ⟨vs, rv, p, _⟩ := I.list hq
    have l1 := rv.length
    exact next_zipN_end (I.ok.hd hc) D hz hf0 hTI hTO h0 ht (fun l hl => by
      rw [ha] at hl
      cases hl
      exact ⟨vs.toArray, p.isList, by simp; omega⟩) fun h' hk => ⟨rfl, I.turnedL (t' := s.toks) (ch := z :: TI :: TO :: its) (fun c o hb q => hk c o (fun q' => hb (by
          simp only [List.mem_cons] at q' ⊢
          rcases q' with q' | q' | q'
          · exact .inl q'
          · exact .inr (.inr (.inl q'))
          · exact .inr (.inr (.inr q')))) q) hf⟩
  self := fun A i s Q E st h => by
    obtain ⟨f0, f1, tv, hz, _⟩ := st
    exact pyIter_zipN hz h
def iZipN (K : PySem.W.Frag) (te : TE) : TI := fun σ H R => te σ H fun x H1 => ∃ (l : Addr) (as : List Addr), x = V.ref l ∧ SqL K H1 l (as.map V.ref) ∧ 1 ≤ as.length ∧ as.length ≤ 6 ∧ (∀ a ∈ as, ∃ xs, SqL K H1 a xs) ∧ R (ItzN K as) H1
theorem refs_vals : ∀ {as : List Addr} {us : List Value}, Vals (as.map V.ref) us → us = as.map Value.ref
  | [], _, .nil => rfl
  | _ :: as, _, .cons r t => by
    cases r
    rw [refs_vals (as := as) t]
    rfl
theorem pi_zipN {X : Cx} {e : Expr} {te : TE} {p q pos tpos : Pos} {y : Str} (hg : Gl X "zip") (hm : X.mg "zip" = none) (he : PE X e te) (hs : starEach [.Starred e q] X.env = [(true, eval e X.env)] := by rfl) :
    PI X (.Name y tpos) (.Call (.Name "zip" p) [.Starred e q] [] pos) (iZipN X.K te) := by
  refine ⟨fun pins s σ H R I h => ?_⟩
  refine Call_ (ld_blt I hg hm PyProof.Rows.boot_zip ?_)
  rw [hs]
  refine PySem.W.ks_call (P := fun _ => True) rfl (fun h _ => ⟨.machine, .inr (.inl rfl), .now⟩) (PySem.W.ks_lone (thn (he.run pins s σ H _ I h) fun v s1 ⟨x, H1, I1, rx, l, as, ex, hq, h1, h6, hl, hR⟩ => ?_))
  subst ex
  obtain rfl : v = Value.ref l := rx
  refine StX.star_lst I1 hq fun us s2 I2 rv => ⟨trivial, ?_⟩
  obtain rfl := refs_vals rv
  rw [List.nil_append]
  have isl : ∀ a ∈ as, ∃ xs, s2.heap.IsList a xs := fun a ha => by
    obtain ⟨xs, hx⟩ := hl a ha
    obtain ⟨vs, _, pl, _⟩ := I2.list hx
    exact ⟨_, pl.isList⟩
  have lt : ∀ a ∈ as, a < s2.heap.objs.size := fun a ha => by
    obtain ⟨xs, o, ho, _⟩ := isl a ha
    exact Heap.lt_size ho
  refine call_zipN h6 isl fun h' m => pyIter_zipN m.z ?_
  have I3 : Inv X pins σ H1 { s2 with heap := h' } := I2.kept (t' := s2.toks) m.old
  have lz := zIts_len (n := s2.heap.objs.size) (len := as.length)
  have D := zApart_made lt
  refine ⟨s2.heap.objs.size + as.length + 2, _, _, ItzN X.K as, H1, rfl, I3, turn_zipN (y := y) (tpos := tpos) D (fun z => by
    have h := congrArg List.length z
    rw [lz] at h
    have h : as.length = 0 := h
    omega) (by rw [lz]; omega) lz, ⟨.none, .bool false, _, m.z, .inl rfl, m.ti, m.to_, by simp, lz, fun j it l hj => by omega, fun j it l _ h2 h3 => ?_⟩, fun b hb => ?_, hR⟩
  · obtain ⟨rfl, _⟩ := zIts_at h2
    exact m.its j l h3
  · have hle : s2.heap.objs.size ≤ b := by
      simp only [List.mem_cons] at hb
      rcases hb with e | e | e | e
      · rw [e]; exact Nat.le_trans (Nat.le_add_right _ as.length) (Nat.le_add_right _ 2)
      · rw [e]; exact Nat.le_add_right _ _
      · rw [e]; exact Nat.le_trans (Nat.le_add_right _ as.length) (Nat.le_add_right _ 1)
      · exact (mem_zIts.mp e).1
    exact I2.fpOk hle (I2.hok.fresh hle)
end DL
namespace DL
open PySem PySem.Spec PyProof.Rows L2 Lk
def asLists : List PyData → Option (List (List PyData))
  | [] => some []
  | .list r :: ds => (asLists ds).map fun L => r :: L
  | _ :: _ => none
theorem asLists_some : ∀ {ds : List PyData} {L : List (List PyData)}, asLists ds = some L → ds = L.map PyData.list
  | [], L, h => by cases h; rfl
  | d :: ds, L, h => by
    cases d with
    | list r =>
      rw [asLists] at h
      obtain ⟨L', h1, rfl⟩ := Option.map_eq_some_iff.mp h
      rw [asLists_some h1]
      rfl
    | _ => cases h
theorem asLists_map : ∀ (L : List (List PyData)), asLists (L.map PyData.list) = some L
  | [] => rfl
  | r :: L => by rw [List.map_cons, asLists, asLists_map L]; rfl
def zipRow (L : List (List PyData)) (k : Nat) : PyData := .tuple (L.map fun r => r.getD k .none)
def zipM : PyData → Option (List PyData)
  | .list ds => (asLists ds).bind fun L => if 1 ≤ L.length ∧ L.length ≤ 6 ∧ L.all (fun r => r.length == (L.headD []).length) = true then some ((List.range (L.headD []).length).map (zipRow L)) else none
  | _ => none
def mZip (m : M PyData) : M (List PyData) := m.bind fun d => M.lift (zipM d)
@[simp] theorem e_zip {m : M PyData} {r : En} : mZip m r = M.bind m (fun d => M.lift (zipM d)) r := rfl
section
variable {K : PySem.W.Frag} {E : XE} {X : Cx} {G : Hp}
theorem dq_lists : ∀ {L : List (List PyData)} {xs : List V}, DqAll K G xs (L.map PyData.list) → ∃ as : List Addr, xs = as.map V.ref ∧ as.length = L.length ∧ ∀ (j : Nat) (a : Addr) (r : List PyData), as[j]? = some a → L[j]? = some r → ∃ zs, SqL K G a zs ∧ DqAll K G zs r
  | [], xs, h => by
    cases h
    exact ⟨[], rfl, rfl, fun j a r h => by simp at h⟩
  | r :: L, xs, h => by
    cases h with
    | cons h t =>
      obtain ⟨as, rfl, hl, ha⟩ := dq_lists t
      cases h with
      | @lst a zs _ hs hz =>
        refine ⟨a :: as, rfl, by simp [hl], fun j b q h1 h2 => ?_⟩
        cases j with
        | zero =>
          cases h1; cases h2
          exact ⟨zs, hs, hz⟩
        | succ j => exact ha j b q h1 h2
theorem dqall_of : ∀ {xs : List V} {ds : List PyData}, xs.length = ds.length → (∀ (j : Nat) (x : V) (d : PyData), xs[j]? = some x → ds[j]? = some d → Dq K G x d) → DqAll K G xs ds
  | [], [], _, _ => .nil
  | [], _ :: _, h, _ => by simp at h
  | _ :: _, [], h, _ => by simp at h
  | x :: xs, d :: ds, h, r => .cons (r 0 x d rfl rfl) (dqall_of (by simpa using h) fun j y v h1 h2 => r (j + 1) y v h1 h2)
theorem gives_zip {as : List Addr} {L : List (List PyData)} {m : Nat} (hl : as.length = L.length) (h1 : 1 ≤ L.length) (hm : ∀ r ∈ L, r.length = m)
    (h : ∀ (j : Nat) (a : Addr) (r : List PyData), as[j]? = some a → L[j]? = some r → ∃ zs, SqL K G a zs ∧ DqAll K G zs r) : Gives K (ItzN K as) ((List.range m).map (zipRow L)) G := fun i H' G1 s1 s2 => by
  have at1 : ∀ j, j < as.length → ∃ a r zs, as[j]? = some a ∧ L[j]? = some r ∧ SqL K H' a zs ∧ SqL K G a zs ∧ DqAll K G zs r ∧ zs.length = m := fun j hj => by
    have e1 : as[j]? = some as[j] := List.getElem?_eq_getElem hj
    have e2 : L[j]? = some (L[j]'(by omega)) := List.getElem?_eq_getElem _
    obtain ⟨zs, hs, hz⟩ := h j _ _ e1 e2
    exact ⟨_, _, zs, e1, e2, s2.seq (s1.seq hs), hs, hz, by rw [hz.length]; exact hm _ (List.mem_of_getElem? e2)⟩
  refine ⟨fun d hd => ?_, fun hi => ?_⟩
  · have hi : i < m := by
      have := (List.getElem?_eq_some_iff.mp hd).1
      simpa using this
    rw [List.getElem?_map, List.getElem?_range hi] at hd
    cases hd
    refine ⟨?_, fun x H'' y => ?_⟩
    · obtain ⟨row, hrl, hrow⟩ := build_list (P := fun j (x : V) => ∀ a, as[j]? = some a → ∃ xs, SqL K H' a xs ∧ xs[i]? = some x) as.length fun j hj => by
        obtain ⟨a, r, zs, e1, e2, hq, _, _, hzl⟩ := at1 j hj
        refine ⟨zs[i]'(by omega), fun b q => ?_⟩
        rw [e1] at q
        cases q
        exact ⟨zs, hq, List.getElem?_eq_getElem _⟩
      exact ⟨row, hrl, fun j a x q1 q2 => hrow j x q2 a q1⟩
    · obtain ⟨T, row, ob, rfl, hT, rfl, _, _, hrl, hrow⟩ := y
      have dq : DqAll K G row (L.map fun r => r.getD i .none) := dqall_of (by simp; omega) fun j x d q1 q2 => by
        have hj : j < as.length := by
          have := (List.getElem?_eq_some_iff.mp q1).1
          omega
        obtain ⟨a, r, zs, e1, e2, hq, _, hz, hzl⟩ := at1 j hj
        have hx := hrow j a zs x e1 hq q1
        rw [List.getElem?_map, e2] at q2
        cases q2
        have lr : i < r.length := by rw [hm r (List.mem_of_getElem? e2)]; exact hi
        have e3 : r[i]? = some r[i] := List.getElem?_eq_getElem lr
        show Dq K G x (r.getD i .none)
        rw [List.getD_eq_getElem?_getD, e3]
        obtain ⟨v, h4, h5⟩ := hz.get e3
        rw [hx] at h4
        cases h4
        exact h5
      exact ⟨_, Ps.new s2 (same_new hT) hT upd_same, .tup (.inl (.inr ⟨ob, upd_same⟩)) ((dq.sm s1).sm (same_new (s2.free hT)))⟩
  · have hi : m ≤ i := by simpa using hi
    obtain ⟨a, r, zs, e1, e2, hq, _, _, hzl⟩ := at1 0 (by omega)
    exact ⟨a, zs, e1, hq, by omega⟩
theorem di_zip {e : Expr} {ma : M PyData} {p q pos tpos : Pos} {y : Str} (hg : Gl X "zip") (hm : X.mg "zip" = none) (ha : DE K E X e ma) (hs : starEach [.Starred e q] X.env = [(true, eval e X.env)] := by rfl) :
    DI K E X (.Name y tpos) (.Call (.Name "zip" p) [.Starred e q] [] pos) (mZip ma) := ⟨fun hK => by
  subst hK
  refine PI.imp (pi_zipN hg hm (ha.pe rfl) hs) fun σ H R ⟨F, O, G, r, out, P, em, f⟩ => ?_
  refine tM.run P f em fun d r1 x G1 H1 P1 g1 q1 e1 f1 => ?_
  obtain ⟨z, hz, rfl⟩ := lift_ok e1
  cases d with
  | list ds =>
    have hz : (asLists ds).bind (fun L => if 1 ≤ L.length ∧ L.length ≤ 6 ∧ L.all (fun r => r.length == (L.headD []).length) = true then some ((List.range (L.headD []).length).map (zipRow L)) else none) = some z := hz
    obtain ⟨L, hL, hz2⟩ := Option.bind_eq_some_iff.mp hz
    clear hz
    have e := asLists_some hL
    subst e
    by_cases hc : 1 ≤ L.length ∧ L.length ≤ 6 ∧ L.all (fun r => r.length == (L.headD []).length) = true
    · rw [if_pos hc] at hz2
      cases hz2
      obtain ⟨c1, c2, c3⟩ := hc
      generalize hD : PyData.list (L.map PyData.list) = D0 at q1
      cases q1 with
      | @lst l xs _ hs hx =>
        cases hD
        obtain ⟨as, rfl, hl, h⟩ := dq_lists hx
        refine ⟨l, as, rfl, P1.sub.seq hs, by omega, by omega, fun a ha => ?_, f1.ok (Ps.refl P1.sub) P1 (gives_zip hl c1 (fun r hr => by simpa using List.all_eq_true.mp c3 r hr) h)⟩
        obtain ⟨j, hj, e⟩ := List.getElem_of_mem ha
        obtain ⟨zs, hq, _⟩ := h j a _ (by rw [List.getElem?_eq_getElem hj, e]) (List.getElem?_eq_getElem (by omega))
        exact ⟨zs, P1.sub.seq hq⟩
      | _ => cases hD
    · rw [if_neg hc] at hz2
      cases hz2
  | _ => cases hz⟩
end
end DL
namespace DL
open PySem PySem.Spec PyProof.Rows L2 Lk
section
variable {X : Cx} {pins : List (Addr × Obj)} {σ : L2.St} {H : Hp} {s : Shared}
mutual
theorem dq_nested (I : Inv X pins σ H s) : ∀ {d : PyData} {k : NestedKey} {v : V} {u : Value}, Dq X.K H v d → keyN d = some k → RelV v u → NestedIs s.heap k u
  | .int i, k, v, u, h, hk, r => by
    rw [keyN] at hk
    cases hk
    cases h
    obtain ⟨t, rfl⟩ := r
    exact .int i t
  | .tuple ds, k, v, u, h, hk, r => by
    rw [keyN] at hk
    obtain ⟨ks, h1, rfl⟩ := Option.map_eq_some_iff.mp hk
    cases h with
    | tup hs ha =>
      cases r
      obtain ⟨its, rv, ⟨o, ho, hc, n, hd⟩, _⟩ := I.tuple hs
      exact .tup ho hc hd (by simpa using dq_nesteds I ha h1 rv)
  | .none, k, v, u, h, hk, r => by simp [keyN] at hk
  | .bool _, k, v, u, h, hk, r => by simp [keyN] at hk
  | .str _, k, v, u, h, hk, r => by simp [keyN] at hk
  | .list _, k, v, u, h, hk, r => by simp [keyN] at hk
  | .dict _, k, v, u, h, hk, r => by simp [keyN] at hk
theorem dq_nesteds (I : Inv X pins σ H s) : ∀ {ds : List PyData} {ks : List NestedKey} {vs : List V} {us : List Value}, DqAll X.K H vs ds → keyNs ds = some ks → Vals vs us → NestedAll s.heap ks us
  | [], ks, vs, us, h, hk, r => by
    rw [keyNs] at hk
    cases hk
    cases h
    cases r
    exact .nil
  | d :: ds, ks, vs, us, h, hk, r => by
    rw [keyNs] at hk
    obtain ⟨k, h1, h2⟩ := Option.bind_eq_some_iff.mp hk
    obtain ⟨ks', h3, rfl⟩ := Option.map_eq_some_iff.mp h2
    cases h with
    | cons ha hb =>
      cases r with
      | cons ra rb => exact .cons (dq_nested I ha h1 ra) (dq_nesteds I hb h3 rb)
end
theorem keyNs_get : ∀ {ds : List PyData} {ks : List NestedKey} {i : Nat} {k : NestedKey}, keyNs ds = some ks → ks[i]? = some k → ∃ d, ds[i]? = some d ∧ keyN d = some k
  | [], ks, i, k, h, e => by
    rw [keyNs] at h
    cases h
    simp at e
  | d :: ds, ks, i, k, h, e => by
    rw [keyNs] at h
    obtain ⟨k', h1, h2⟩ := Option.bind_eq_some_iff.mp h
    obtain ⟨ks', h3, rfl⟩ := Option.map_eq_some_iff.mp h2
    cases i with
    | zero => cases e; exact ⟨d, rfl, h1⟩
    | succ i =>
      obtain ⟨dd, e1, e2⟩ := keyNs_get (i := i) h3 (by simpa using e)
      exact ⟨dd, by simpa using e1, e2⟩
theorem keyNs_snoc : ∀ {ds : List PyData} {ks : List NestedKey} {d : PyData} {k : NestedKey}, keyNs ds = some ks → keyN d = some k → keyNs (ds ++ [d]) = some (ks ++ [k])
  | [], ks, d, k, h, hk => by
    rw [keyNs] at h
    cases h
    rw [List.nil_append, keyNs, hk, keyNs]
    rfl
  | c :: ds, ks, d, k, h, hk => by
    rw [keyNs] at h
    obtain ⟨k', h1, h2⟩ := Option.bind_eq_some_iff.mp h
    obtain ⟨ks', h3, rfl⟩ := Option.map_eq_some_iff.mp h2
    rw [List.cons_append, keyNs, h1, keyNs_snoc h3 hk]
    rfl
abbrev dkXs (nks : List NestedKey) (as : List Addr) : List (NestedKey × Addr × Value) := (nks.zip as).map fun x => (x.1, x.2, Value.bool true)
theorem mem_zip_at {α β : Type} {l : List α} {m : List β} {x : α × β} (h : x ∈ l.zip m) : ∃ i : Nat, l[i]? = some x.1 ∧ m[i]? = some x.2 := by
  obtain ⟨i, hi, e⟩ := List.getElem_of_mem h
  rw [List.length_zip] at hi
  refine ⟨i, ?_, ?_⟩
  · rw [List.getElem?_eq_getElem (by omega), ← e, List.getElem_zip]
  · rw [List.getElem?_eq_getElem (by omega), ← e, List.getElem_zip]
theorem dk_dict (I : Inv X pins σ H s) {d : Addr} {nks : List NestedKey} {as : List Addr} {ks : List PyData} (hd : H d = some (DkO d nks as)) (ha : DqAll X.K H (as.map V.ref) ks) (hk : keyNs ks = some nks) (dp : ∀ k ∈ nks, k.depth ≤ 8) :
    s.heap.DictOfH (nestedKind X.prog X.w) d (dkXs nks as) := by
  obtain ⟨⟨w, o, es, ep, ho, hx, hda, hes⟩, hl, hn, hz, _⟩ := dkO_get I hd
  refine ⟨o, es, ep, ho, hx, hda, ?_, fun x hx => ?_, ?_⟩
  · rw [hes, List.map_map]
    refine List.map_congr_left fun x hx => ?_
    obtain ⟨i, h1, h2⟩ := mem_zip_at hx
    obtain ⟨dd, _, hdd⟩ := keyNs_get hk h1
    show (⟨x.1.hash w, .ref x.2, .bool true⟩ : DictEntry) = ⟨x.1.hash X.w, .ref x.2, .bool true⟩
    rw [key_hash hdd w X.w]
  · obtain ⟨y, hy, rfl⟩ := List.mem_map.mp hx
    obtain ⟨i, h1, h2⟩ := mem_zip_at hy
    obtain ⟨dd, e1, hdd⟩ := keyNs_get hk h1
    obtain ⟨v, e2, hv⟩ := ha.get e1
    rw [List.getElem?_map, h2] at e2
    cases e2
    exact ⟨dq_nested I hv hdd rfl, dp _ (List.mem_of_getElem? h1)⟩
  · rw [List.map_map]
    have : (nks.zip as).map ((fun x : NestedKey × Addr × Value => x.1) ∘ fun x => (x.1, x.2, Value.bool true)) = nks := by
      show (nks.zip as).map Prod.fst = nks
      rw [List.map_fst_zip (by omega)]
    rw [this]
    exact hn
theorem val_keys {nks : List NestedKey} {as : List Addr} (hl : nks.length = as.length) (k : NestedKey) : (valueAt (pairsH (dkXs nks as)) k).isSome = decide (k ∈ nks) := by
  have e : (pairsH (dkXs nks as)).map Prod.fst = nks := by
    unfold pairsH dkXs
    rw [List.map_map, List.map_map]
    show (nks.zip as).map Prod.fst = nks
    rw [List.map_fst_zip (by omega)]
  generalize pairsH (dkXs nks as) = l at e
  subst e
  unfold valueAt
  rw [Option.isSome_map, Bool.eq_iff_iff, List.find?_isSome, decide_eq_true_iff]
  constructor
  · rintro ⟨x, hx, hk⟩
    exact List.mem_map.mpr ⟨x, hx, of_decide_eq_true hk⟩
  · intro h
    obtain ⟨x, hx, hk⟩ := List.mem_map.mp h
    exact ⟨x, hx, decide_eq_true hk⟩
def rInDk (K : PySem.W.Frag) (neg : Bool) : R2 := fun x y H Q => ∃ (d : Addr) (nks : List NestedKey) (as : List Addr) (ks ds : List PyData) (k : NestedKey) (a : Addr), y = V.ref d ∧ H d = some (DkO d nks as) ∧ DqAll K H (as.map V.ref) ks ∧ keyNs ks = some nks ∧ (∀ k ∈ nks, k.depth ≤ 8) ∧
  x = V.ref a ∧ Dq K H x (.tuple ds) ∧ keyN (.tuple ds) = some k ∧ k.depth ≤ 8 ∧ Q (.bl (if neg then !decide (k ∈ nks) else decide (k ∈ nks))) H
theorem op_notInDk (hu : X.A.units + 65 < cLine) : OpR X (compareOp .NotIn) (rInDk X.K true) := by
  intro pins s σ H x y v u Q I rx ry h
  obtain ⟨d, nks, as, ks, ds, k, a, rfl, hd, ha, hk, dp, rfl, hx, hkk, hdp, q⟩ := h
  cases rx
  cases ry
  obtain ⟨_, hl, _, _, hs⟩ := dkO_get I hd
  refine notIn_keyed (knd := nestedKind X.prog X.w) (show X.A.in1.units + 8 < cLine by simp only [Around.in1_units]; omega) ⟨dq_nested I hx hkk rfl, hdp⟩ hs ⟨_, dk_dict I hd ha hk dp, rfl⟩ ?_
  rw [val_keys hl]
  exact ⟨.bl _, H, I.tok _, rfl, q⟩
/-- what d[y] = True makes of the dict -/
def dkPut (D : Addr) (nks : List NestedKey) (as : List Addr) (k : NestedKey) (a : Addr) : HO := if k ∈ nks then DkO D nks as else DkO D (nks ++ [k]) (as ++ [a])
theorem dk_store {E : Value → Shared → Prop} {Q : Unit → Shared → Prop} (hu : X.A.units + 65 < cLine) (I : Inv X pins σ H s) {D a : Addr} {nks : List NestedKey} {as : List Addr} {ks ds : List PyData} {k : NestedKey} (hd : H D = some (DkO D nks as)) (ha : DqAll X.K H (as.map V.ref) ks) (hk : keyNs ks = some nks) (dp : ∀ k ∈ nks, k.depth ≤ 8)
    (hx : Dq X.K H (V.ref a) (.tuple ds)) (hkk : keyN (.tuple ds) = some k) (hdp : k.depth ≤ 8) (hz : nks.length < 1000000) (h : ∀ s', Inv X pins σ (upd H D (dkPut D nks as k a)) s' → Q () s') : wpAny (model X.prog X.w) X.A (dictSet D (.ref a) (.bool true)) Q E s := by
  obtain ⟨_, hl, hn, _, hs⟩ := dkO_get I hd
  have dd := dk_dict I hd ha hk dp
  have lx : (dkXs nks as).length = nks.length := by unfold dkXs; simp; omega
  refine wpAny_dictSet_heap (knd := nestedKind X.prog X.w) (hsz := by rw [lx, sizeLine_eq]; omega) (show X.A.units + 8 < cLine by omega) ⟨dq_nested I hx hkk rfl, hdp⟩ dd fun h' hm' hs' => h _ ?_
  obtain ⟨o, es, ep, ho, hex, hda, hes, his, hnd⟩ := hm'
  have fin : ∀ nks' as', nks'.length = as'.length → nks'.Nodup → nks'.length ≤ 1000000 → storedH (dkXs nks as) k a (.bool true) = dkXs nks' as' → Inv X pins σ (upd H D (DkO D nks' as')) { s with heap := h', toks := s.toks + k.draws } := fun nks' as' l1 l2 l3 e => by
    refine d_write I (by rw [hd]; exact True.intro) hs' ⟨o, ho⟩ (dkO_new ⟨X.w, o, es, ep, ho, hex, hda, ?_⟩ l1 l2 l3 hs)
    rw [hes, e, List.map_map]
    rfl
  unfold dkPut
  have at1 : (atKey (dkXs nks as) k).isSome = decide (k ∈ nks) := by
    have := val_keys hl k
    rw [valueAt_pairsH, Option.isSome_map] at this
    exact this
  by_cases hm : k ∈ nks
  · rw [if_pos hm]
    refine fin nks as hl hn (by omega) ?_
    unfold storedH
    rw [at1, decide_eq_true hm, if_pos rfl]
    have : (dkXs nks as).map (putAt k (Value.bool true)) = (dkXs nks as).map id := List.map_congr_left fun x hx => by
      obtain ⟨y, _, rfl⟩ := List.mem_map.mp hx
      unfold putAt
      split <;> rfl
    rw [this, List.map_id]
  · rw [if_neg hm]
    refine fin (nks ++ [k]) (as ++ [a]) (by simp [hl]) ?_ (by simp; omega) ?_
    · rw [List.nodup_append]
      exact ⟨hn, List.nodup_cons.mpr ⟨by simp, List.nodup_nil⟩, fun x hx y hy => by
        rw [List.mem_singleton.mp hy]
        rintro rfl
        exact hm hx⟩
    · unfold storedH
      rw [at1, decide_eq_false hm, if_neg (by simp)]
      unfold dkXs
      rw [List.zip_append hl, List.map_append]
      rfl
end
end DL
namespace DL
open PySem PySem.Spec PyProof.Rows L2 Lk
/-- a key goes into the dict at D -/
def DkPut (K : PySem.W.Frag) (D : Addr) (y : V) (H : Hp) (N : Hp → Prop) : Prop := ∃ (nks : List NestedKey) (as : List Addr) (ks ds : List PyData) (k : NestedKey) (a : Addr), H D = some (DkO D nks as) ∧ DqAll K H (as.map V.ref) ks ∧ keyNs ks = some nks ∧ (∀ k ∈ nks, k.depth ≤ 8) ∧
  y = V.ref a ∧ Dq K H y (.tuple ds) ∧ keyN (.tuple ds) = some k ∧ k.depth ≤ 8 ∧ nks.length < 1000000 ∧ N (upd H D (dkPut D nks as k a))
/-- what the turns of the comprehension ask: N the next state's -/
def DkTurn (K : PySem.W.Frag) (D : Addr) (g : TG) (tt : TT) (tk : TE) (vs : List Nat) (σ : L2.St) (x : V) (H : Hp) (N : Hp → Prop) : Prop :=
  g x (L2.wipe σ vs) H fun σ2 H2 => L2.wipe σ2 vs = L2.wipe σ vs ∧ tt σ2 H2 fun b H3 => if b = true then tk σ2 H3 fun y H4 => DkPut K D y H4 N else N H3
def DkWalk (K : PySem.W.Frag) (J : It) (D : Addr) (g : TG) (tt : TT) (tk : TE) (vs : List Nat) (σ : L2.St) (H : Hp) (Qd : Hp → Prop) : Prop :=
  ∃ W : Nat → Nat → Hp → Prop, (∃ m, W 0 m (upd H D (DkO D [] []))) ∧ ∀ i m H, W i m H → (J.stop i H ∧ Qd H) ∨ (J.go i H ∧ ∃ N : Hp → Prop, (∀ H', N H' → ∃ m', m' < m ∧ W (i + 1) m' H') ∧ ∀ x H', J.yld i H x H' → DkTurn K D g tt tk vs σ x H' N)
def tDkc (K : PySem.W.Frag) (wi : TI) (g : TG) (tt : TT) (tk : TE) (vs : List Nat) : TE := fun σ H Q => wi σ H fun J H1 => ∀ D, H1 D = none → DkWalk K J D g tt tk vs σ H1 (Q (.ref D))
theorem dk_empty0 {P : Program} {w : World} {H : Hp} (h : Heap) (hb : sysModules < h.objs.size) : ObjOk P w H (h.push { cls := .type "dict", data := .dict #[] }) h.objs.size (DkO h.objs.size [] []) :=
  dkO_new ⟨w, _, #[], 0, Heap.get?_push_size _ rfl, ⟨rfl, rfl, rfl⟩, rfl, rfl⟩ rfl List.nodup_nil (Nat.zero_le _) (beq_eq_false_iff_ne.mpr (Ne.symm (Nat.ne_of_lt hb)))
section
variable {X : Cx}
theorem pe_dkc {kx tg iter : Expr} {jv : Nat} {pv1 : Pos} {ifs : List Expr} {scope : Scope} {own : List (Str × Nat)} {pos : Pos} {wi : TI} {g : TG} {tt : TT} {tk : TE} (hu : X.A.units + 65 < cLine) (hc : X.calm = true) (hN : X.N.Nodup) (hi : PI X tg iter wi) (ok : BlkOk X.N X.env.scope scope own)
    (hg : ∀ (s : Shared) (H : Hp) (C : Addr) (cl : List (Str × Addr)) (fp : List Addr), PG (X.blk s H scope (compEnvC scope cl C X.env) fp) tg g) (ht : ∀ (s : Shared) (H : Hp) (C : Addr) (cl : List (Str × Addr)) (fp : List Addr), PTs (X.blk s H scope (compEnvC scope cl C X.env) fp) ifs tt)
    (hk : ∀ (s : Shared) (H : Hp) (C : Addr) (cl : List (Str × Addr)) (fp : List Addr), PE (X.blk s H scope (compEnvC scope cl C X.env) fp) kx tk) (hs : ∀ x, foldedSetIterable iter X.env x = pure x := by intro _; rfl) :
    PE X (.DictComp kx (.Constant (.bool true) jv pv1) [⟨tg, iter, ifs, 0⟩] scope pos) (tDkc X.K wi g tt tk (own.map (·.2))) := by
  refine ⟨fun pins s σ H Q I h => ?_⟩
  rw [arm_eval_DictComp]
  have free : ∀ y ∈ scope.names, y.2 = .free → ∃ c, X.env.cells.lookup y.1 = some c := fun y hy e => (ok.free y hy e).elim (fun q => I.ok.has _ (.inl q)) fun q => I.ok.has _ (.inr q)
  refine wpAny_comprehension_free (use := none) rfl hs (closure_ok free) ok.kind (fun y hy e => by rw [ok.uniq y hy, e]) (thn (hi.run pins s σ H _ I h) fun _ s1 h1 => thn h1 fun _ s2 ⟨it, fp, tn, J, H2, e2, I2, T, st2, f2, q2⟩ => ?_)
  subst e2
  refine wpAny_newObj_type (newEnv_comp ?_)
  -- the new dict
  obtain ⟨D, hD⟩ : ∃ D, D = s2.heap.objs.size := ⟨_, rfl⟩
  have hDn : H2 D = none := I2.hok.fresh (Nat.le_of_eq hD.symm)
  obtain ⟨W, ⟨m0, w0⟩, turn⟩ := q2 D hDn
  obtain ⟨s3, hs3⟩ : ∃ s3 : Shared, s3 = { s2 with heap := s2.heap.push { cls := .type "dict", data := .dict #[] } } := ⟨_, rfl⟩
  have hp3 : s3.heap = s2.heap.push { cls := .type "dict", data := .dict #[] } := by rw [hs3]
  have I3 : Inv X pins σ (upd H2 D (DkO D [] [])) s3 := by
    rw [hs3, hD]
    exact I2.laid (t' := s2.toks) (fun b o e => Heap.get?_push_of_some _ e) (Nat.le_refl _) (dk_empty0 s2.heap I2.big)
  have small : ∀ b ∈ fp, b < s2.heap.objs.size := fun b hb => (T.obj _ _ st2 b hb).elim fun o q => Heap.lt_size q.1
  have f3 : ∀ b ∈ fp, FpOk X pins (upd H2 D (DkO D [] [])) b ∧ b < s3.heap.objs.size := fun b hb => by
    have lt := small b hb
    refine ⟨⟨by rw [upd_ne (by rw [hD]; exact Nat.ne_of_lt lt)]; exact (f2 b hb).1, (f2 b hb).2⟩, ?_⟩
    rw [hp3, Heap.size_push]
    exact Nat.lt_succ_of_lt lt
  have st3 : tn 0 s3.heap := T.keep _ _ _ st2 fun b _ o e => by rw [hp3]; exact Heap.get?_push_of_some _ e
  have I4 := block_start I3 ok hN f3
  have pg := hg s3 (upd H2 D (DkO D [] [])) s3.heap.objs.size (cellsFrom (s3.heap.objs.size + 1) scope.names (cloFrom X.env.cells scope.names [])) fp
  have pt := ht s3 (upd H2 D (DkO D [] [])) s3.heap.objs.size (cellsFrom (s3.heap.objs.size + 1) scope.names (cloFrom X.env.cells scope.names [])) fp
  have pk := hk s3 (upd H2 D (DkO D [] [])) s3.heap.objs.size (cellsFrom (s3.heap.objs.size + 1) scope.names (cloFrom X.env.cells scope.names [])) fp
  rw [← hD, ← hs3]
  have nfp : ∀ b ∈ fp, (upd H2 D (DkO D [] [])) b = none := fun b hb => (f3 b hb).1.1
  obtain ⟨ce, hce⟩ : ∃ ce, ce = compEnvC scope (cellsFrom (s3.heap.objs.size + 1) scope.names (cloFrom X.env.cells scope.names [])) s3.heap.objs.size X.env := ⟨_, rfl⟩
  rw [← hce] at I4 pg pt pk
  have cL : ce.locals = s3.heap.objs.size := by rw [hce]; rfl
  obtain ⟨H3, hH3⟩ : ∃ H3, H3 = upd H2 D (DkO D [] []) := ⟨_, rfl⟩
  rw [← hH3] at I3 I4 pg pt pk w0 nfp f3
  obtain ⟨s4, hs4⟩ : ∃ s4 : Shared, s4 = { s3 with heap := pushCells (s3.heap.push { cls := .type "dict", data := .dict #[] }) scope.names } := ⟨_, rfl⟩
  rw [← hs4] at I4
  show codeAny _ _ (.compStart (.DictComp kx (.Constant (.bool true) jv pv1) [⟨tg, iter, ifs, 0⟩] scope pos) 0 (.ref it) (.ref D) (compEnvC scope (cellsFrom (s3.heap.objs.size + 1) scope.names (cloFrom X.env.cells scope.names [])) s3.heap.objs.size X.env)) (compPost (model X.prog X.w) X.A X.xe none (EP X pins σ Q) (.ref D) s3.heap.objs.size) { s3 with heap := pushCells (s3.heap.push { cls := .type "dict", data := .dict #[] }) scope.names }
  rw [← hce, ← hs4]
  have st4 : tn 0 s4.heap := T.keep _ _ _ st3 fun b _ o e => by rw [hs4]; exact pushCells_keeps _ _ _ _ (Heap.get?_push_of_some _ e)
  have foot : ∀ {σ' : L2.St} {H' : Hp} {s' : Shared}, Inv (X.blk s3 H3 scope ce fp) [] σ' H' s' → (∀ b ∈ fp, H' b = none) → ∀ b ∈ fp, FpOk (X.blk s3 H3 scope ce fp) [] H' b := fun {σ' H' s'} I' hn b hb =>
    ⟨hn b hb, (I'.ok.exf b hb).1, I'.ok.exfs b hb, .inl hb, fun x c e => (I'.ok.exf b hb).2 x c e, fun p hp => absurd (show p ∈ ([] : List (Addr × Obj)) ++ [] from hp) (by simp)⟩
  have loop : codeAny (model X.prog X.w) X.A (.compLoop (.DictComp kx (.Constant (.bool true) jv pv1) [⟨tg, iter, ifs, 0⟩] scope pos) 0 (.ref it) (.ref D) ce) (compPost (model X.prog X.w) X.A X.xe none (EP X pins σ Q) (.ref D) s3.heap.objs.size) s4 := by
    refine compLoop_anyD (fun n s' => ∃ i H', Inv (X.blk s3 H3 scope ce fp) [] (L2.wipe σ (own.map (·.2))) H' s' ∧ tn i s'.heap ∧ (∀ b ∈ fp, H' b = none) ∧ W i n H') ?_ m0 ⟨0, H3, I4, st4, nfp, w0⟩
    rintro n s5 ⟨i, H5, I5, st5, n5, w5⟩
    rcases turn i n H5 w5 with ⟨stop, qq⟩ | ⟨go, N, hNx, step⟩
    · refine thnF (T.done (X.blk s3 H3 scope ce fp) rfl rfl rfl hc i [] s5 _ H5 (fun _ _ => False) I5 (foot I5 n5) st5 stop) fun r s6 ⟨hr, I6⟩ => ?_
      subst hr
      have I7 : Inv X pins σ H5 s6 := I3.call' (ch := fp) I6.os I6.base I6.hok I6.bare fun b hb => ⟨(f3 b hb).1.2.2.2.1, (f3 b hb).1.2.1, (f3 b hb).1.2.2.2.2.1, (f3 b hb).1.2.2.2.2.2⟩
      have nC : H5 s3.heap.objs.size = none := by
        have z : H5 ce.locals = none := I6.free
        rwa [cL] at z
      obtain ⟨m, hn, _⟩ := I6.loc
      have hn : s6.heap.Ns ce.locals m := hn
      rw [cL] at hn
      obtain ⟨g0, g1, g2, g3, g4, g5⟩ := I3.fpOk (Nat.le_refl _) nC
      exact ⟨m, hn, fun h'' sb => ⟨.ref D, H5, I7.turned (t' := s6.toks) (fun b o hb e => (sb.2 b hb).trans e) g0 g1 g3 g4 g5, rfl, qq⟩⟩
    · refine thnF (T.item (X.blk s3 H3 scope ce fp) rfl rfl rfl hc i [] s5 _ H5 (fun _ _ => False) I5 (foot I5 n5) st5 go) fun r s6 ⟨u, hr, h6⟩ => ?_
      subst hr
      refine thnF h6 fun _ s7 ⟨x, H7, I7, r7, y7, st7, n7⟩ => ?_
      refine thnF (pg.run _ s7 _ H7 x u _ (I7.pinned (foot I7 n7) (T.obj _ _ st7)) r7 (step x H7 y7)) fun _ s8 ⟨σ8, H8, I8, hw8, q8⟩ => ?_
      refine thnF (pt.run _ s8 σ8 H8 _ I8 q8) fun b s9 ⟨H9, I9, q9⟩ => ?_
      have fin : ∀ {s' : Shared} {H' : Hp}, Inv (X.blk s3 H3 scope ce fp) ([] ++ pinsAt fp s7.heap) σ8 H' s' → N H' → ∃ m, m < n ∧ ∃ i H', Inv (X.blk s3 H3 scope ce fp) [] (L2.wipe σ (own.map (·.2))) H' s' ∧ tn i s'.heap ∧ (∀ b ∈ fp, H' b = none) ∧ W i m H' := fun {s' H'} I' nx => by
        obtain ⟨m', hm, w'⟩ := hNx H' nx
        have pin : ∀ b ∈ fp, ∀ o, s7.heap.get? b = some o → s'.heap.get? b = some o ∧ H' b = none := fun b hb o e =>
          let z := I'.pin (b, o) (List.mem_append_right _ (List.mem_append_right _ (mem_pinsAt hb e)))
          ⟨z.1, z.2.1⟩
        have len : (L2.wipe σ (own.map (·.2))).length = σ8.length := by rw [← hw8, wipe_length]
        refine ⟨m', hm, i + 1, H', (I'.unpinned (pins := [])).weak len (fun j v e => ?_), T.keep _ _ _ st7 fun b hb o e => (pin b hb o e).1, fun b hb => (T.obj _ _ st7 b hb).elim fun o q => (pin b hb o q.1).2, w'⟩
        rw [← hw8] at e
        exact (wipe_some e).1
      cases b with
      | false =>
        simp only [Bool.false_eq_true, if_false] at q9 ⊢
        exact fin I9 q9
      | true =>
        simp only [if_true] at q9 ⊢
        refine thnF (pk.run _ s9 σ8 H9 _ I9 q9) fun z s10 ⟨yk, H10, I10, r10, nks, as, ks, ds, k, a, hD1, ha, hks, dp, ey, hx, hkk, hdp, hz, nx⟩ => ?_
        subst ey
        cases r10
        refine wpAny_pure ?_
        exact dk_store (X := X.blk s3 H3 scope ce fp) hu I10 hD1 ha hks dp hx hkk hdp hz fun s12 I12 => fin I12 nx
  exact codeAny_compStart_dict loop (T.self X.A 0 _ _ _ st4 loop)
end
end DL
namespace DL
open PySem PySem.Spec PyProof.Rows L2 Lk
def isTupD : PyData → Bool
  | .tuple _ => true
  | _ => false
def dkNs (ks : List PyData) : Option (List NestedKey) := (keyNs ks).bind fun nks => if nks.all (fun k => decide (k.depth ≤ 8)) then some nks else none
def keyT (d : PyData) : Option NestedKey := if isTupD d then (keyN d).bind fun k => if k.depth ≤ 8 then some k else none else none
def dkAdd (ks : List PyData) (d : PyData) : Option (List PyData) := (keyT d).bind fun k => (keyNs ks).map fun nks => if k ∈ nks then ks else ks ++ [d]
def dkGo : List PyData → List PyData → Option (List PyData)
  | ks, [] => some ks
  | ks, d :: ds => (dkAdd ks d).bind fun ks' => dkGo ks' ds
def mDkc (vs : List Nat) (mi : M (List PyData)) (g : PyData → En → Option En) (mt : M Bool) (mk : M PyData) : M (List PyData) := mi.bind fun items r =>
  if freeAt r vs && decide (items.length ≤ 900000) then (lcGo vs g mt mk items r).bind fun z => (dkGo [] z.1).map fun ks => .ok ks (restE r z.2 vs) else none
def sDk (i : Nat) (m : M (List PyData)) : SM := sBind m fun ks r => match r[i]? with
  | some (.io _) => none
  | some _ => some (.nx (r.set i (.dk ks)))
  | none => none
def inDkM (neg : Bool) (ks : List PyData) (d : PyData) : Option PyData := (keyT d).bind fun k => (dkNs ks).map fun nks => .bool (if neg then !decide (k ∈ nks) else decide (k ∈ nks))
def mInDk (neg : Bool) (i : Nat) (m : M PyData) : M PyData := m.bind fun d r => match r[i]? with
  | some (.dk ks) => (inDkM neg ks d).map fun z => .ok z r
  | _ => none
@[simp] theorem e_inDk {neg : Bool} {i : Nat} {m : M PyData} {r : En} : mInDk neg i m r = M.bind m (fun d r => match r[i]? with
  | some (.dk ks) => (inDkM neg ks d).map fun z => .ok z r
  | _ => none) r := rfl
@[simp] theorem s_dk {i : Nat} {m : M (List PyData)} {r : En} : sDk i m r = sBind m (fun ks r => match r[i]? with
  | some (.io _) => none
  | some _ => some (.nx (r.set i (.dk ks)))
  | none => none) r := rfl
def rDk (K : PySem.W.Frag) : RR V (List PyData) := fun S O F G H v ks => ∃ p nks as, v = .ref p ∧ S p = none ∧ G p = none ∧ F.H0 p = none ∧ (∀ i, O i ≠ some p) ∧ H p = some (DkO p nks as) ∧ keyNs ks = some nks ∧ DqAll K G (as.map V.ref) ks
instance {K : PySem.W.Frag} : Anti (rDk K) := ⟨fun k ⟨p, nks, as, h1, h2, h⟩ => ⟨p, nks, as, h1, k _ h2, h⟩⟩
theorem keyT_some {d : PyData} {k : NestedKey} (h : keyT d = some k) : ∃ ds, d = .tuple ds ∧ keyN (.tuple ds) = some k ∧ k.depth ≤ 8 := by
  unfold keyT at h
  cases d with
  | tuple ds =>
    have h : ((keyN (.tuple ds)).bind fun k => if k.depth ≤ 8 then some k else none) = some k := h
    obtain ⟨k', h1, h2⟩ := Option.bind_eq_some_iff.mp h
    by_cases hd : k'.depth ≤ 8
    · rw [if_pos hd] at h2
      cases h2
      exact ⟨ds, rfl, h1, hd⟩
    · rw [if_neg hd] at h2
      cases h2
  | _ => cases h
section
variable {K : PySem.W.Frag} {F : Fm} {O : Ow} {G G' H H' : Hp} {σ : L2.St} {r : En} {E : XE} {X : Cx}
theorem Rp.seeO {p : Addr} {ob : HO} (R : Rp K F O G σ H r) (h : H p = some ob) (g : G p = none) (h0 : F.H0 p = none) (o : ∀ i, O i ≠ some p) : Rp K F O (upd G p ob) σ H r where
  sub := fun c x q => by
    by_cases z : c = p
    · subst z
      rw [upd_same] at q
      cases q
      exact h
    · rw [upd_ne z] at q
      exact R.sub _ _ q
  len := R.len
  pl := fun i d e => by
    obtain ⟨v, h1, h2⟩ := R.pl i d e
    exact ⟨v, h1, h2.sm (same_new g)⟩
  ow := fun i ds e => by
    obtain ⟨q, xs, h1, h2, h0, h3, h4⟩ := R.ow i ds e
    exact ⟨q, xs, h1, h2, h0, h3, h4.sm (same_new g)⟩
  io := fun i ds e => by
    obtain ⟨q, xs, h0, h1, h2, h3, h4⟩ := R.io i ds e
    exact ⟨q, xs, h0, h1, h2, h3, h4.sm (same_new g)⟩
  dk := fun i ks e => by
    obtain ⟨q, nks, as, h1, h2, h3, h4⟩ := R.dk i ks e
    exact ⟨q, nks, as, h1, same_new g _ _ h2, h3, h4.sm (same_new g)⟩
  on := fun i q e => by
    obtain ⟨h1, h2, h3, h4⟩ := R.on i q e
    refine ⟨h1, ?_, h3, h4⟩
    rw [upd_ne fun z => o i (by rw [e, z])]
    exact h2
  inj := R.inj
  old := R.old
  nf := R.nf
  g0 := R.g0.trans (same_new g)
  gn := fun c e => by
    by_cases z : c = p
    · exact .inr (by rw [z]; exact h0)
    · rw [upd_ne z] at e
      exact R.gn c e
theorem Rp.putDk (R : Rp K F O G σ H r) {i : Nat} (hi : i < r.length) (hio : ∀ ds, r[i]? ≠ some (Cel.io ds)) {p : Addr} {nks : List NestedKey} {as : List Addr} {ks : List PyData} (hp : G p = some (DkO p nks as)) (hk : keyNs ks = some nks) (ha : DqAll K G (as.map V.ref) ks) :
    Rp K F (fun j => if j = i then none else O j) G (σ.set i (some (.ref p))) H (r.set i (.dk ks)) := by
  have P := dropO R hio
  have ne : ∀ (j : Nat) (c : Cel), (r.set i (.dk ks))[j]? = some c → j ≠ i → (r.set i .un)[j]? = some c := fun j c e z => by
    rw [List.getElem?_set_ne (Ne.symm z)] at e ⊢
    exact e
  have li : i < σ.length := by rw [R.len]; exact hi
  have un : ∀ (j : Nat) (c : Cel), (∀ ks, c ≠ .dk ks) → (r.set i (.dk ks))[j]? = some c → j ≠ i := fun j c hc e z => by
    subst z
    rw [List.getElem?_set_self hi] at e
    exact hc ks (Option.some.inj e).symm
  refine ⟨P.sub, by rw [List.length_set, List.length_set]; exact R.len, fun j d e => ?_, fun j ds' e => ?_, fun j ds' e => ?_, fun j ks' e => ?_, fun j q e => ?_, P.inj, R.old, R.nf, R.g0, R.gn⟩
  · have z := un j _ (fun _ => Cel.noConfusion) e
    obtain ⟨v, h1, h2⟩ := P.pl j d (ne j _ e z)
    exact ⟨v, by rw [List.getElem?_set_ne (Ne.symm z)]; exact h1, h2⟩
  · have z := un j _ (fun _ => Cel.noConfusion) e
    obtain ⟨q, ys, h1, h2, h3⟩ := P.ow j ds' (ne j _ e z)
    exact ⟨q, ys, h1, by rw [List.getElem?_set_ne (Ne.symm z)]; exact h2, h3⟩
  · have z := un j _ (fun _ => Cel.noConfusion) e
    obtain ⟨q, ys, h0, h1, h2, h3⟩ := P.io j ds' (ne j _ e z)
    exact ⟨q, ys, h0, h1, by rw [List.getElem?_set_ne (Ne.symm z)]; exact h2, h3⟩
  · by_cases z : j = i
    · subst z
      rw [List.getElem?_set_self hi] at e
      cases e
      exact ⟨p, nks, as, by rw [List.getElem?_set_self li], hp, hk, ha⟩
    · obtain ⟨q, ns, bs, h1, h2⟩ := P.dk j ks' (ne j _ e z)
      exact ⟨q, ns, bs, by rw [List.getElem?_set_ne (Ne.symm z)]; exact h1, h2⟩
  · obtain ⟨⟨c, h1, h2⟩, h3⟩ := P.on j q e
    have z : j ≠ i := fun z => by
      rw [if_pos z] at e
      cases e
    exact ⟨⟨c, by rw [List.getElem?_set_ne (Ne.symm z)] at h1 ⊢; exact h1, h2⟩, h3⟩
theorem dkc_run {vs ts : List Nat} {mi : M (List PyData)} {g : PyData → En → Option En} {mt : M Bool} {mk : M PyData} (hts : ∀ t ∈ ts, t ∈ vs) {Q : VK} (h : tM K E (rDk K) (mDkc vs mi g mt mk) σ H Q) :
    tDkc K (tM K E (rIt K) mi) (tG K ts g) (tM K XN rB mt) (tM K XN (rD K) mk) vs σ H Q := by
  obtain ⟨F, O, G, r, out, P, em, f⟩ := h
  refine tM.run P f em fun items r1 J G1 H1 P1 g1 q1 e1 f1 => ?_
  split at e1
  · rename_i hcond
    rw [Bool.and_eq_true, decide_eq_true_eq] at hcond
    obtain ⟨hfree, hlen⟩ := hcond
    obtain ⟨⟨ds, r'⟩, hgo, e1⟩ := Option.bind_eq_some_iff.mp e1
    obtain ⟨ks, hks, rfl⟩ := Option.map_eq_some_iff.mp e1
    have ov := free_own P1 hfree
    intro D nD
    have hD0 : F.H0 D = none := P1.nf _ nD
    have hDo : ∀ i, O i ≠ some D := fun i z => (P1.on i D z).2.2.1 nD
    have hDG : G1 D = none := P1.sub.free nD
    refine ⟨fun i m H' => m = items.length - i ∧ i ≤ items.length ∧ ∃ G' r2 ks0 nks as ds1, Rp K F O G' (L2.wipe σ vs) H' (wipeE r2 vs) ∧ Go O G1 H1 G' H' ∧ G' D = none ∧ H' D = some (DkO D nks as) ∧ keyNs ks0 = some nks ∧ (∀ k ∈ nks, k.depth ≤ 8) ∧ DqAll K G' (as.map V.ref) ks0 ∧ nks.length ≤ i ∧ lcGo vs g mt mk (items.drop i) r2 = some (ds1, r') ∧ dkGo ks0 ds1 = some ks,
      ⟨items.length, by simp, Nat.zero_le _, G1, r1, [], [], [], ds, ?_, ?_, hDG, upd_same, by rw [keyNs], by simp, .nil, Nat.zero_le _, hgo, hks⟩, ?_⟩
    · exact (P1.wr hDG hD0 hDo).wipe ov
    · exact Go.refl.wr nD
    rintro i m H' ⟨rfl, hi, G', r2, ks0, nks, as, ds1, P2, g2, gD, hD, hk0, dp, hx, lx, hgo2, hks1⟩
    by_cases hlt : i < items.length
    · refine .inr ?_
      have e3 := List.getElem?_eq_getElem hlt
      rw [List.drop_eq_getElem_cons hlt] at hgo2
      obtain ⟨jgo, jy⟩ := (q1 i H' G' g2.gg P2.sub).1 _ e3
      refine ⟨jgo, _, fun H4 p => ⟨_, (by omega : items.length - (i + 1) < items.length - i), p⟩, fun x H'' y => ?_⟩
      obtain ⟨G2, ps, hd⟩ := jy x H'' y
      obtain ⟨r3, e4, e5⟩ := Option.bind_eq_some_iff.mp hgo2
      have notD : ∀ {Ga Ha Gb : Hp}, Ga D = none → Ha D ≠ none → (∀ c, Gb c ≠ none → Ga c ≠ none ∨ Ha c = none) → Gb D = none := fun {Ga Ha Gb} h1 h2 h3 => by
        cases z : Gb D with
        | none => rfl
        | some o =>
          rcases h3 D (some_ne z) with w | w
          · exact absurd h1 w
          · exact absurd w h2
      have g2D : G2 D = none := notD gD (some_ne hD) ps.gn
      refine ⟨F, O, G2, _, r3, _, P2.ps ps, hd, e4, fun σ2 P3 l3 k3 => ⟨?_, ?_⟩⟩
      · have := wipe_eq l3 (vs := vs) fun j hj => k3 j fun z => hj (hts j z)
        rw [this, wipe_wipe]
      have w3 : L2.wipe σ2 vs = L2.wipe σ vs := by
        have := wipe_eq l3 (vs := vs) fun j hj => k3 j fun z => hj (hts j z)
        rw [this, wipe_wipe]
      have gg3 := g2.trans (ps.go (O := O))
      have hD3 := ps.hh _ _ hD
      cases em3 : mt r3 with
      | none => rw [em3] at e5; cases e5
      | some o3 =>
        rw [em3] at e5
        cases o3 with
        | ex c p => cases e5
        | ok b r4 =>
          refine ⟨F, O, G2, r3, _, P3, em3, fun b' G4 H4 P4 g4 hb => ?_⟩
          cases hb
          have hD4 := g4.keep _ _ hD3 hDo
          have gD4 : G4 D = none := notD g2D (some_ne hD3) g4.gn
          have gg4 := gg3.trans g4
          have hx4 := hx.sm (ps.gg.trans g4.gg)
          cases b with
          | false =>
            refine iteF ⟨rfl, hlt, G4, r4, ks0, nks, as, ds1, ?_, gg4, gD4, hD4, hk0, dp, hx4, by omega, e5, hks1⟩
            have := P4.wipe ov
            rw [w3] at this
            exact this
          | true =>
            refine iteT ?_
            cases em5 : mk r4 with
            | none =>
              simp only [em5] at e5
              cases e5
            | some o5 =>
              cases o5 with
              | ex c p =>
                simp only [em5] at e5
                cases e5
              | ok d r5 =>
                simp only [em5] at e5
                obtain ⟨⟨ds2, r6⟩, hgo6, e6⟩ := Option.map_eq_some_iff.mp e5
                cases e6
                rw [dkGo] at hks1
                obtain ⟨ks1, ha1, hks2⟩ := Option.bind_eq_some_iff.mp hks1
                unfold dkAdd at ha1
                obtain ⟨k, hk1, ha1⟩ := Option.bind_eq_some_iff.mp ha1
                obtain ⟨nks', hn1, ha1⟩ := Option.map_eq_some_iff.mp ha1
                rw [hk0] at hn1
                cases hn1
                obtain ⟨es, rfl, hkk, hdp⟩ := keyT_some hk1
                refine ⟨F, O, G4, r4, _, P4, em5, fun y G5 H5 P5 g5 hy => ?_⟩
                have hD5 := g5.keep _ _ hD4 hDo
                have gD5 : G5 D = none := notD gD4 (some_ne hD4) g5.gn
                have hx5 := hx4.sm g5.gg
                have hy : Dq K G5 y (.tuple es) := hy
                obtain ⟨a, rfl⟩ : ∃ a, y = V.ref a := by
                  cases hy with
                  | tup _ _ => exact ⟨_, rfl⟩
                refine ⟨nks, as, ks0, es, k, a, hD5, hx5.sm P5.sub, hk0, dp, rfl, hy.sm P5.sub, hkk, hdp, by omega, rfl, hlt, G5, r5, ks1, ?_⟩
                have hw : Rp K F O G5 (L2.wipe σ vs) (upd H5 D (dkPut D nks as k a)) (wipeE r5 vs) := by
                  have := (P5.wr (o := dkPut D nks as k a) gD5 hD0 hDo).wipe ov
                  rw [w3] at this
                  exact this
                have gw := (gg4.trans g5).wr (o := dkPut D nks as k a) nD
                unfold dkPut at hw gw ⊢
                by_cases hm : k ∈ nks
                · rw [if_pos hm] at hw gw ha1 ⊢
                  subst ha1
                  exact ⟨nks, as, ds2, hw, gw, gD5, upd_same, hk0, dp, hx5, by omega, hgo6, hks2⟩
                · rw [if_neg hm] at hw gw ha1 ⊢
                  subst ha1
                  refine ⟨nks ++ [k], as ++ [a], ds2, hw, gw, gD5, upd_same, keyNs_snoc hk0 hkk, fun q hq => ?_, ?_, by simp; omega, hgo6, hks2⟩
                  · rcases List.mem_append.mp hq with hq | hq
                    · exact dp q hq
                    · rw [List.mem_singleton.mp hq]; exact hdp
                  · rw [List.map_append]
                    exact hx5.append (.cons hy .nil)
    · refine .inl ?_
      have e3 : i = items.length := by omega
      subst e3
      rw [List.drop_length] at hgo2
      cases hgo2
      cases hks1
      refine ⟨(q1 _ H' G' g2.gg P2.sub).2 (Nat.le_refl _), ?_⟩
      have R : Rp K F O G' σ H' (restE r1 (wipeE r2 vs) vs) := Rp.rest (fun v hv d e => by
        obtain ⟨x, h1, h2⟩ := P1.pl v d e
        exact ⟨x, h1, h2.sm g2.gg⟩) (own_none hfree) P2 ov
      exact f1 _ G' _ R g2 ⟨D, nks, as, rfl, nD, gD, hD0, hDo, hD, hk0, hx⟩
  · cases e1
theorem ds_dk {i : Nat} {x : Str} {px : Pos} {kx tg iter : Expr} {jv : Nat} {pv1 : Pos} {ifs : List Expr} {scope : Scope} {own : List (Str × Nat)} {ts : List Nat} {mi : M (List PyData)} {g : PyData → En → Option En} {mt : M Bool} {mk : M PyData} {pos p2 : Pos} {k : Nat} (hr : Room k X.A) (hN : X.N.Nodup) (hx : X.N[i]? = some x) (hlx : Loc X.env.scope x) (hc : X.calm = true) (hi : DI K E X tg iter mi) (ok : BlkOk X.N X.env.scope scope own)
    (hg : ∀ (s : Shared) (H : Hp) (C : Addr) (cl : List (Str × Addr)) (fp : List Addr), DG K (X.blk s H scope (compEnvC scope cl C X.env) fp) tg ts g) (ht : ∀ (s : Shared) (H : Hp) (C : Addr) (cl : List (Str × Addr)) (fp : List Addr), DTs K (X.blk s H scope (compEnvC scope cl C X.env) fp) ifs mt)
    (he : ∀ (s : Shared) (H : Hp) (C : Addr) (cl : List (Str × Addr)) (fp : List Addr), DE K XN (X.blk s H scope (compEnvC scope cl C X.env) fp) kx mk) (hts : ∀ t ∈ ts, t ∈ own.map (·.2) := by decide) (hs : ∀ x, foldedSetIterable iter X.env x = pure x := by intro _; rfl)
    (hsw : swapsWith (.DictComp kx (.Constant (.bool true) jv pv1) [⟨tg, iter, ifs, 0⟩] scope p2) (some (.Name x px)) pos.line X.env = pure false := by rfl) (hf : X.fn x = true ∨ X.env.scope.names.lookup x = some .local := by first | exact .inl rfl | exact .inr rfl) :
    DS K E X (.Assign [.Name x px] (.DictComp kx (.Constant (.bool true) jv pv1) [⟨tg, iter, ifs, 0⟩] scope p2) pos) (sDk i (mDkc (own.map (·.2)) mi g mt mk)) := ⟨fun hK => by
  have hu : X.A.units + 65 < cLine := by have := hr.un; omega
  have pe := pe_dkc (jv := jv) (pv1 := pv1) (pos := p2) hu hc hN (hi.pi hK) ok (fun s H C cl fp => (hg s H C cl fp).pg hK) (fun s H C cl fp => (ht s H C cl fp).pt hK) (fun s H C cl fp => (he s H C cl fp).pe hK) hs
  rw [hK] at pe
  refine PS.imp (ps_set hN hx hlx pe hsw hf) fun D σ H ⟨F, O, G, r, fl, P, em, f⟩ => ?_
  refine dkc_run hts (tS.run P f em fun ks r1 v G1 H1 P1 g1 q1 e1 f1 => ?_)
  obtain ⟨p, nks, as, rfl, _, hg, h0, ho, hp, hk, ha⟩ := q1
  split at e1
  · cases e1
  · rename_i cel hne hc
    cases e1
    exact f1 _ _ _ H1 ((P1.seeO hp hg h0 ho).putDk (List.getElem?_eq_some_iff.mp hc).1 (fun ds z => hne ds (Option.some.inj (hc.symm.trans z))) upd_same hk (ha.sm (same_new hg))) (same_new hg)
  · cases e1⟩
theorem dk_use {neg : Bool} {i : Nat} {ma : M PyData} {σ : L2.St} {H : Hp} {Q : VK} {ta : TE} (ha : ∀ σ H Q, tM K E (rD K) ma σ H Q → ta σ H Q) (h : tM K E (rD K) (mInDk neg i ma) σ H Q) : ta σ H fun x H1 => tVar i σ H1 fun y H2 => rInDk K neg x y H2 Q := by
  obtain ⟨F, O, G, r, out, P, em, f⟩ := h
  refine ha _ _ _ (tM.run P f em fun d r1 x G1 H1 P1 g1 q1 e1 f1 => ?_)
  split at e1
  · rename_i ks hr
    obtain ⟨z, hz, rfl⟩ := Option.map_eq_some_iff.mp e1
    unfold inDkM at hz
    obtain ⟨k, hk, hz⟩ := Option.bind_eq_some_iff.mp hz
    obtain ⟨nks, hn, rfl⟩ := Option.map_eq_some_iff.mp hz
    obtain ⟨p, nks', as, h1, h2, h3, h4⟩ := P1.dk i ks hr
    unfold dkNs at hn
    obtain ⟨n2, h5, h6⟩ := Option.bind_eq_some_iff.mp hn
    rw [h3] at h5
    cases h5
    by_cases hall : (nks'.all fun k => decide (k.depth ≤ 8)) = true
    · rw [if_pos hall] at h6
      cases h6
      obtain ⟨ds, rfl, hkk, hdp⟩ := keyT_some hk
      have q1 : Dq K G1 x (.tuple ds) := q1
      obtain ⟨a', rfl⟩ : ∃ a', x = V.ref a' := by
        cases q1 with
        | tup _ _ => exact ⟨_, rfl⟩
      exact ⟨_, h1, p, _, as, ks, ds, k, a', rfl, P1.sub _ _ h2, h4.sm P1.sub, h3, fun q hq => by simpa using List.all_eq_true.mp hall q hq, rfl, q1.sm P1.sub, hkk, hdp, f1.ok (Ps.refl P1.sub) P1 (.bl _)⟩
    · rw [if_neg hall] at h6
      cases h6
  · cases e1
theorem val_test {m : M PyData} {σ : L2.St} {H : Hp} {Q : Bool → Hp → Prop} (h : tM K E rB (mVal m) σ H Q) : tM K E (rD K) m σ H (fun x H' => ∃ k, x = .bl k ∧ Q k H') := by
  obtain ⟨F, O, G, r, out, P, em, f⟩ := h
  refine tM.run P f em fun d r1 x G1 H1 P1 g1 q1 e1 f1 => ?_
  obtain ⟨c, hz, rfl⟩ := lift_ok e1
  cases asBool_some hz
  exact ⟨c, dp_bool q1, f1.ok (Ps.refl P1.sub) P1 rfl⟩
theorem dt_notInDk {i : Nat} {a : Expr} {y : Str} {py pos : Pos} {ma : M PyData} {k : Nat} (hr : Room k X.A) (ha : DE K E X a ma) (hm : behindInMarks .NotIn (.Name y py) = false) (hN : X.N[i]? = some y := by rfl) (hv : Vis X.env.scope y := by first | exact Or.inl rfl | exact Or.inr (Or.inl rfl) | exact Or.inr (Or.inr rfl))
    (hd : (y == ("__debug__" : Str)) = false := by decide) (hcd : (y == ("__classdict__" : Str)) = false := by decide) : DT K E X (.Compare a [.NotIn] [.Name y py] pos) (mVal (mInDk true i ma)) := ⟨fun hK => by
  have hu : X.A.units + 65 < cLine := by have := hr.un; omega
  refine PT.imp (pt_cmpR (op_notInDk hu) (ha.pe hK) (pe_var hN hv hd hcd) hm) fun σ H Q h => ?_
  rw [hK]
  exact dk_use (fun _ _ _ h => h) (val_test h)⟩
end
end DL
namespace DL
open PySem PySem.Spec PyProof.Rows L2 Lk
section
variable {K : PySem.W.Frag} {E : XE} {X : Cx}
variable {kn : L2.St → Hp → Prop} {a b c e : Expr} {pos : Pos} {m ma mb : M PyData}
end
section
variable {P : Program} {w : World} {K : PySem.W.Frag} {mg : Str → Option Value} {base : Heap}
end
end DL
namespace DL
open PySem PySem.Spec PyProof.Rows L2 Lk
def c_JOINING_WORDS : PyData := .tuple [.str "and", .str "or", .str "odd"]
def v_is_integer : SM := (sRet (mAndV (mIsi "int" (mV 0)) (mNotV (mIsi "bool" (mV 0)))))
def g_is_integer : List PyData → Option PyData := runD ["value"] 1 v_is_integer
theorem r_is_integer (x0 : PyData) : g_is_integer [x0] = outD (v_is_integer [.pl x0]) := rfl
def v_is_integer_below : SM := (sRet (mAndV (mCall g_is_integer (mCons (mV 0) mNil)) (mChain leM ltM (M.ret (.int 0)) (mV 0) (mV 1))))
def g_is_integer_below : List PyData → Option PyData := runD ["value", "limit"] 2 v_is_integer_below
theorem r_is_integer_below (x0 : PyData) (x1 : PyData) : g_is_integer_below [x0, x1] = outD (v_is_integer_below [.pl x0, .pl x1]) := rfl
def v_are_ascending_below : SM := (sSeq (sSet 2 (M.ret (.int 0)))
  (sSeq (sFor (mSeq (mV 0)) (gN 3)
    (sSeq (sIf (mOr (mNotT (mTru (mCall g_is_integer_below (mCons (mV 3) (mCons (mV 1) mNil))))) (mOpT ltM (mV 3) (mV 2)))
    (sRet (M.ret (.bool false)))
    sNil)
  (sSet 2 (mOp2 addM (mV 3) (M.ret (.int 1))))))
  (sRet (M.ret (.bool true)))))
def g_are_ascending_below : List PyData → Option PyData := runD ["values", "limit", "least", "value"] 2 v_are_ascending_below
theorem r_are_ascending_below (x0 : PyData) (x1 : PyData) : g_are_ascending_below [x0, x1] = outD (v_are_ascending_below [.pl x0, .pl x1, .un, .un]) := rfl
end DL
namespace DL
open PySem PySem.Spec PyProof.Rows L2 Lk
def v_is_sizes : SM := (sSeq (sIf (mOr (mNotT (mTru (mIsi "list" (mV 0)))) (mOpT gtM (mCall lenM (mCons (mV 0) mNil)) (M.ret (.int 24))))
    (sRet (M.ret (.bool false)))
    sNil)
  (sRet (mCall allM (mCons (mNew (mLc [1] (mSeq (mV 0)) (gN 1) mYes (mAndV (mCall g_is_integer (mCons (mV 1) mNil)) (mChain leM leM (M.ret (.int 2)) (mV 1) (M.ret (.int 6)))))) mNil))))
def g_is_sizes : List PyData → Option PyData := runD ["value", "size"] 1 v_is_sizes
theorem r_is_sizes (x0 : PyData) : g_is_sizes [x0] = outD (v_is_sizes [.pl x0, .un]) := rfl
def v_check_sizes : SM := (sIf (mNotT (mTru (mCall g_is_sizes (mCons (mV 0) mNil))))
    sNo
    sNil)
def g_check_sizes : List PyData → Option PyData := runD ["sizes"] 1 v_check_sizes
theorem r_check_sizes (x0 : PyData) : g_check_sizes [x0] = outD (v_check_sizes [.pl x0]) := rfl
def v_number_of_cases : SM := (sSeq (sSet 1 (M.ret (.int 1)))
  (sSeq (sFor (mSeq (mV 0)) (gN 2)
    (sSet 1 (mOp2 mulM (mV 1) (mV 2))))
  (sRet (mV 1))))
def g_number_of_cases : List PyData → Option PyData := runD ["sizes", "number", "size"] 1 v_number_of_cases
theorem r_number_of_cases (x0 : PyData) : g_number_of_cases [x0] = outD (v_number_of_cases [.pl x0, .un, .un]) := rfl
def v_is_small_sheet : SM := (sRet (mOp2 leM (mCall g_number_of_cases (mCons (mV 0) mNil)) (M.ret (.int 1024))))
def g_is_small_sheet : List PyData → Option PyData := runD ["sizes"] 1 v_is_small_sheet
theorem r_is_small_sheet (x0 : PyData) : g_is_small_sheet [x0] = outD (v_is_small_sheet [.pl x0]) := rfl
def v_check_small : SM := (sIf (mNotT (mTru (mCall g_is_small_sheet (mCons (mV 0) mNil))))
    sNo
    sNil)
def g_check_small : List PyData → Option PyData := runD ["sizes"] 1 v_check_small
theorem r_check_small (x0 : PyData) : g_check_small [x0] = outD (v_check_small [.pl x0]) := rfl
def v_place_of_case : SM := (sSeq (sSet 2 (M.ret (.int 0)))
  (sSeq (sFor (mRng1 (mCons (mCall lenM (mCons (mV 0) mNil)) mNil)) (gN 3)
    (sSet 2 (mOp2 addM (mOp2 mulM (mV 2) (mOp2 ixM (mV 0) (mV 3))) (mOp2 ixM (mV 1) (mV 3)))))
  (sRet (mV 2))))
def g_place_of_case : List PyData → Option PyData := runD ["sizes", "case", "place", "at"] 2 v_place_of_case
theorem r_place_of_case (x0 : PyData) (x1 : PyData) : g_place_of_case [x0, x1] = outD (v_place_of_case [.pl x0, .pl x1, .un, .un]) := rfl
def v_list_completing : SM := (sSeq (sSet 2 (mNew (mLst (mCons (mNew (mLst mNil)) mNil))))
  (sSeq (sFor (mRng1 (mCons (mCall lenM (mCons (mV 0) mNil)) mNil)) (gN 3)
    (sSeq (sSet 4 (mIf (mOpT isM (mOp2 ixM (mV 1) (mV 3)) (M.ret .none)) (mNew (mLRng1 (mOp2 ixM (mV 0) (mV 3)))) (mNew (mLst (mCons (mOp2 ixM (mV 1) (mV 3)) mNil)))))
  (sSet 2 (mNew (mLc2 [5, 6] [6] (mSeq (mV 2)) (gN 5) mYes (mSeq (mV 4)) (gN 6) mYes (mNew (mLst (mStar (mV 5) (mCons (mV 6) mNil)))))))))
  (sRet (mV 2))))
def g_list_completing : List PyData → Option PyData := runD ["sizes", "half", "cases", "at", "choices", "begun", "value"] 2 v_list_completing
theorem r_list_completing (x0 : PyData) (x1 : PyData) : g_list_completing [x0, x1] = outD (v_list_completing [.pl x0, .pl x1, .un, .un, .un, .un, .un]) := rfl
end DL
namespace DL
open PySem PySem.Spec PyProof.Rows L2 Lk
def v_inner_forms : SM := (sSeq (sIf (mOpT eqM (mOp2 ixM (mV 0) (M.ret (.int 0))) (M.ret (.str "tree")))
    (sRet (mOp2 ixM (mV 0) (M.ret (.int 2))))
    sNil)
  (sSeq (sIf (mOpT eqM (mOp2 ixM (mV 0) (M.ret (.int 0))) (M.ret (.str "not")))
    (sRet (mTup (mCons (mOp2 ixM (mV 0) (M.ret (.int 1))) mNil)))
    sNil)
  (sSeq (sIf (mOpT inM (mOp2 ixM (mV 0) (M.ret (.int 0))) (M.ret c_JOINING_WORDS))
    (sRet (mOp2 ixM (mV 0) (M.ret (.int 1))))
    sNil)
  (sRet (mTup mNil)))))
def g_inner_forms : List PyData → Option PyData := runD ["form"] 1 v_inner_forms
theorem r_inner_forms (x0 : PyData) : g_inner_forms [x0] = outD (v_inner_forms [.pl x0]) := rfl
def v_p_is_tuple_of : SM := (sRet (mAndV (mIsi "tuple" (mV 0)) (mOp2 eqM (mCall lenM (mCons (mV 0) mNil)) (mV 1))))
def g_p_is_tuple_of : List PyData → Option PyData := runD ["value", "length"] 2 v_p_is_tuple_of
theorem r_p_is_tuple_of (x0 : PyData) (x1 : PyData) : g_p_is_tuple_of [x0, x1] = outD (v_p_is_tuple_of [.pl x0, .pl x1]) := rfl
def v_p_is_results : SM := (sSeq (sIf (mOr (mNotT (mTru (mCall g_is_small_sheet (mCons (mV 0) mNil)))) (mNotT (mTru (mCall g_p_is_tuple_of (mCons (mV 1) (mCons (mCall g_number_of_cases (mCons (mV 0) mNil)) mNil))))))
    (sRet (M.ret (.bool false)))
    sNil)
  (sRet (mCall allM (mCons (mNew (mLc [2] (mSeq (mV 1)) (gN 2) mYes (mIsi "bool" (mV 2)))) mNil))))
def g_p_is_results : List PyData → Option PyData := runD ["sizes", "value", "result"] 2 v_p_is_results
theorem r_p_is_results (x0 : PyData) (x1 : PyData) : g_p_is_results [x0, x1] = outD (v_p_is_results [.pl x0, .pl x1, .un]) := rfl
def v_p_is_short_form_outside : SM := (sSeq (sIf (mOpT eqM (mV 1) (M.ret (.str "say")))
    (sRet (mIsi "bool" (mV 2)))
    sNil)
  (sSeq (sIf (mOpT eqM (mV 1) (M.ret (.str "table")))
    (sRet (mCall g_p_is_results (mCons (mV 0) (mCons (mV 2) mNil))))
    sNil)
  (sSeq (sIf (mOpT eqM (mV 1) (M.ret (.str "not")))
    (sRet (M.ret (.bool true)))
    sNil)
  (sRet (mAndV (mOp2 inM (mV 1) (M.ret c_JOINING_WORDS)) (mIsi "tuple" (mV 2)))))))
def g_p_is_short_form_outside : List PyData → Option PyData := runD ["sizes", "word", "part"] 3 v_p_is_short_form_outside
theorem r_p_is_short_form_outside (x0 : PyData) (x1 : PyData) (x2 : PyData) : g_p_is_short_form_outside [x0, x1, x2] = outD (v_p_is_short_form_outside [.pl x0, .pl x1, .pl x2]) := rfl
def v_p_is_test : SM := (sSeq (sIf (mOr (mNotT (mTru (mCall g_is_integer_below (mCons (mV 1) (mCons (mCall lenM (mCons (mV 0) mNil)) mNil))))) (mNotT (mTru (mIsi "tuple" (mV 2)))))
    (sRet (M.ret (.bool false)))
    sNil)
  (sRet (mCall g_are_ascending_below (mCons (mV 2) (mCons (mOp2 ixM (mV 0) (mV 1)) mNil)))))
def g_p_is_test : List PyData → Option PyData := runD ["sizes", "field", "values"] 3 v_p_is_test
theorem r_p_is_test (x0 : PyData) (x1 : PyData) (x2 : PyData) : g_p_is_test [x0, x1, x2] = outD (v_p_is_test [.pl x0, .pl x1, .pl x2]) := rfl
def v_p_is_condition : SM := (sRet (mAndV (mCall g_p_is_tuple_of (mCons (mV 1) (mCons (M.ret (.int 2)) mNil))) (mCall g_p_is_test (mCons (mV 0) (mCons (mOp2 ixM (mV 1) (M.ret (.int 0))) (mCons (mOp2 ixM (mV 1) (M.ret (.int 1))) mNil))))))
def g_p_is_condition : List PyData → Option PyData := runD ["sizes", "value"] 2 v_p_is_condition
theorem r_p_is_condition (x0 : PyData) (x1 : PyData) : g_p_is_condition [x0, x1] = outD (v_p_is_condition [.pl x0, .pl x1]) := rfl
def v_is_conditions : SM := (sSeq (sIf (mOr (mNotT (mTru (mIsi "tuple" (mV 1)))) (mNotT (mTru (mCall allM (mCons (mNew (mLc [2] (mSeq (mV 1)) (gN 2) mYes (mCall g_p_is_condition (mCons (mV 0) (mCons (mV 2) mNil))))) mNil)))))
    (sRet (M.ret (.bool false)))
    sNil)
  (sRet (mCall g_are_ascending_below (mCons (mNew (mLc [2] (mSeq (mV 1)) (gN 2) mYes (mOp2 ixM (mV 2) (M.ret (.int 0))))) (mCons (mCall lenM (mCons (mV 0) mNil)) mNil)))))
def g_is_conditions : List PyData → Option PyData := runD ["sizes", "value", "part"] 2 v_is_conditions
theorem r_is_conditions (x0 : PyData) (x1 : PyData) : g_is_conditions [x0, x1] = outD (v_is_conditions [.pl x0, .pl x1, .un]) := rfl
def v_p_is_rule : SM := (sRet (mAndV (mCall g_p_is_tuple_of (mCons (mV 1) (mCons (M.ret (.int 2)) mNil))) (mAndV (mCall g_is_conditions (mCons (mV 0) (mCons (mOp2 ixM (mV 1) (M.ret (.int 0))) mNil))) (mIsi "bool" (mOp2 ixM (mV 1) (M.ret (.int 1)))))))
def g_p_is_rule : List PyData → Option PyData := runD ["sizes", "value"] 2 v_p_is_rule
theorem r_p_is_rule (x0 : PyData) (x1 : PyData) : g_p_is_rule [x0, x1] = outD (v_p_is_rule [.pl x0, .pl x1]) := rfl
def v_p_is_rules : SM := (sRet (mAndV (mIsi "tuple" (mV 1)) (mCall allM (mCons (mNew (mLc [2] (mSeq (mV 1)) (gN 2) mYes (mCall g_p_is_rule (mCons (mV 0) (mCons (mV 2) mNil))))) mNil))))
def g_p_is_rules : List PyData → Option PyData := runD ["sizes", "value", "part"] 2 v_p_is_rules
theorem r_p_is_rules (x0 : PyData) (x1 : PyData) : g_p_is_rules [x0, x1] = outD (v_p_is_rules [.pl x0, .pl x1, .un]) := rfl
def v_p_are_integers : SM := (sRet (mCall allM (mCons (mNew (mLc [1] (mSeq (mV 0)) (gN 1) mYes (mCall g_is_integer (mCons (mV 1) mNil)))) mNil)))
def g_p_are_integers : List PyData → Option PyData := runD ["values", "value"] 1 v_p_are_integers
theorem r_p_are_integers (x0 : PyData) : g_p_are_integers [x0] = outD (v_p_are_integers [.pl x0, .un]) := rfl
def v_p_is_weights : SM := (sSeq (sIf (mNotT (mTru (mCall g_p_is_tuple_of (mCons (mV 1) (mCons (mCall lenM (mCons (mV 0) mNil)) mNil)))))
    (sRet (M.ret (.bool false)))
    sNil)
  (sRet (mCall allM (mCons (mNew (mLc [2] (mRng1 (mCons (mCall lenM (mCons (mV 0) mNil)) mNil)) (gN 2) mYes (mAndV (mCall g_p_is_tuple_of (mCons (mOp2 ixM (mV 1) (mV 2)) (mCons (mOp2 ixM (mV 0) (mV 2)) mNil))) (mCall g_p_are_integers (mCons (mOp2 ixM (mV 1) (mV 2)) mNil))))) mNil))))
def g_p_is_weights : List PyData → Option PyData := runD ["sizes", "value", "at"] 2 v_p_is_weights
theorem r_p_is_weights (x0 : PyData) (x1 : PyData) : g_p_is_weights [x0, x1] = outD (v_p_is_weights [.pl x0, .pl x1, .un]) := rfl
def v_p_is_long_form_outside : SM := (sSeq (sIf (mOpT eqM (mV 1) (M.ret (.str "is")))
    (sRet (mCall g_p_is_test (mCons (mV 0) (mCons (mV 2) (mCons (mV 3) mNil)))))
    sNil)
  (sSeq (sIf (mOpT eqM (mV 1) (M.ret (.str "tree")))
    (sRet (mAndV (mCall g_is_integer_below (mCons (mV 2) (mCons (mCall lenM (mCons (mV 0) mNil)) mNil))) (mCall g_p_is_tuple_of (mCons (mV 3) (mCons (mOp2 ixM (mV 0) (mV 2)) mNil)))))
    sNil)
  (sSeq (sIf (mOpT eqM (mV 1) (M.ret (.str "rules")))
    (sRet (mAndV (mCall g_p_is_rules (mCons (mV 0) (mCons (mV 2) mNil))) (mIsi "bool" (mV 3))))
    sNil)
  (sRet (mAndV (mOp2 eqM (mV 1) (M.ret (.str "card"))) (mAndV (mCall g_p_is_weights (mCons (mV 0) (mCons (mV 2) mNil))) (mCall g_is_integer (mCons (mV 3) mNil))))))))
def g_p_is_long_form_outside : List PyData → Option PyData := runD ["sizes", "word", "part", "second_part"] 4 v_p_is_long_form_outside
theorem r_p_is_long_form_outside (x0 : PyData) (x1 : PyData) (x2 : PyData) (x3 : PyData) : g_p_is_long_form_outside [x0, x1, x2, x3] = outD (v_p_is_long_form_outside [.pl x0, .pl x1, .pl x2, .pl x3]) := rfl
def v_p_is_form_outside : SM := (sSeq (sIf (mOr (mNotT (mTru (mIsi "tuple" (mV 1)))) (mOr (mOpT eqM (mCall lenM (mCons (mV 1) mNil)) (M.ret (.int 0))) (mNotT (mTru (mIsi "str" (mOp2 ixM (mV 1) (M.ret (.int 0))))))))
    (sRet (M.ret (.bool false)))
    sNil)
  (sSeq (sIf (mOpT eqM (mCall lenM (mCons (mV 1) mNil)) (M.ret (.int 2)))
    (sRet (mCall g_p_is_short_form_outside (mCons (mV 0) (mCons (mOp2 ixM (mV 1) (M.ret (.int 0))) (mCons (mOp2 ixM (mV 1) (M.ret (.int 1))) mNil)))))
    sNil)
  (sRet (mAndV (mOp2 eqM (mCall lenM (mCons (mV 1) mNil)) (M.ret (.int 3))) (mCall g_p_is_long_form_outside (mCons (mV 0) (mCons (mOp2 ixM (mV 1) (M.ret (.int 0))) (mCons (mOp2 ixM (mV 1) (M.ret (.int 1))) (mCons (mOp2 ixM (mV 1) (M.ret (.int 2))) mNil)))))))))
def g_p_is_form_outside : List PyData → Option PyData := runD ["sizes", "value"] 2 v_p_is_form_outside
theorem r_p_is_form_outside (x0 : PyData) (x1 : PyData) : g_p_is_form_outside [x0, x1] = outD (v_p_is_form_outside [.pl x0, .pl x1]) := rfl
def v_has_form_shape : SM := (sSeq (sOwn 2 (mLst (mCons (mV 1) mNil)))
  (sSeq (whGo (mTruO 2)
    (sSeq (sSet 3 (mPop 2))
  (sSeq (sIf (mNotT (mTru (mCall g_p_is_form_outside (mCons (mV 0) (mCons (mV 3) mNil)))))
    (sRet (M.ret (.bool false)))
    sNil)
  (sExt 2 (mCall g_inner_forms (mCons (mV 3) mNil))))) WH)
  (sRet (M.ret (.bool true)))))
def g_has_form_shape : List PyData → Option PyData := runD ["sizes", "value", "left", "part"] 2 v_has_form_shape
theorem r_has_form_shape (x0 : PyData) (x1 : PyData) : g_has_form_shape [x0, x1] = outD (v_has_form_shape [.pl x0, .pl x1, .un, .un]) := rfl
end DL
namespace DL
open PySem PySem.Spec PyProof.Rows L2 Lk
def v_check_form : SM := (sIf (mNotT (mTru (mCall g_has_form_shape (mCons (mV 0) (mCons (mV 1) mNil)))))
    sNo
    sNil)
def g_check_form : List PyData → Option PyData := runD ["sizes", "form"] 2 v_check_form
theorem r_check_form (x0 : PyData) (x1 : PyData) : g_check_form [x0, x1] = outD (v_check_form [.pl x0, .pl x1]) := rfl
def v_p_join_answers : SM := (sSeq (sIf (mOpT eqM (mV 0) (M.ret (.str "and")))
    (sRet (mOp2 notInM (M.ret (.bool false)) (mV 1)))
    sNil)
  (sSeq (sIf (mOpT eqM (mV 0) (M.ret (.str "or")))
    (sRet (mOp2 inM (M.ret (.bool true)) (mV 1)))
    sNil)
  (sRet (mOp2 eqM (mOp2 modM (mMt "list" countM (mV 1) (mCons (M.ret (.bool true)) mNil)) (M.ret (.int 2))) (M.ret (.int 1))))))
def g_p_join_answers : List PyData → Option PyData := runD ["word", "results"] 2 v_p_join_answers
theorem r_p_join_answers (x0 : PyData) (x1 : PyData) : g_p_join_answers [x0, x1] = outD (v_p_join_answers [.pl x0, .pl x1]) := rfl
def v_sum_of_weights : SM := (sRet (mCall sumM (mCons (mNew (mLc [2] (mRng1 (mCons (mCall lenM (mCons (mV 1) mNil)) mNil)) (gN 2) mYes (mOp2 ixM (mOp2 ixM (mV 0) (mV 2)) (mOp2 ixM (mV 1) (mV 2))))) mNil)))
def g_sum_of_weights : List PyData → Option PyData := runD ["weights", "case", "at"] 2 v_sum_of_weights
theorem r_sum_of_weights (x0 : PyData) (x1 : PyData) : g_sum_of_weights [x0, x1] = outD (v_sum_of_weights [.pl x0, .pl x1, .un]) := rfl
def v_fits : SM := (sRet (mCall allM (mCons (mNew (mLc [2, 3] (mSeq (mV 0)) (gTupD 2 (gConsD (gN 2) (gConsD (gN 3) gNilD))) mYes (mOp2 inM (mOp2 ixM (mV 1) (mV 2)) (mV 3)))) mNil)))
def g_fits : List PyData → Option PyData := runD ["conditions", "case", "field", "values"] 2 v_fits
theorem r_fits (x0 : PyData) (x1 : PyData) : g_fits [x0, x1] = outD (v_fits [.pl x0, .pl x1, .un, .un]) := rfl
def v_p_first_result : SM := (sSeq (sFor (mSeq (mV 0)) (gTupD 2 (gConsD (gN 3) (gConsD (gN 4) gNilD)))
    (sIf (mTru (mCall g_fits (mCons (mV 3) (mCons (mV 2) mNil))))
    (sRet (mV 4))
    sNil))
  (sRet (mV 1)))
def g_p_first_result : List PyData → Option PyData := runD ["rules", "last", "case", "conditions", "result"] 3 v_p_first_result
theorem r_p_first_result (x0 : PyData) (x1 : PyData) (x2 : PyData) : g_p_first_result [x0, x1, x2] = outD (v_p_first_result [.pl x0, .pl x1, .pl x2, .un, .un]) := rfl
def v_p_says_alone : SM := (sSeq (sIf (mOpT eqM (mOp2 ixM (mV 1) (M.ret (.int 0))) (M.ret (.str "say")))
    (sRet (mOp2 ixM (mV 1) (M.ret (.int 1))))
    sNil)
  (sSeq (sIf (mOpT eqM (mOp2 ixM (mV 1) (M.ret (.int 0))) (M.ret (.str "is")))
    (sRet (mOp2 inM (mOp2 ixM (mV 2) (mOp2 ixM (mV 1) (M.ret (.int 1)))) (mOp2 ixM (mV 1) (M.ret (.int 2)))))
    sNil)
  (sSeq (sIf (mOpT eqM (mOp2 ixM (mV 1) (M.ret (.int 0))) (M.ret (.str "rules")))
    (sRet (mCall g_p_first_result (mCons (mOp2 ixM (mV 1) (M.ret (.int 1))) (mCons (mOp2 ixM (mV 1) (M.ret (.int 2))) (mCons (mV 2) mNil)))))
    sNil)
  (sSeq (sIf (mOpT eqM (mOp2 ixM (mV 1) (M.ret (.int 0))) (M.ret (.str "card")))
    (sRet (mOp2 geM (mCall g_sum_of_weights (mCons (mOp2 ixM (mV 1) (M.ret (.int 1))) (mCons (mV 2) mNil))) (mOp2 ixM (mV 1) (M.ret (.int 2)))))
    sNil)
  (sRet (mOp2 ixM (mOp2 ixM (mV 1) (M.ret (.int 1))) (mCall g_place_of_case (mCons (mV 0) (mCons (mV 2) mNil)))))))))
def g_p_says_alone : List PyData → Option PyData := runD ["sizes", "form", "case"] 3 v_p_says_alone
theorem r_p_says_alone (x0 : PyData) (x1 : PyData) (x2 : PyData) : g_p_says_alone [x0, x1, x2] = outD (v_p_says_alone [.pl x0, .pl x1, .pl x2]) := rfl
def v_says (self : List PyData → Option PyData) : SM := (sSeq (sIf (mOpT eqM (mOp2 ixM (mV 1) (M.ret (.int 0))) (M.ret (.str "tree")))
    (sRet (mCall self (mCons (mV 0) (mCons (mOp2 ixM (mOp2 ixM (mV 1) (M.ret (.int 2))) (mOp2 ixM (mV 2) (mOp2 ixM (mV 1) (M.ret (.int 1))))) (mCons (mV 2) mNil)))))
    sNil)
  (sSeq (sIf (mOpT eqM (mOp2 ixM (mV 1) (M.ret (.int 0))) (M.ret (.str "not")))
    (sRet (mNotV (mCall self (mCons (mV 0) (mCons (mOp2 ixM (mV 1) (M.ret (.int 1))) (mCons (mV 2) mNil))))))
    sNil)
  (sSeq (sIf (mOpT inM (mOp2 ixM (mV 1) (M.ret (.int 0))) (M.ret c_JOINING_WORDS))
    (sRet (mCall g_p_join_answers (mCons (mOp2 ixM (mV 1) (M.ret (.int 0))) (mCons (mNew (mLc [3] (mSeq (mOp2 ixM (mV 1) (M.ret (.int 1)))) (gN 3) mYes (mCall self (mCons (mV 0) (mCons (mV 3) (mCons (mV 2) mNil)))))) mNil))))
    sNil)
  (sRet (mCall g_p_says_alone (mCons (mV 0) (mCons (mV 1) (mCons (mV 2) mNil))))))))
def g_says : Nat → List PyData → Option PyData
  | 0 => fun _ => none
  | n + 1 => runD ["sizes", "form", "case", "part"] 3 (v_says (g_says n))
theorem r_says {n : Nat} (x0 : PyData) (x1 : PyData) (x2 : PyData) : g_says (n + 1) [x0, x1, x2] = outD ((v_says (g_says n)) [.pl x0, .pl x1, .pl x2, .un]) := rfl
def v_answers_completing : SM := (sRet (mNew (mLc [3] (mSeq (mCall g_list_completing (mCons (mV 0) (mCons (mV 2) mNil)))) (gN 3) mYes (mCall (g_says FU) (mCons (mV 0) (mCons (mV 1) (mCons (mV 3) mNil)))))))
def g_answers_completing : List PyData → Option PyData := runD ["sizes", "form", "half", "case"] 3 v_answers_completing
theorem r_answers_completing (x0 : PyData) (x1 : PyData) (x2 : PyData) : g_answers_completing [x0, x1, x2] = outD (v_answers_completing [.pl x0, .pl x1, .pl x2, .un]) := rfl
def v_all_answers : SM := (sRet (mCall g_answers_completing (mCons (mV 0) (mCons (mV 1) (mCons (mNew (mRep (mLst (mCons (M.ret .none) mNil)) (mCall lenM (mCons (mV 0) mNil)))) mNil)))))
def g_all_answers : List PyData → Option PyData := runD ["sizes", "form"] 2 v_all_answers
theorem r_all_answers (x0 : PyData) (x1 : PyData) : g_all_answers [x0, x1] = outD (v_all_answers [.pl x0, .pl x1]) := rfl
def v_check_answer : SM := (sIf (mNotT (mTru (mIsi "bool" (mV 0))))
    sNo
    sNil)
def g_check_answer : List PyData → Option PyData := runD ["result"] 1 v_check_answer
theorem r_check_answer (x0 : PyData) : g_check_answer [x0] = outD (v_check_answer [.pl x0]) := rfl
end DL
namespace DL
open PySem PySem.Spec PyProof.Rows L2 Lk
end DL
namespace DL
open PySem PySem.Spec PyProof.Rows L2 Lk
end DL
namespace DL
open PySem PySem.Spec PyProof.Rows L2 Lk
def v_p_find_primes_from (self : List PyData → Option PyData) : SM := (sSeq (sIf (mOpT notInM (M.ret (.bool true)) (mV 2))
    (sRet (mNew (mLst mNil)))
    sNil)
  (sSeq (sIf (mOpT notInM (M.ret (.bool false)) (mV 2))
    (sRet (mNew (mLst (mCons (mTup mNil) mNil))))
    sNil)
  (sSeq (sSet 3 (mOp2 divM (mCall lenM (mCons (mV 2) mNil)) (mOp2 ixM (mV 0) (mV 1))))
  (sSeq (sSet 4 (mNew (mLc [10] (mRng3 (mCons (M.ret (.int 0)) (mCons (mCall lenM (mCons (mV 2) mNil)) (mCons (mV 3) mNil)))) (gN 10) mYes (mNew (mSlice (mV 2) (mPart (mV 10)) (mPart (mOp2 addM (mV 10) (mV 3))))))))
  (sSeq (sSet 5 (mCall self (mCons (mV 0) (mCons (mOp2 addM (mV 1) (M.ret (.int 1))) (mCons (mNew (mLc [12] (mZip (mV 4)) (gN 12) mYes (mOp2 notInM (M.ret (.bool false)) (mV 12)))) mNil)))))
  (sSeq (sDk 6 (mDkc [11] (mSeq (mV 5)) (gN 11) mYes (mV 11)))
  (sSeq (sOwn 7 (mLst mNil))
  (sSeq (sFor (mRng1 (mCons (mOp2 ixM (mV 0) (mV 1)) mNil)) (gN 8)
    (sSeq (sSet 9 (mCall self (mCons (mV 0) (mCons (mOp2 addM (mV 1) (M.ret (.int 1))) (mCons (mOp2 ixM (mV 4) (mV 8)) mNil)))))
  (sExtL 7 (mNew (mLc [11] (mSeq (mV 9)) (gN 11) (mVal (mInDk true 6 (mV 11))) (mTup (mCons (mTup (mCons (mV 1) (mCons (mV 8) mNil))) (mStar (mV 11) mNil))))))))
  (sFrz 7 (sRet (mOp2 addM (mV 7) (mV 5))))))))))))
def g_p_find_primes_from : Nat → List PyData → Option PyData
  | 0 => fun _ => none
  | n + 1 => runD ["sizes", "field", "wanted", "step", "parts", "free", "seen", "found", "value", "rules", "at", "rule", "both"] 3 (v_p_find_primes_from (g_p_find_primes_from n))
theorem r_p_find_primes_from {n : Nat} (x0 : PyData) (x1 : PyData) (x2 : PyData) : g_p_find_primes_from (n + 1) [x0, x1, x2] = outD ((v_p_find_primes_from (g_p_find_primes_from n)) [.pl x0, .pl x1, .pl x2, .un, .un, .un, .un, .un, .un, .un, .un, .un, .un]) := rfl
def v_primes_of_answers : SM := (sRet (mNew (mSortLen (mCall (g_p_find_primes_from FU) (mCons (mV 0) (mCons (M.ret (.int 0)) (mCons (mNew (mLc [3] (mSeq (mV 1)) (gN 3) mYes (mOp2 eqM (mV 3) (mV 2)))) mNil)))))))
def g_primes_of_answers : List PyData → Option PyData := runD ["sizes", "results", "result", "told"] 3 v_primes_of_answers
theorem r_primes_of_answers (x0 : PyData) (x1 : PyData) (x2 : PyData) : g_primes_of_answers [x0, x1, x2] = outD (v_primes_of_answers [.pl x0, .pl x1, .pl x2, .un]) := rfl
def v_find_prime_rules : SM := (sRet (mCall g_primes_of_answers (mCons (mV 0) (mCons (mCall g_all_answers (mCons (mV 0) (mCons (mV 1) mNil))) (mCons (mV 2) mNil)))))
def g_find_prime_rules : List PyData → Option PyData := runD ["sizes", "form", "result"] 3 v_find_prime_rules
theorem r_find_prime_rules (x0 : PyData) (x1 : PyData) (x2 : PyData) : g_find_prime_rules [x0, x1, x2] = outD (v_find_prime_rules [.pl x0, .pl x1, .pl x2]) := rfl
def v_p_check_form_and_answer : SM := (sSeq (sExpr (mCall g_check_sizes (mCons (mV 0) mNil)))
  (sSeq (sExpr (mCall g_check_form (mCons (mV 0) (mCons (mV 1) mNil))))
  (sExpr (mCall g_check_answer (mCons (mV 2) mNil)))))
def g_p_check_form_and_answer : List PyData → Option PyData := runD ["sizes", "form", "result"] 3 v_p_check_form_and_answer
theorem r_p_check_form_and_answer (x0 : PyData) (x1 : PyData) (x2 : PyData) : g_p_check_form_and_answer [x0, x1, x2] = outD (v_p_check_form_and_answer [.pl x0, .pl x1, .pl x2]) := rfl
def v_prime_rules : SM := (sSeq (sExpr (mCall g_p_check_form_and_answer (mCons (mV 0) (mCons (mV 1) (mCons (mV 2) mNil)))))
  (sSeq (sExpr (mCall g_check_small (mCons (mV 0) mNil)))
  (sRet (mCall g_find_prime_rules (mCons (mV 0) (mCons (mV 1) (mCons (mV 2) mNil)))))))
def g_prime_rules : List PyData → Option PyData := runD ["sizes", "form", "result"] 3 v_prime_rules
theorem r_prime_rules (x0 : PyData) (x1 : PyData) (x2 : PyData) : g_prime_rules [x0, x1, x2] = outD (v_prime_rules [.pl x0, .pl x1, .pl x2]) := rfl
end DL
namespace DL
open PySem PySem.Spec PyProof.Rows L2 Lk
end DL
namespace DL
open PySem PySem.Spec PyProof.Rows L2 Lk
end DL
namespace DL
open PySem PySem.Spec PyProof.Rows L2 Lk
end DL
namespace DL
open PySem PySem.Spec PyProof.Rows L2 Lk
end DL
namespace DL
open PySem PySem.Spec PyProof.Rows L2 Lk
end DL
namespace DL
open PySem PySem.Spec PyProof.Rows L2 Lk
end DL
namespace DL
open PySem PySem.Spec PyProof.Rows L2 Lk
end DL
namespace DL
open PySem PySem.Spec PyProof.Rows L2 Lk
end DL
namespace DL
open PySem PySem.Spec PyProof.Rows L2 Lk
end DL
namespace DL
open PySem PySem.Spec PyProof.Rows L2 Lk
def v_law_draw_48e0b : SM := (sSeq (sIf (mOpT geM (mV 0) (mOp2 powM (M.ret (.int 10)) (M.ret (.int 18))))
    (sRet (mOp2 modM (mOp2 modM (mCall intM (mCons (mOp2 shrM (mV 0) (mOp2 mulM (M.ret (.int 14)) (mV 1))) mNil)) (M.ret (.int 16384))) (mV 2)))
    sNil)
  (sSeq (sSet 3 (mOp2 modM (mCall intM (mCons (mOp2 addM (mOp2 addM (mOp2 mulM (mV 0) (M.ret (.int 48271))) (mOp2 mulM (mOp2 mulM (M.ret (.int 7919)) (mV 1)) (mV 1))) (M.ret (.int 30011))) mNil)) (M.ret (.int 1000000007))))
  (sSeq (sSet 4 (mOp2 modM (mCall intM (mCons (mOp2 addM (mOp2 mulM (mV 3) (mV 3)) (mOp2 mulM (M.ret (.int 60493)) (mV 1))) mNil)) (M.ret (.int 2147483629))))
  (sSeq (sSet 5 (mOp2 modM (mCall intM (mCons (mOp2 addM (mOp2 mulM (mV 4) (mV 4)) (mV 3)) mNil)) (M.ret (.int 2147483587))))
  (sSeq (sSet 6 (mOp2 modM (mCall intM (mCons (mOp2 addM (mOp2 mulM (mV 5) (mV 5)) (mV 4)) mNil)) (M.ret (.int 2147483563))))
  (sRet (mOp2 modM (mCall intM (mCons (mOp2 divM (mV 6) (M.ret (.int 64))) mNil)) (mV 2))))))))
def g_law_draw_48e0b : List PyData → Option PyData := runD ["cell", "k", "limit", "seed", "first", "second", "third"] 3 v_law_draw_48e0b
theorem r_law_draw_48e0b (x0 : PyData) (x1 : PyData) (x2 : PyData) : g_law_draw_48e0b [x0, x1, x2] = outD (v_law_draw_48e0b [.pl x0, .pl x1, .pl x2, .un, .un, .un, .un]) := rfl
def v_law_values_1b941 : SM := (sRet (mCall tupleM (mCons (mNew (mLc [3] (mRng1 (mCons (mV 2) mNil)) (gN 3) (mOpT eqM (mCall g_law_draw_48e0b (mCons (mV 0) (mCons (mOp2 addM (mV 1) (mV 3)) (mCons (M.ret (.int 2)) mNil)))) (M.ret (.int 1))) (mV 3))) mNil)))
def g_law_values_1b941 : List PyData → Option PyData := runD ["cell", "k", "size", "part"] 3 v_law_values_1b941
theorem r_law_values_1b941 (x0 : PyData) (x1 : PyData) (x2 : PyData) : g_law_values_1b941 [x0, x1, x2] = outD (v_law_values_1b941 [.pl x0, .pl x1, .pl x2, .un]) := rfl
def v_law_conditions_05f1f : SM := (sSeq (sSet 2 (mOp2 eqM (mCall g_law_draw_48e0b (mCons (mV 1) (mCons (M.ret (.int 1)) (mCons (M.ret (.int 2)) mNil)))) (M.ret (.int 1))))
  (sSeq (sOwn 3 (mLst mNil))
  (sSeq (sFor (mRng1 (mCons (mCall lenM (mCons (mV 0) mNil)) mNil)) (gN 4)
    (sIf (mAnd (mOpT ltM (mLenO 3) (M.ret (.int 6))) (mOpT eqM (mCall g_law_draw_48e0b (mCons (mV 1) (mCons (mOp2 addM (mOp2 mulM (M.ret (.int 7)) (mV 4)) (M.ret (.int 2))) (mCons (M.ret (.int 2)) mNil)))) (M.ret (.int 1))))
    (sSeq (sSet 5 (mCall g_law_values_1b941 (mCons (mV 1) (mCons (mOp2 addM (mOp2 mulM (M.ret (.int 7)) (mV 4)) (M.ret (.int 3))) (mCons (mOp2 ixM (mV 0) (mV 4)) mNil)))))
  (sSeq (sIf (mTru (mV 2))
    (sSet 5 (mTup (mCons (mCall g_law_draw_48e0b (mCons (mV 1) (mCons (mOp2 addM (mOp2 mulM (M.ret (.int 7)) (mV 4)) (M.ret (.int 3))) (mCons (mOp2 ixM (mV 0) (mV 4)) mNil)))) mNil)))
    sNil)
  (sApp 3 (mTup (mCons (mV 4) (mCons (mV 5) mNil))))))
    sNil))
  (sFrz 3 (sRet (mCall tupleM (mCons (mV 3) mNil)))))))
def g_law_conditions_05f1f : List PyData → Option PyData := runD ["sizes", "cell", "single", "found", "field", "values"] 2 v_law_conditions_05f1f
theorem r_law_conditions_05f1f (x0 : PyData) (x1 : PyData) : g_law_conditions_05f1f [x0, x1] = outD (v_law_conditions_05f1f [.pl x0, .pl x1, .un, .un, .un, .un]) := rfl
def v_law_card_4ab7e : SM := (sSeq (sSet 2 (mOp2 ixM (mTup (mCons (M.ret (.int 3)) (mCons (M.ret (.int 7)) (mCons (M.ret (.int 101)) mNil)))) (mCall g_law_draw_48e0b (mCons (mV 1) (mCons (M.ret (.int 1)) (mCons (M.ret (.int 3)) mNil))))))
  (sSeq (sOwn 3 (mLst mNil))
  (sSeq (sSet 4 (mOp2 subM (mCall g_law_draw_48e0b (mCons (mV 1) (mCons (M.ret (.int 2)) (mCons (M.ret (.int 3)) mNil)))) (M.ret (.int 1))))
  (sSeq (sFor (mRng1 (mCons (mCall lenM (mCons (mV 0) mNil)) mNil)) (gN 5)
    (sSeq (sSet 6 (mNew (mLc [7] (mRng1 (mCons (mOp2 ixM (mV 0) (mV 5)) mNil)) (gN 7) mYes (mOp2 subM (mCall g_law_draw_48e0b (mCons (mV 1) (mCons (mOp2 addM (mOp2 addM (mOp2 mulM (M.ret (.int 6)) (mV 5)) (mV 7)) (M.ret (.int 4))) (mCons (mV 2) mNil)))) (mOp2 divM (mV 2) (M.ret (.int 2)))))))
  (sSeq (sApp 3 (mCall tupleM (mCons (mV 6) mNil)))
  (sSet 4 (mOp2 addM (mV 4) (mOp2 ixM (mV 6) (mCall g_law_draw_48e0b (mCons (mV 1) (mCons (mOp2 addM (M.ret (.int 64)) (mV 5)) (mCons (mOp2 ixM (mV 0) (mV 5)) mNil))))))))))
  (sFrz 3 (sRet (mTup (mCons (M.ret (.str "card")) (mCons (mCall tupleM (mCons (mV 3) mNil)) (mCons (mV 4) mNil))))))))))
def g_law_card_4ab7e : List PyData → Option PyData := runD ["sizes", "cell", "spread", "weights", "total", "field", "row", "part"] 2 v_law_card_4ab7e
theorem r_law_card_4ab7e (x0 : PyData) (x1 : PyData) : g_law_card_4ab7e [x0, x1] = outD (v_law_card_4ab7e [.pl x0, .pl x1, .un, .un, .un, .un, .un, .un]) := rfl
def v_law_leaf_52ac9 : SM := (sSeq (sSet 2 (mCall g_law_draw_48e0b (mCons (mV 1) (mCons (M.ret (.int 90)) (mCons (M.ret (.int 6)) mNil)))))
  (sSeq (sSet 3 (M.ret (.int 1)))
  (sSeq (sFor (mSeq (mV 0)) (gN 4)
    (sSet 3 (mOp2 mulM (mV 3) (mV 4))))
  (sSeq (sIf (mOr (mOpT eqM (mV 2) (M.ret (.int 0))) (mAnd (mOpT eqM (mV 2) (M.ret (.int 1))) (mOpT gtM (mV 3) (M.ret (.int 128)))))
    (sRet (mCall g_law_card_4ab7e (mCons (mV 0) (mCons (mV 1) mNil))))
    sNil)
  (sSeq (sIf (mOpT eqM (mV 2) (M.ret (.int 1)))
    (sRet (mTup (mCons (M.ret (.str "table")) (mCons (mCall tupleM (mCons (mNew (mLc [7] (mRng1 (mCons (mV 3) mNil)) (gN 7) mYes (mOp2 eqM (mCall g_law_draw_48e0b (mCons (mV 1) (mCons (mOp2 addM (mOp2 modM (mCall intM (mCons (mV 7) mNil)) (M.ret (.int 61))) (M.ret (.int 100))) (mCons (M.ret (.int 2)) mNil)))) (M.ret (.int 1))))) mNil)) mNil))))
    sNil)
  (sSeq (sIf (mOpT eqM (mV 2) (M.ret (.int 2)))
    (sRet (mTup (mCons (M.ret (.str "rules")) (mCons (mTup (mCons (mTup (mCons (mCall g_law_conditions_05f1f (mCons (mV 0) (mCons (mV 1) mNil))) (mCons (mOp2 eqM (mCall g_law_draw_48e0b (mCons (mV 1) (mCons (M.ret (.int 92)) (mCons (M.ret (.int 2)) mNil)))) (M.ret (.int 1))) mNil))) mNil)) (mCons (mOp2 eqM (mCall g_law_draw_48e0b (mCons (mV 1) (mCons (M.ret (.int 93)) (mCons (M.ret (.int 2)) mNil)))) (M.ret (.int 1))) mNil)))))
    sNil)
  (sSeq (sIf (mOr (mOpT eqM (mV 2) (M.ret (.int 3))) (mOpT eqM (mV 0) (mNew (mLst mNil))))
    (sRet (mTup (mCons (M.ret (.str "say")) (mCons (mOp2 eqM (mCall g_law_draw_48e0b (mCons (mV 1) (mCons (M.ret (.int 92)) (mCons (M.ret (.int 2)) mNil)))) (M.ret (.int 1))) mNil))))
    sNil)
  (sSeq (sSet 5 (mCall g_law_draw_48e0b (mCons (mV 1) (mCons (M.ret (.int 91)) (mCons (mCall lenM (mCons (mV 0) mNil)) mNil)))))
  (sSeq (sIf (mOpT eqM (mV 2) (M.ret (.int 4)))
    (sRet (mTup (mCons (M.ret (.str "is")) (mCons (mV 5) (mCons (mCall g_law_values_1b941 (mCons (mV 1) (mCons (M.ret (.int 92)) (mCons (mOp2 ixM (mV 0) (mV 5)) mNil)))) mNil)))))
    sNil)
  (sRet (mTup (mCons (M.ret (.str "tree")) (mCons (mV 5) (mCons (mCall tupleM (mCons (mNew (mLc [6] (mRng1 (mCons (mOp2 ixM (mV 0) (mV 5)) mNil)) (gN 6) mYes (mTup (mCons (M.ret (.str "say")) (mCons (mOp2 eqM (mCall g_law_draw_48e0b (mCons (mV 1) (mCons (mOp2 addM (M.ret (.int 92)) (mV 6)) (mCons (M.ret (.int 2)) mNil)))) (M.ret (.int 1))) mNil))))) mNil)) mNil))))))))))))))
def g_law_leaf_52ac9 : List PyData → Option PyData := runD ["sizes", "cell", "word", "many", "size", "field", "part", "at"] 2 v_law_leaf_52ac9
theorem r_law_leaf_52ac9 (x0 : PyData) (x1 : PyData) : g_law_leaf_52ac9 [x0, x1] = outD (v_law_leaf_52ac9 [.pl x0, .pl x1, .un, .un, .un, .un, .un, .un]) := rfl
def v_law_part_518aa : SM := (sSeq (sSet 2 (mCall g_law_leaf_52ac9 (mCons (mV 0) (mCons (mV 1) mNil))))
  (sSeq (sIf (mOpT eqM (mCall g_law_draw_48e0b (mCons (mV 1) (mCons (M.ret (.int 80)) (mCons (M.ret (.int 3)) mNil)))) (M.ret (.int 0)))
    (sRet (mTup (mCons (M.ret (.str "not")) (mCons (mV 2) mNil))))
    sNil)
  (sRet (mV 2))))
def g_law_part_518aa : List PyData → Option PyData := runD ["sizes", "cell", "leaf"] 2 v_law_part_518aa
theorem r_law_part_518aa (x0 : PyData) (x1 : PyData) : g_law_part_518aa [x0, x1] = outD (v_law_part_518aa [.pl x0, .pl x1, .un]) := rfl
def v_law_form_06328 : SM := (sSeq (sSet 2 (mOp2 ixM (mOp2 addM (mV 1) (mNew (mLst (mCons (M.ret (.int 0)) mNil)))) (M.ret (.int 0))))
  (sSeq (sSet 3 (mCall g_law_draw_48e0b (mCons (mV 2) (mCons (M.ret (.int 81)) (mCons (M.ret (.int 6)) mNil)))))
  (sSeq (sSet 4 (mNew (mSlice (mV 1) (mPart (M.ret (.int 1))) (mPart (M.ret (.int 8))))))
  (sSeq (sIf (mOpT eqM (mV 3) (M.ret (.int 0)))
    (sSeq (sSet 5 (mNew (mLc [7] (mSeq (mNew (mSlice (mV 1) (mPart (M.ret (.int 1))) (mPart (M.ret (.int 13)))))) (gN 7) mYes (mTup (mCons (mCall g_law_conditions_05f1f (mCons (mV 0) (mCons (mV 7) mNil))) (mCons (mOp2 eqM (mCall g_law_draw_48e0b (mCons (mV 7) (mCons (M.ret (.int 0)) (mCons (M.ret (.int 2)) mNil)))) (M.ret (.int 1))) mNil))))))
  (sRet (mTup (mCons (M.ret (.str "rules")) (mCons (mCall tupleM (mCons (mV 5) mNil)) (mCons (mOp2 eqM (mCall g_law_draw_48e0b (mCons (mV 2) (mCons (M.ret (.int 82)) (mCons (M.ret (.int 2)) mNil)))) (M.ret (.int 1))) mNil))))))
    sNil)
  (sSeq (sIf (mOpT ltM (mV 3) (M.ret (.int 4)))
    (sRet (mTup (mCons (mOp2 ixM (mNew (mLst (mCons (M.ret (.str "and")) (mCons (M.ret (.str "or")) (mCons (M.ret (.str "odd")) mNil))))) (mOp2 subM (mV 3) (M.ret (.int 1)))) (mCons (mCall tupleM (mCons (mNew (mLc [7] (mSeq (mV 4)) (gN 7) mYes (mCall g_law_part_518aa (mCons (mV 0) (mCons (mV 7) mNil))))) mNil)) mNil))))
    sNil)
  (sSeq (sIf (mAnd (mOpT eqM (mV 3) (M.ret (.int 4))) (mAnd (mOpT neM (mV 0) (mNew (mLst mNil))) (mOpT neM (mV 4) (mNew (mLst mNil)))))
    (sSeq (sSet 6 (mCall g_law_draw_48e0b (mCons (mV 2) (mCons (M.ret (.int 82)) (mCons (mCall lenM (mCons (mV 0) mNil)) mNil)))))
  (sRet (mTup (mCons (M.ret (.str "tree")) (mCons (mV 6) (mCons (mCall tupleM (mCons (mNew (mLc [8] (mRng1 (mCons (mOp2 ixM (mV 0) (mV 6)) mNil)) (gN 8) mYes (mCall g_law_part_518aa (mCons (mV 0) (mCons (mOp2 ixM (mV 4) (mOp2 modM (mCall intM (mCons (mV 8) mNil)) (mCall lenM (mCons (mV 4) mNil)))) mNil))))) mNil)) mNil))))))
    sNil)
  (sRet (mCall g_law_leaf_52ac9 (mCons (mV 0) (mCons (mV 2) mNil))))))))))
def g_law_form_06328 : List PyData → Option PyData := runD ["sizes", "cells", "cell", "word", "rest", "listed", "field", "one", "k"] 2 v_law_form_06328
theorem r_law_form_06328 (x0 : PyData) (x1 : PyData) : g_law_form_06328 [x0, x1] = outD (v_law_form_06328 [.pl x0, .pl x1, .un, .un, .un, .un, .un, .un, .un]) := rfl
def v_law_sizes_48d55 : SM := (sSeq (sSet 3 (mOp2 ixM (mTup (mCons (M.ret (.int 5)) (mCons (M.ret (.int 2)) (mCons (M.ret (.int 1)) mNil)))) (mCall g_law_draw_48e0b (mCons (mV 0) (mCons (M.ret (.int 12)) (mCons (M.ret (.int 3)) mNil))))))
  (sSeq (sOwn 4 (mLst mNil))
  (sSeq (sSet 5 (M.ret (.int 1)))
  (sSeq (sFor (mRng1 (mCons (mCall g_law_draw_48e0b (mCons (mV 0) (mCons (M.ret (.int 0)) (mCons (M.ret (.int 11)) mNil)))) mNil)) (gN 6)
    (sSeq (sSet 7 (mOp2 addM (M.ret (.int 2)) (mCall g_law_draw_48e0b (mCons (mV 0) (mCons (mOp2 addM (M.ret (.int 1)) (mV 6)) (mCons (mV 3) mNil))))))
  (sIf (mOpT leM (mOp2 mulM (mV 5) (mOp2 addM (mV 7) (mV 1))) (mV 2))
    (sSeq (sApp 4 (mV 7))
  (sSet 5 (mOp2 mulM (mV 5) (mOp2 addM (mV 7) (mV 1)))))
    sNil)))
  (sFrz 4 (sRet (mV 4)))))))
def g_law_sizes_48d55 : List PyData → Option PyData := runD ["cell", "more", "most", "top", "sizes", "many", "k", "size"] 3 v_law_sizes_48d55
theorem r_law_sizes_48d55 (x0 : PyData) (x1 : PyData) (x2 : PyData) : g_law_sizes_48d55 [x0, x1, x2] = outD (v_law_sizes_48d55 [.pl x0, .pl x1, .pl x2, .un, .un, .un, .un, .un]) := rfl
def v_law_cell_98eb9 : SM := (sSeq (sIf (mOpT ltM (mV 1) (mCall lenM (mCons (mV 0) mNil)))
    (sRet (mOp2 ixM (mV 0) (mV 1)))
    sNil)
  (sRet (M.ret (.int 0))))
def g_law_cell_98eb9 : List PyData → Option PyData := runD ["script", "k"] 2 v_law_cell_98eb9
theorem r_law_cell_98eb9 (x0 : PyData) (x1 : PyData) : g_law_cell_98eb9 [x0, x1] = outD (v_law_cell_98eb9 [.pl x0, .pl x1]) := rfl
end DL
namespace DL
open PySem PySem.Spec PyProof.Rows L2 Lk
def v_law_many_bf8ac (self : List PyData → Option PyData) : SM := (sSeq (sIf (mOpT eqM (mOp2 ixM (mV 0) (M.ret (.int 0))) (M.ret (.str "tree")))
    (sRet (mOp2 addM (M.ret (.int 1)) (mCall sumM (mCons (mNew (mLc [1] (mSeq (mOp2 ixM (mV 0) (M.ret (.int 2)))) (gN 1) mYes (mCall self (mCons (mV 1) mNil)))) mNil))))
    sNil)
  (sSeq (sIf (mOpT eqM (mOp2 ixM (mV 0) (M.ret (.int 0))) (M.ret (.str "not")))
    (sRet (mOp2 addM (M.ret (.int 1)) (mCall self (mCons (mOp2 ixM (mV 0) (M.ret (.int 1))) mNil))))
    sNil)
  (sSeq (sIf (mOpT inM (mOp2 ixM (mV 0) (M.ret (.int 0))) (mTup (mCons (M.ret (.str "and")) (mCons (M.ret (.str "or")) (mCons (M.ret (.str "odd")) mNil)))))
    (sRet (mOp2 addM (M.ret (.int 1)) (mCall sumM (mCons (mNew (mLc [1] (mSeq (mOp2 ixM (mV 0) (M.ret (.int 1)))) (gN 1) mYes (mCall self (mCons (mV 1) mNil)))) mNil))))
    sNil)
  (sRet (M.ret (.int 1))))))
def g_law_many_bf8ac : Nat → List PyData → Option PyData
  | 0 => fun _ => none
  | n + 1 => runD ["form", "part"] 1 (v_law_many_bf8ac (g_law_many_bf8ac n))
theorem r_law_many_bf8ac {n : Nat} (x0 : PyData) : g_law_many_bf8ac (n + 1) [x0] = outD ((v_law_many_bf8ac (g_law_many_bf8ac n)) [.pl x0, .un]) := rfl
def v_law_brief_4e244 : SM := (sSeq (sSet 2 (mCall g_law_form_06328 (mCons (mV 0) (mCons (mV 1) mNil))))
  (sSeq (sIf (mOpT gtM (mCall (g_law_many_bf8ac FU) (mCons (mV 2) mNil)) (M.ret (.int 17)))
    (sSet 2 (mCall g_law_form_06328 (mCons (mV 0) (mCons (mNew (mSlice (mV 1) mNoPart (mPart (M.ret (.int 3))))) mNil))))
    sNil)
  (sSeq (sIf (mOpT gtM (mCall (g_law_many_bf8ac FU) (mCons (mV 2) mNil)) (M.ret (.int 17)))
    (sRet (mOp2 ixM (mOp2 ixM (mV 2) (M.ret (.int 2))) (M.ret (.int 0))))
    sNil)
  (sRet (mV 2)))))
def g_law_brief_4e244 : List PyData → Option PyData := runD ["sizes", "cells", "form"] 2 v_law_brief_4e244
theorem r_law_brief_4e244 (x0 : PyData) (x1 : PyData) : g_law_brief_4e244 [x0, x1] = outD (v_law_brief_4e244 [.pl x0, .pl x1, .un]) := rfl
end DL
namespace DL
open PySem PySem.Spec PyProof.Rows L2 Lk
def nodupI : List Int → Bool
  | [] => true
  | x :: xs => !xs.contains x && nodupI xs
def lenSetM : PyData → Option PyData
  | .list ds => (asInts ds).bind fun ns => if ns.length < 64 && nodupI ns then some (.int ns.length) else none
  | _ => none
def mLenSet (m : M PyData) : M PyData := m.bind fun d => M.lift (lenSetM d)
@[simp] theorem e_lenSet {m : M PyData} {r : En} : mLenSet m r = M.bind m (fun d => M.lift (lenSetM d)) r := rfl
section
variable {K : PySem.W.Frag} {E : XE} {X : Cx} {a : Expr} {ma : M PyData} {p p2 q pos : Pos}
end
end DL
namespace DL
open PySem PySem.Spec PyProof.Rows L2 Lk
def asPair : PyData → Option (Int × Int)
  | .tuple [.int x, .int y] => if 0 ≤ x ∧ x < 64 ∧ 0 ≤ y ∧ y < 64 then some (x, y) else none
  | _ => none
def asPairs : List PyData → Option (List (Int × Int))
  | [] => some []
  | d :: ds => (asPair d).bind fun p => (asPairs ds).map fun ps => p :: ps
def prI (p : Int × Int) : PyData := .tuple [.int p.1, .int p.2]
def codP (p : Int × Int) : Int := p.1 * 64 + p.2
def decP (k : Int) : Int × Int := (k / 64, k % 64)
def sortPM : PyData → Option (List PyData)
  | .list ds => (asPairs ds).bind fun ps => if ps.length < 64 then some ((sortU (ps.map codP)).map fun k => prI (decP k)) else none
  | _ => none
def mSortP (m : M PyData) : M (List PyData) := m.bind fun d => M.lift (sortPM d)
@[simp] theorem e_sortP {m : M PyData} {r : En} : mSortP m r = M.bind m (fun d => M.lift (sortPM d)) r := rfl
section
variable {K : PySem.W.Frag} {E : XE} {X : Cx} {a : Expr} {ma : M PyData} {p p2 q pos : Pos} {G H : Hp}
end
end DL
namespace DL
open PySem PySem.Spec PyProof.Rows L2 Lk
mutual
/-- numbers and tuples alone -/
def numT : NestedKey → Bool
  | .none => false
  | .num _ => true
  | .text _ => false
  | .tup ks => numTs ks
def numTs : List NestedKey → Bool
  | [] => true
  | k :: ks => numT k && numTs ks
end
mutual
theorem keyN_numT : ∀ {d : PyData} {k : NestedKey}, keyN d = some k → numT k = true
  | .int i, k, h => by
    rw [keyN] at h
    cases h
    rw [numT]
  | .tuple ds, k, h => by
    rw [keyN] at h
    obtain ⟨ks, h1, rfl⟩ := Option.map_eq_some_iff.mp h
    rw [numT]
    exact keyNs_numT h1
  | .none, k, h => by simp [keyN] at h
  | .bool _, k, h => by simp [keyN] at h
  | .str _, k, h => by simp [keyN] at h
  | .list _, k, h => by simp [keyN] at h
  | .dict _, k, h => by simp [keyN] at h
theorem keyNs_numT : ∀ {ds : List PyData} {ks : List NestedKey}, keyNs ds = some ks → numTs ks = true
  | [], ks, h => by
    rw [keyNs] at h
    cases h
    rw [numTs]
  | d :: ds, ks, h => by
    rw [keyNs] at h
    obtain ⟨k, h1, h2⟩ := Option.bind_eq_some_iff.mp h
    obtain ⟨ks', h3, rfl⟩ := Option.map_eq_some_iff.mp h2
    rw [numTs, keyN_numT h1, keyNs_numT h3]
    rfl
end
/-- the element k stands at a -/
def EN (h : Heap) (k : NestedKey) (a : Addr) : Prop := NestedIs h k (.ref a) ∧ k.depth ≤ 8 ∧ numT k = true
theorem EN.obj {h : Heap} {k : NestedKey} {a : Addr} (x : EN h k a) : ∃ o, h.get? a = some o ∧ o.cls = .type "tuple" ∧ ∃ vs n, o.data = .seq vs n := by
  obtain ⟨x, _⟩ := x
  cases x with
  | tup h1 h2 h3 _ => exact ⟨_, h1, h2, _, _, h3⟩
theorem EN.inj {h : Heap} {k k' : NestedKey} {a : Addr} (x : EN h k a) (y : EN h k' a) : k = k' := NestedIs.inj _ _ _ x.1 y.1
theorem EN.keep {h h' : Heap} {k : NestedKey} {a : Addr} (x : EN h k a) (e : ∀ b o, h.get? b = some o → h'.get? b = some o) : EN h' k a :=
  ⟨NestedIs.at (fun b o _ _ ho _ => e b o ho) _ _ x.1, x.2⟩
theorem EN.but {h h' : Heap} {k : NestedKey} {a b : Addr} {o : Obj} {es : Array (Int × Value)} {ep : Nat} {t : SetTable} (x : EN h k b) (ho : h.get? a = some o) (hd : o.data = .set es ep t) (hs : Heap.SameBut a h h') : EN h' k b :=
  ⟨NestedIs.at (fun c u vs n hc hu => by
    refine (hs.2 c fun e => ?_).trans hc
    subst e
    rw [ho] at hc
    cases hc
    rw [hd] at hu
    cases hu) _ _ x.1, x.2⟩
section
variable {P : Program} {w : World} {E : Value → Shared → Prop}
/-- what v says of itself, n levels down -/
def Says (P : Program) (w : World) (f : Value → Sem Bool) (b : Bool) (s : Shared) (v : Value) : Prop := ∀ (A : Around) (E : Value → Shared → Prop) (Q : Bool → Shared → Prop), Q b s → wpAny (model P w) A (f v) Q E s
theorem Says.pure {f : Value → Sem Bool} {b : Bool} {s : Shared} {v : Value} (h : f v = Pure.pure b) : Says P w f b s v := fun A E Q hq => by
  rw [h]
  exact wpAny_pure hq
theorem class_tuple {n : Nat} {s : Shared} {a : Addr} {o : Obj} {vs : Array Value} {m : Nat} (ho : s.heap.get? a = some o) (hc : o.cls = .type "tuple") (hd : o.data = .seq vs m) (hq : ∀ v ∈ vs.toList, Says P w (ofAClassStatement n) false s v) : Says P w (ofAClassStatement (n + 1)) false s (.ref a) := fun A E Q h => by
  have hT : s.TypeIs (.ref a) "tuple" := ⟨o, ho, hc⟩
  unfold ofAClassStatement
  refine wpAny_bind (wpAny_typeOf hT ?_)
  dsimp only
  rw [show (("tuple" : String) == "tuple") = true by decide]
  simp only [if_true, Bool.not_true, Bool.false_eq_true, if_false]
  try refine wpAny_bind (wpAny_pure ?_)
  try simp only [Bool.not_true, Bool.false_eq_true, if_false]
  show wpAny _ _ (seqItems? (.ref a) >>= _) _ _ s
  refine wpAny_bind (wpAny_seqItems ho hd ?_)
  dsimp only
  refine wpAny_bind ?_
  show wpAny _ _ (forIn vs _ _) _ _ s
  rw [← Array.forIn_toList]
  refine wpAny_forIn_list _ (fun rest r s' => r.1 = none ∧ s' = s ∧ ∀ v ∈ rest, Says P w (ofAClassStatement n) false s v) _ ?_ ?_ _ _ ⟨rfl, rfl, hq⟩
  · rintro v rest r s' ⟨hr, rfl, hall⟩
    refine wpAny_bind (hall v List.mem_cons_self _ _ _ ?_)
    simp only [Bool.false_eq_true, if_false]
    exact wpAny_pure ⟨rfl, rfl, fun u hu => hall u (List.mem_cons_of_mem _ hu)⟩
  · rintro ⟨r1, r2⟩ s' ⟨hr, rfl, _⟩
    simp only at hr
    subst hr
    exact wpAny_pure h
theorem worth_tuple {n : Nat} {s : Shared} {a : Addr} {o : Obj} {vs : Array Value} {m : Nat} (ho : s.heap.get? a = some o) (hc : o.cls = .type "tuple") (hd : o.data = .seq vs m) (hq : ∀ v ∈ vs.toList, Says P w (hashByValue n) true s v) : Says P w (hashByValue (n + 1)) true s (.ref a) := fun A E Q h => by
  have hT : s.TypeIs (.ref a) "tuple" := ⟨o, ho, hc⟩
  unfold hashByValue
  refine wpAny_bind (wpAny_specialOf hT F.slot_tuple_hash.lookup ?_)
  show wpAny _ _ (seqItems? (.ref a) >>= _) _ _ s
  refine wpAny_bind (wpAny_seqItems ho hd ?_)
  refine wpAny_bind ?_
  show wpAny _ _ (forIn vs _ _) _ _ s
  rw [← Array.forIn_toList]
  refine wpAny_forIn_list _ (fun rest r s' => r.1 = none ∧ s' = s ∧ ∀ v ∈ rest, Says P w (hashByValue n) true s v) _ ?_ ?_ _ _ ⟨rfl, rfl, hq⟩
  · rintro v rest r s' ⟨hr, rfl, hall⟩
    refine wpAny_bind (hall v List.mem_cons_self _ _ _ ?_)
    simp only [Bool.not_true, Bool.false_eq_true, if_false]
    exact wpAny_pure ⟨rfl, rfl, fun u hu => hall u (List.mem_cons_of_mem _ hu)⟩
  · rintro ⟨r1, r2⟩ s' ⟨hr, rfl, _⟩
    simp only at hr
    subst hr
    exact wpAny_pure h
mutual
theorem class_key : ∀ (k : NestedKey) (v : Value) (n : Nat) (s : Shared), NestedIs s.heap k v → numT k = true → k.depth ≤ n → Says P w (ofAClassStatement n) false s v
  | .none, _, n, s, x, hk, _ => by simp [numT] at hk
  | .text y, _, n, s, x, hk, _ => by simp [numT] at hk
  | .num i, _, n, s, x, _, _ => by cases x <;> exact .pure (by cases n <;> rfl)
  | .tup ks, _, n, s, x, hk, hn => by
    cases x with
    | tup hg hc hd ha =>
      simp only [NestedKey.depth] at hn
      rw [numT] at hk
      cases n with
      | zero => omega
      | succ n => exact class_tuple hg hc hd (class_keys ks _ n s ha hk (by omega))
theorem class_keys : ∀ (ks : List NestedKey) (vs : List Value) (n : Nat) (s : Shared), NestedAll s.heap ks vs → numTs ks = true → NestedKey.depthAll ks ≤ n → ∀ v ∈ vs, Says P w (ofAClassStatement n) false s v
  | [], _, n, s, x, _, _, v, hv => by cases x; cases hv
  | k :: ks, _, n, s, x, hk, hn, v, hv => by
    cases x with
    | cons x1 x2 =>
      simp only [NestedKey.depthAll] at hn
      rw [numTs, Bool.and_eq_true] at hk
      rcases List.mem_cons.mp hv with e | hv
      · rw [e]; exact class_key k _ n s x1 hk.1 (by omega)
      · exact class_keys ks _ n s x2 hk.2 (by omega) v hv
end
mutual
theorem worth_key : ∀ (k : NestedKey) (v : Value) (n : Nat) (s : Shared), NestedIs s.heap k v → numT k = true → k.depth ≤ n → Says P w (hashByValue n) true s v
  | .none, _, n, s, x, hk, _ => by simp [numT] at hk
  | .text y, _, n, s, x, hk, _ => by simp [numT] at hk
  | .num i, _, n, s, x, _, _ => by cases x <;> exact .pure (by cases n <;> rfl)
  | .tup ks, _, n, s, x, hk, hn => by
    cases x with
    | tup hg hc hd ha =>
      simp only [NestedKey.depth] at hn
      rw [numT] at hk
      cases n with
      | zero => omega
      | succ n => exact worth_tuple hg hc hd (worth_keys ks _ n s ha hk (by omega))
theorem worth_keys : ∀ (ks : List NestedKey) (vs : List Value) (n : Nat) (s : Shared), NestedAll s.heap ks vs → numTs ks = true → NestedKey.depthAll ks ≤ n → ∀ v ∈ vs, Says P w (hashByValue n) true s v
  | [], _, n, s, x, _, _, v, hv => by cases x; cases hv
  | k :: ks, _, n, s, x, hk, hn, v, hv => by
    cases x with
    | cons x1 x2 =>
      simp only [NestedKey.depthAll] at hn
      rw [numTs, Bool.and_eq_true] at hk
      rcases List.mem_cons.mp hv with e | hv
      · rw [e]; exact worth_key k _ n s x1 hk.1 (by omega)
      · exact worth_keys ks _ n s x2 hk.2 (by omega) v hv
end
variable {A : Around} {s : Shared}
/-- no search among such elements shows the table -/
theorem en_unseen {k : NestedKey} {b : Addr} {Q : Bool → Shared → Prop} (hk : EN s.heap k b) {ys : List Value} (hy : ∀ y ∈ ys, ∃ k' c, y = Value.ref c ∧ EN s.heap k' c) (h : Q false s) :
    wpAny (model P w) A (searchCouldBeSeen (.ref b) ys) Q E s := by
  unfold searchCouldBeSeen
  refine wpAny_bind ?_
  refine wpAny_forIn_list _ (fun rest r s' => r.1 = none ∧ s' = s ∧ ∀ y ∈ rest, ∃ k' c, y = Value.ref c ∧ EN s.heap k' c) _ ?_ ?_ _ _ ⟨rfl, rfl, hy⟩
  · rintro v rest r s' ⟨hr, rfl, hall⟩
    obtain ⟨k', c, rfl, hc⟩ := hall v List.mem_cons_self
    have tl : ∀ y ∈ rest, ∃ k' c, y = Value.ref c ∧ EN s'.heap k' c := fun u hu => hall u (List.mem_cons_of_mem _ hu)
    dsimp only
    by_cases hv : (b == c || (carriedByValue (.ref b) && carriedByValue (.ref c))) = true
    · exact wp_if_pos hv (wpAny_pure ⟨rfl, rfl, tl⟩)
    · refine wp_if_neg hv ?_
      refine wpAny_bind (quiet_key k _ 8 s' hk.1 hk.2.1 _ _ _ ?_)
      simp only [Bool.not_true, Bool.false_eq_true, if_false]
      refine wpAny_bind (quiet_key k' _ 8 s' hc.1 hc.2.1 _ _ _ ?_)
      simp only [Bool.not_true, Bool.false_eq_true, if_false]
      refine wpAny_bind (class_key k _ 8 s' hk.1 hk.2.2 hk.2.1 _ _ _ ?_)
      simp only [Bool.false_eq_true, if_false]
      refine wpAny_bind (class_key k' _ 8 s' hc.1 hc.2.2 hc.2.1 _ _ _ ?_)
      simp only [Bool.false_eq_true, if_false]
      exact wpAny_pure ⟨rfl, rfl, tl⟩
  · rintro ⟨r1, r2⟩ s' ⟨hr, rfl, _⟩
    simp only at hr
    subst hr
    exact wpAny_pure h
theorem en_eq {x y : NestedKey} {a b : Addr} {Q : Bool → Shared → Prop} (hu : A.units + 8 < cLine) (hx : EN s.heap x a) (hy : EN s.heap y b) (h : Q (decide (x = y)) s) : wpAny (model P w) A (eqBool (.ref a) (.ref b)) Q E s :=
  eqAt_key x y A s _ _ hx.1 hy.1 (by have := hx.2.1; omega) _ _ _ _ (by rw [← NestedKey.decide_eq]; exact h)
end
end DL
namespace DL
open PySem PySem.Spec PyProof.Rows L2 Lk
abbrev Els := List (Addr × NestedKey)
def erow (w : World) (p : Addr × NestedKey) : Int × Value := (p.2.hash w, Value.ref p.1)
def ehs (w : World) (L : Els) : List Int := L.map fun p => p.2.hash w
structure SN (w : World) (h : Heap) (a : Addr) (L : Els) (es : Array (Int × Value)) (ep : Nat) (t : SetTable) : Prop where
  ob : ∃ o, h.get? a = some o ∧ o.ExactSet ∧ o.data = .set es ep t
  rows : es.toList = L.map (erow w)
  tab : TabOk t (ehs w L)
  nd : (L.map (·.2)).Nodup
  els : ∀ p ∈ L, EN h p.2 p.1
  plain : t.plain = true
  led : w.params.followText "set-order" = true ∨ t.led = true
  room : L.length * 5 < t.mask * 3
  few : L.length < 77
section
variable {P : Program} {w : World} {A : Around} {E : Value → Shared → Prop} {s : Shared} {a : Addr} {L : Els} {es : Array (Int × Value)} {ep : Nat} {t : SetTable}
theorem rows_size (h : es.toList = L.map (erow w)) : es.size = L.length := by
  have := congrArg List.length h
  rwa [Array.length_toList, List.length_map] at this
theorem rows_at (h : es.toList = L.map (erow w)) {i : Nat} {p : Addr × NestedKey} (e : L[i]? = some p) : es[i]? = some (erow w p) := by
  rw [← Array.getElem?_toList, h, List.getElem?_map, e]
  rfl
theorem SN.size {h : Heap} (R : SN w h a L es ep t) : es.size = L.length := rows_size R.rows
theorem place_size {h : Heap} (R : SN w h a L es ep t) : t.place.size = L.length := by
  have := R.tab.sz
  rwa [ehs, List.length_map] at this
theorem SN.fits {h : Heap} (R : SN w h a L es ep t) : t.fits es.size = true := by
  have h1 := place_size R
  have h2 := R.size
  have h3 := R.room
  unfold SetTable.fits SetTable.fill
  rw [R.tab.dm, Bool.and_eq_true, beq_iff_eq, decide_eq_true_eq]
  show t.place.size = es.size ∧ t.place.size + 0 ≤ t.mask
  omega
theorem SN.sound {h : Heap} (R : SN w h a L es ep t) : ¬ t.gaveWay = true := by
  unfold SetTable.gaveWay
  rw [mask_odd R.tab.mok]
  decide
/-- the probe at step c of the way of hash x -/
abbrev step (m : Nat) (x : Int) (c : Nat) : SetTable.Probe := nth m (runAt m (SetTable.bits x % (m + 1)) (SetTable.bits x)) c
theorem step_add (m : Nat) (x : Int) (c q : Nat) : nth m (step m x c) q = step m x (c + q) := (nth_add m c _ q).symm
theorem step_j (m : Nat) (x : Int) (c q : Nat) : (nth m (step m x c) q).j = way m x (c + q) := congrArg SetTable.Probe.j (step_add m x c q)
theorem adv_dummy {m : Nat} {p : SetTable.Probe} (h : p.dummy = none) : (adv m p).dummy = none := by
  unfold adv
  split <;> exact h
theorem nth_dummy (m : Nat) : ∀ (n : Nat) (p : SetTable.Probe), p.dummy = none → (nth m p n).dummy = none
  | 0, _, h => h
  | n + 1, p, h => nth_dummy m n (adv m p) (adv_dummy h)
/-- where the i-th element sits lies ahead: at step c or behind -/
def Ahead (w : World) (L : Els) (t : SetTable) (k : NestedKey) (K c : Nat) : Prop := ∀ (i : Nat) (p : Addr × NestedKey), L[i]? = some p → p.2 = k → ∃ c', c ≤ c' ∧ c' < K ∧ t.place.toList[i]? = some (way t.mask (k.hash w) c')
theorem look_from (R : SN w s.heap a L es ep t) {x : Addr} {k : NestedKey} (hx : EN s.heap k x) (hu : A.units + 8 < cLine) {K : Nat} (hf : K < 10 * SetTable.turns t.mask)
    (h1 : way t.mask (k.hash w) K ∉ t.place.toList) (h2 : ∀ c, c < K → way t.mask (k.hash w) c ∈ t.place.toList) {Q : SetFound → Shared → Prop}
    (yes : k ∈ L.map (·.2) → Q (.there none) s) (no : k ∉ L.map (·.2) → Q (.free (way t.mask (k.hash w) K) false) s) :
    ∀ (f c : Nat) (stand : Option SetTable.Probe), stand.getD (t.probeStart (k.hash w)) = step t.mask (k.hash w) c → c ≤ K → K - c < f → Ahead w L t k K c →
      wpAny (model P w) A (setSearchFrom a (.ref x) (k.hash w) true f stand) Q E s
  | 0, c, stand, _, _, hb, _ => absurd hb (Nat.not_lt_zero _)
  | f + 1, c, stand, hst, hc, hb, ahead => by
    obtain ⟨o, ho, hex, hd⟩ := R.ob
    rw [setSearchFrom_succ]
    refine wpAny_bind (wpAny_setState_of ho hd R.fits ?_)
    dsimp only
    refine wp_if_neg R.sound ?_
    try refine wpAny_bind (wpAny_pure ?_)
    have atI : ∀ {i : Nat} {p : Addr × NestedKey}, L[i]? = some p → (es[i]?.map (·.1)).getD 0 = p.2.hash w := fun {i p} e => by
      rw [rows_at R.rows e]
      rfl
    have ck : c + (K - c) = K := by omega
    rcases go_spec t R.tab.ris R.tab.dm (fun i => (es[i]?.map (·.1)).getD 0) (k.hash w) (10 * SetTable.turns t.mask) (K - c) (step t.mask (k.hash w) c) (nth_dummy _ _ _ rfl) (by omega)
      (fun q hq => by rw [step_j]; exact h2 (c + q) (by omega)) (by rw [step_j, ck]; exact h1) with ⟨q, i, hq, hi, _, before, hp⟩ | ⟨none_, hp⟩
    · rw [step_j] at hi
      have hp' : t.probe (fun i => (es[i]?.map (·.1)).getD 0) (k.hash w) (stand.getD (t.probeStart (k.hash w))) = some (.candidate (way t.mask (k.hash w) (c + q)) i (step t.mask (k.hash w) (c + (q + 1)))) := by
        rw [hst, ← step_j, ← step_add]
        exact hp
      rw [hp']
      dsimp only
      have il : i < L.length := by
        have u1 := (List.getElem?_eq_some_iff.mp hi).1
        rw [Array.length_toList, place_size R] at u1
        exact u1
      obtain ⟨p, hpi⟩ : ∃ p, L[i]? = some p := ⟨_, List.getElem?_eq_getElem il⟩
      have pm := List.mem_of_getElem? hpi
      have live : t.slot (way t.mask (k.hash w) (c + q)) = .live i := slot_live R.tab.ris hi
      have rest : wpAny (model P w) A (searchRest a (.ref x) (k.hash w) true f es t (way t.mask (k.hash w) (c + q)) i (step t.mask (k.hash w) (c + (q + 1)))) Q E s := by
        unfold searchRest
        rw [rows_at R.rows hpi]
        dsimp only [erow]
        refine wpAny_bind (wpAny_holding (en_eq hu (R.els p pm) hx ?_))
        refine wpAny_bind (wpAny_setState_of ho hd R.fits ?_)
        dsimp only
        by_cases e : p.2 = k
        · exact wp_if_pos (by simp [e]) (wpAny_pure (yes (List.mem_map.mpr ⟨p, pm, e⟩)))
        · refine wp_if_neg (by simp [e]) ?_
          try refine wpAny_bind (wpAny_pure ?_)
          rw [sameMem]
          dsimp only
          simp only [if_true, live, rows_at R.rows hpi]
          dsimp only [erow]
          refine wpAny_bind (wpAny_isSame_ref_self (wpAny_bind (wpAny_pure ?_)))
          simp only [if_true]
          refine wp_if_neg (by simp [e]) ?_
          refine look_from R hx hu hf h1 h2 yes no f (c + (q + 1)) _ rfl (by omega) (by omega) fun i0 p0 e0 ek => ?_
          obtain ⟨c', u1, u2, u3⟩ := ahead i0 p0 e0 ek
          refine ⟨c', ?_, u2, u3⟩
          rcases Nat.lt_trichotomy c' (c + q) with z | z | z
          · exact absurd ((atI e0).trans (by rw [ek])) (before (c' - c) i0 (by omega) (by rw [step_j, show c + (c' - c) = c' by omega]; exact u3))
          · rw [z] at u3
            have l0 := slot_live R.tab.ris u3
            rw [live] at l0
            injection l0 with l0
            rw [← l0, hpi] at e0
            cases e0
            exact absurd ek e
          · omega
      by_cases hl : t.led = true
      · refine wp_if_neg (by simp [hl]) ?_
        try refine wpAny_bind (wpAny_pure ?_)
        exact rest
      · refine wp_if_pos (by simp [hl]) ?_
        refine wpAny_bind (en_unseen hx (fun y hy => ?_) ?_)
        · obtain ⟨e, he, rfl⟩ := List.mem_map.mp hy
          have he2 : e ∈ es := (by simpa using he : e ∈ es ∧ _).1
          have he3 : e ∈ es.toList := by simpa using he2
          rw [R.rows] at he3
          obtain ⟨r, hr, rfl⟩ := List.mem_map.mp he3
          exact ⟨r.2, r.1, rfl, R.els r hr⟩
        · refine wp_if_neg (by decide) ?_
          try refine wpAny_bind (wpAny_pure ?_)
          exact rest
    · have hp' : t.probe (fun i => (es[i]?.map (·.1)).getD 0) (k.hash w) (stand.getD (t.probeStart (k.hash w))) = some (.empty (way t.mask (k.hash w) K) none) := by
        have e2 : way t.mask (k.hash w) K = (nth t.mask (step t.mask (k.hash w) c) (K - c)).j := by rw [step_j, ck]
        rw [hst, e2]
        exact hp
      rw [hp']
      dsimp only
      refine wpAny_pure (no fun hm => ?_)
      obtain ⟨p0, m0, ek⟩ := List.mem_map.mp hm
      obtain ⟨i0, e0⟩ := List.mem_iff_getElem?.mp m0
      obtain ⟨c', u1, u2, u3⟩ := ahead i0 p0 e0 ek
      exact none_ (c' - c) i0 (by omega) (by rw [step_j, show c + (c' - c) = c' by omega]; exact u3) ((atI e0).trans (by rw [ek]))
/-- the search for an element -/
theorem look (R : SN w s.heap a L es ep t) {x : Addr} {k : NestedKey} (hx : EN s.heap k x) (hu : A.units + 8 < cLine) {Q : SetFound → Shared → Prop}
    (yes : k ∈ L.map (·.2) → Q (.there none) s)
    (no : ∀ K, k ∉ L.map (·.2) → way t.mask (k.hash w) K ∉ t.place.toList → (∀ c, c < K → way t.mask (k.hash w) c ∈ t.place.toList) → Q (.free (way t.mask (k.hash w) K) false) s) :
    wpAny (model P w) A (setSearch a (.ref x) (k.hash w) true) Q E s := by
  have hroom := R.room
  obtain ⟨K, hf, h1, h2⟩ := R.tab.first (by rw [ehs, List.length_map]; omega) (k.hash w)
  have big : K < 100000 := by
    have : 10 * SetTable.turns t.mask ≤ 1420 := by
      unfold SetTable.turns
      rcases R.tab.mok with e | e | e <;> omega
    omega
  unfold setSearch
  refine look_from R hx hu hf h1 h2 yes (fun hn => no K hn h1 h2) 100000 0 none rfl (Nat.zero_le _) (by omega) fun i p e ek => ?_
  have hi : (ehs w L)[i]? = some (k.hash w) := by rw [ehs, List.getElem?_map, e, ← ek]; rfl
  have il : i < t.place.toList.length := by
    have := (List.getElem?_eq_some_iff.mp e).1
    rw [Array.length_toList, place_size R]
    exact this
  have hj := List.getElem?_eq_getElem il
  obtain ⟨c, hc, ec⟩ := R.tab.before h1 hi hj
  exact ⟨c, Nat.zero_le _, hc, by rw [hj, ec]⟩
/-- the rows in another order -/
theorem rows_order (hr : es.toList = L.map (erow w)) (order : Array Nat) (hp : order.toList.Perm (List.range L.length)) :
    ∃ M : Els, (order.filterMap (es[·]?)).toList = M.map (erow w) ∧ M.Perm L ∧ ehs w M = order.toList.map fun i => (es.map (·.1)).getD i 0 := by
  have each : ∀ l : List Nat, (∀ i ∈ l, i < L.length) → ∃ M : Els, l.filterMap (fun i => es[i]?) = M.map (erow w) ∧ M = l.filterMap (fun i => L[i]?) ∧ ehs w M = l.map fun i => (es.map (·.1)).getD i 0 := by
    intro l
    induction l with
    | nil => intro _; exact ⟨[], rfl, rfl, rfl⟩
    | cons i l ih =>
      intro hl
      obtain ⟨M, e1, e2, e3⟩ := ih fun j hj => hl j (List.mem_cons_of_mem _ hj)
      obtain ⟨p, hpi⟩ : ∃ p, L[i]? = some p := ⟨_, List.getElem?_eq_getElem (hl i List.mem_cons_self)⟩
      have ei := rows_at hr hpi
      refine ⟨p :: M, ?_, ?_, ?_⟩
      · rw [List.filterMap_cons_some ei, e1]
        rfl
      · rw [List.filterMap_cons_some hpi, e2]
      · rw [List.map_cons, ← e3]
        have e4 : (es.map (·.1)).getD i 0 = p.2.hash w := by
          have e5 : (es.map (·.1))[i]? = some (p.2.hash w) := by rw [Array.getElem?_map, ei]; rfl
          simp [Array.getD_eq_getD_getElem?, e5]
        rw [e4]
        rfl
  obtain ⟨M, e1, e2, e3⟩ := each order.toList fun i hi => List.mem_range.mp (hp.mem_iff.mp hi)
  refine ⟨M, by first | (rw [Array.toList_filterMap]; exact e1) | simpa using e1, ?_, e3⟩
  have whole : ∀ n, n ≤ L.length → (List.range n).filterMap (fun i => L[i]?) = L.take n := by
    intro n
    induction n with
    | zero => intro _; rfl
    | succ n ih =>
      intro hn
      have e := List.getElem?_eq_getElem (show n < L.length from hn)
      rw [List.range_succ, List.filterMap_append, ih (Nat.le_of_succ_le hn), List.take_succ, e, List.filterMap_cons_some e]
      rfl
  have q := hp.filterMap fun i => L[i]?
  rw [whole _ (Nat.le_refl _), List.take_length, ← e2] at q
  exact q
/-- the table laid anew -/
theorem relay (P : Program) {A : Around} {E : Value → Shared → Prop} {o : Obj} (ho : s.heap.get? a = some o) (hex : o.ExactSet) (hd : o.data = .set es ep t) (hr : es.toList = L.map (erow w)) (hsz : t.place.size = es.size) (hdm : t.dummies = #[]) (hfl : es.size ≤ t.mask)
    (nd : (L.map (·.2)).Nodup) (els : ∀ p ∈ L, EN s.heap p.2 p.1) (pl : t.plain = true) (ld : w.params.followText "set-order" = true ∨ t.led = true) (few : L.length < 77) {wanted m : Nat}
    (hw : SetTable.sizeAbove wanted = m + 1) (hm : MaskOk m) (hn : L.length * 5 < m * 3) {Q : Unit → Shared → Prop}
    (hQ : ∀ h' M es' ep' t', Heap.SameBut a s.heap h' → SN w h' a M es' ep' t' → M.Perm L → Q () { s with heap := h' }) : wpAny (model P w) A (setRelay a wanted) Q E s := by
  have hsl := rows_size hr
  have m128 : m + 1 ≤ 128 := by rcases hm with e | e | e <;> omega
  have fits : t.fits es.size = true := by
    unfold SetTable.fits SetTable.fill
    rw [hdm, Bool.and_eq_true, beq_iff_eq, decide_eq_true_eq]
    show t.place.size = es.size ∧ t.place.size + 0 ≤ t.mask
    omega
  obtain ⟨t', order, e, hp, T, em, el, epl, _⟩ := relaid_ok t (hs := es.map (·.1)) (wanted := wanted) (M := m) (by omega) hm (by rw [Array.size_map, hsl]; omega)
  rw [Array.size_map, hsl] at hp
  obtain ⟨M, r1, r2, r3⟩ := rows_order hr order hp
  rw [← r3] at T
  have s2 : (order.filterMap (es[·]?)).size = es.size := by rw [rows_size r1, r2.length_eq, hsl]
  rw [setRelay_eq]
  refine wpAny_bind (wpAny_setState_of ho hd fits ?_)
  dsimp only
  refine wp_if_neg (by rw [sizeLine_eq]; omega) ?_
  try refine wpAny_bind (wpAny_pure ?_)
  rw [e]
  dsimp only
  refine wpAny_bind ?_
  refine wp_if_neg (by rw [s2]; simp) ?_
  try refine wpAny_bind (wpAny_pure ?_)
  refine wpAny_pure ?_
  dsimp only
  refine wpAny_storeSet_of ho hd ?_ (by rw [s2, hsl, sizeLine_eq]; omega)
  have sb : Heap.SameBut a s.heap (s.heap.update a (Obj.putSet (order.filterMap (es[·]?)) t')) := Heap.SameBut.update ..
  refine hQ _ M _ (ep + 1) t' sb ⟨⟨_, store_at ho hd, ⟨hex.1, hex.2.1, hex.2.2⟩, rfl⟩, r1, T, (r2.map (·.2)).nodup_iff.mpr nd, fun p hp => (els p (r2.mem_iff.mp hp)).but ho hd sb, by rw [epl]; exact pl, by rw [el]; exact ld, by rw [r2.length_eq, em]; exact hn, by rw [r2.length_eq]; exact few⟩ r2
/-- an element put in -/
theorem put_in (R : SN w s.heap a L es ep t) {x : Addr} {k : NestedKey} (hx : EN s.heap k x) (hu : A.units + 8 < cLine) (few : k ∉ L.map (·.2) → L.length + 1 < 77) {Q : Bool → Shared → Prop}
    (hQ : ∀ b h' M es' ep' t', Heap.SameBut a s.heap h' → SN w h' a M es' ep' t' → (k ∈ L.map (·.2) → M = L) → (k ∉ L.map (·.2) → M.Perm ((x, k) :: L)) → Q b { s with heap := h' }) :
    wpAny (model P w) A (setAddHashed a (.ref x) (k.hash w)) Q E s := by
  obtain ⟨o, ho, hex, hd⟩ := R.ob
  have hsl := R.size
  have hroom := R.room
  unfold setAddHashed
  refine wpAny_holding ?_
  rw [show (100000 : Nat) = 99999 + 1 from rfl, setAddHashedIn_succ]
  refine wpAny_bind (wpAny_setState_of ho hd R.fits ?_)
  dsimp only
  refine wp_if_neg (by simp [byScan, Value.scannable]) ?_
  try refine wpAny_bind (wpAny_pure ?_)
  refine wpAny_bind (look R hx hu (fun hm => ?_) fun K hm hK hb => ?_)
  · dsimp only
    exact wpAny_pure (hQ false s.heap L es ep t (Heap.SameBut.refl a s.heap) R (fun _ => rfl) fun z => absurd hm z)
  · have few' := few hm
    dsimp only
    refine wpAny_bind (wpAny_setState_of ho hd R.fits ?_)
    dsimp only
    obtain ⟨q1, q2, q3, q4, q5, q6, _, _, q9⟩ := R.tab.put hK hb
    have hpl : (t.put (way t.mask (k.hash w) K)).1.plain = true := by rw [q6]; exact R.plain
    generalize t.put (way t.mask (k.hash w) K) = pt at q1 q3 q4 q5 q6 q9 hpl ⊢
    obtain ⟨t1, p0⟩ := pt
    dsimp only at q1 q3 q4 q5 q6 q9 hpl ⊢
    subst q1
    have wk := worth_key (P := P) (w := w) k (.ref x) 8 s hx.1 hx.2.2 hx.2.1
    first
      | (refine wpAny_bind ?_; refine wp_if_pos hpl ?_; refine wk _ _ _ ?_)
      | refine wp_if_pos hpl (wpAny_bind (wk _ _ _ ?_))
    simp only [if_true]
    have hin : (SetTable.insertAt es (SetTable.below t.place (way t.mask (k.hash w) K)) (k.hash w, Value.ref x)).toList = (L.take (SetTable.below t.place (way t.mask (k.hash w) K)) ++ (x, k) :: L.drop (SetTable.below t.place (way t.mask (k.hash w) K))).map (erow w) := by
      rw [SetTable.toList_insertAt, R.rows, List.map_append, List.map_cons, List.map_take, List.map_drop]
      rfl
    generalize SetTable.below t.place (way t.mask (k.hash w) K) = p at q2 q3 hin ⊢
    have pm := put_perm L p (x, k)
    have hhs : ehs w (L.take p ++ (x, k) :: L.drop p) = (ehs w L).take p ++ k.hash w :: (ehs w L).drop p := by
      unfold ehs
      rw [List.map_append, List.map_cons, List.map_take, List.map_drop]
    rw [← hhs] at q3
    generalize L.take p ++ (x, k) :: L.drop p = L1 at pm q3 hin
    have l1 : L1.length = L.length + 1 := pm.length_eq
    have nd1 : (L1.map (·.2)).Nodup := by
      refine (pm.map (·.2)).nodup_iff.mpr ?_
      rw [List.map_cons]
      exact List.nodup_cons.mpr ⟨hm, R.nd⟩
    have hes := rows_size hin
    generalize SetTable.insertAt es p (k.hash w, Value.ref x) = es1 at hin hes ⊢
    refine wpAny_bind (wpAny_storeSet_of ho hd ?_ (by rw [hes, sizeLine_eq]; omega))
    have sb : Heap.SameBut a s.heap (s.heap.update a (Obj.putSet es1 t1)) := Heap.SameBut.update ..
    have ho1 := store_at (es' := es1) (t' := t1) ho hd
    generalize s.heap.update a (Obj.putSet es1 t1) = h1 at sb ho1 ⊢
    have els1 : ∀ p ∈ L1, EN h1 p.2 p.1 := fun p hp => by
      rcases List.mem_cons.mp (pm.mem_iff.mp hp) with e | hp
      · rw [e]; exact hx.but ho hd sb
      · exact (R.els p hp).but ho hd sb
    have ld1 : w.params.followText "set-order" = true ∨ t1.led = true := by rw [q5]; exact R.led
    have lh : (ehs w L).length = L.length := by rw [ehs, List.length_map]
    by_cases hf : t1.tooFull = true
    · first
        | (refine wpAny_bind ?_; refine wp_if_pos (by simp [hf]) ?_)
        | (refine wp_if_pos (by simp [hf]) ?_; refine wpAny_bind ?_)
      have full : (L.length + 1) * 5 ≥ t1.mask * 3 := by
        have h := hf
        unfold SetTable.tooFull at h
        rw [decide_eq_true_eq, q9, lh] at h
        exact h
      rw [hsl]
      have hsz1 : t1.place.size = es1.size := by
        have h := q3.sz
        rw [ehs, List.length_map] at h
        rw [h, hes]
      have go : ∀ m, SetTable.sizeAbove (SetTable.grown (L.length + 1)) = m + 1 → MaskOk m → L1.length ≤ t1.mask → (L.length + 1) * 5 < m * 3 →
          wpAny (model P w) A (setRelay a (SetTable.grown (L.length + 1))) (fun _ s' => wpAny (model P w) A (pure true) Q E s') E { s with heap := h1 } := fun m e1 e2 e3 e4 => by
        refine relay P (s := { s with heap := h1 }) ho1 ⟨hex.1, hex.2.1, hex.2.2⟩ rfl hin hsz1 q3.dm (by rw [hes]; exact e3) nd1 els1 hpl ld1 (by omega) e1 e2 (by omega) ?_
        intro h2 L2 es2 ep2 t2 sb2 R2 pm2
        exact wpAny_pure (hQ true h2 L2 es2 ep2 t2 (sb.trans sb2) R2 (fun z => absurd z hm) fun _ => pm2.trans pm)
      rcases R.tab.mok with e | e | e
      · have e4 : L.length = 4 := by rw [q4, e] at full; rw [e] at hroom; omega
        exact go 31 (by rw [e4, size_20]) (.inr (.inl rfl)) (by rw [q4, e, l1]; omega) (by omega)
      · have e4 : L.length = 18 := by rw [q4, e] at full; rw [e] at hroom; omega
        exact go 127 (by rw [e4, size_76]) (.inr (.inr rfl)) (by rw [q4, e, l1]; omega) (by omega)
      · exfalso
        rw [q4, e] at full
        omega
    · first
        | refine wp_if_neg (by simp [hf]) ?_
        | (refine wpAny_bind ?_; refine wp_if_neg (by simp [hf]) ?_; refine wpAny_pure ?_)
      refine wpAny_pure (hQ true h1 L1 es1 (ep + 1) t1 sb ⟨⟨_, ho1, ⟨hex.1, hex.2.1, hex.2.2⟩, rfl⟩, hin, q3, nd1, els1, hpl, ld1, ?_, by omega⟩ (fun z => absurd z hm) fun _ => pm)
      have h := hf
      unfold SetTable.tooFull at h
      rw [decide_eq_true_eq, q9, lh] at h
      rw [l1]
      omega
end
end DL
namespace DL
open PySem PySem.Spec PyProof.Rows L2 Lk
abbrev dlt (x y : PyData) : Bool := PySem.W.dataLt x y
theorem dlt_irr (x : PyData) : dlt x x = false := lex_irrefl _
theorem dlt_tr {x y z : PyData} (h1 : dlt x y = true) (h2 : dlt y z = true) : dlt x z = true := lex_trans _ _ _ h1 h2
mutual
theorem keyN_eqv : ∀ {x y : PyData} {k l : NestedKey}, keyN x = some k → keyN y = some l → PyData.eqv x y = true → x = y
  | .int i, y, k, l, h, h', e => by
    cases y with
    | int j =>
      simp only [PyData.eqv, beq_iff_eq] at e
      rw [e]
    | tuple _ => simp [PyData.eqv] at e
    | none => simp [keyN] at h'
    | bool _ => simp [keyN] at h'
    | str _ => simp [keyN] at h'
    | list _ => simp [keyN] at h'
    | dict _ => simp [keyN] at h'
  | .tuple ds, y, k, l, h, h', e => by
    cases y with
    | tuple es =>
      rw [keyN] at h h'
      obtain ⟨ks, h1, _⟩ := Option.map_eq_some_iff.mp h
      obtain ⟨ls, h2, _⟩ := Option.map_eq_some_iff.mp h'
      rw [PyData.eqv] at e
      rw [keyNs_eqv h1 h2 e]
    | int _ => simp [PyData.eqv] at e
    | none => simp [keyN] at h'
    | bool _ => simp [keyN] at h'
    | str _ => simp [keyN] at h'
    | list _ => simp [keyN] at h'
    | dict _ => simp [keyN] at h'
  | .none, y, k, l, h, h', e => by simp [keyN] at h
  | .bool _, y, k, l, h, h', e => by simp [keyN] at h
  | .str _, y, k, l, h, h', e => by simp [keyN] at h
  | .list _, y, k, l, h, h', e => by simp [keyN] at h
  | .dict _, y, k, l, h, h', e => by simp [keyN] at h
theorem keyNs_eqv : ∀ {x y : List PyData} {k l : List NestedKey}, keyNs x = some k → keyNs y = some l → PyData.eqvAll x y = true → x = y
  | [], y, k, l, h, h', e => by
    cases y with
    | nil => rfl
    | cons _ _ => simp [PyData.eqvAll] at e
  | d :: ds, y, k, l, h, h', e => by
    cases y with
    | nil => simp [PyData.eqvAll] at e
    | cons c cs =>
      rw [keyNs] at h h'
      obtain ⟨a, h1, h2⟩ := Option.bind_eq_some_iff.mp h
      obtain ⟨as, h3, _⟩ := Option.map_eq_some_iff.mp h2
      obtain ⟨b, h4, h5⟩ := Option.bind_eq_some_iff.mp h'
      obtain ⟨bs, h6, _⟩ := Option.map_eq_some_iff.mp h5
      rw [PySem.W.eqv_all_cons, Bool.and_eq_true] at e
      rw [keyN_eqv h1 h4 e.1, keyNs_eqv h3 h6 e.2]
end
mutual
theorem data_keyN : ∀ {d : PyData} {k : NestedKey}, keyN d = some k → k.data = d
  | .int i, k, h => by
    rw [keyN] at h
    cases h
    rw [NestedKey.data]
  | .tuple ds, k, h => by
    rw [keyN] at h
    obtain ⟨ks, h1, rfl⟩ := Option.map_eq_some_iff.mp h
    rw [NestedKey.data, datas_keyN h1]
  | .none, k, h => by simp [keyN] at h
  | .bool _, k, h => by simp [keyN] at h
  | .str _, k, h => by simp [keyN] at h
  | .list _, k, h => by simp [keyN] at h
  | .dict _, k, h => by simp [keyN] at h
theorem datas_keyN : ∀ {ds : List PyData} {ks : List NestedKey}, keyNs ds = some ks → NestedKey.datas ks = ds
  | [], ks, h => by
    rw [keyNs] at h
    cases h
    rw [NestedKey.datas]
  | d :: ds, ks, h => by
    rw [keyNs] at h
    obtain ⟨k, h1, h2⟩ := Option.bind_eq_some_iff.mp h
    obtain ⟨ks', h3, rfl⟩ := Option.map_eq_some_iff.mp h2
    rw [NestedKey.datas, data_keyN h1, datas_keyN h3]
end
mutual
/-- numbers and tuples read off no list -/
theorem keyN_reads {h : Heap} : ∀ {d : PyData} {k : NestedKey} {v : Value} {as : List Addr}, keyN d = some k → Reads h v d as → as = []
  | .int i, k, v, as, _, r => by cases r; rfl
  | .tuple ds, k, v, as, hk, r => by
    rw [keyN] at hk
    obtain ⟨ks, h1, _⟩ := Option.map_eq_some_iff.mp hk
    cases r with
    | tuple _ _ _ ra => exact keyNs_reads h1 ra
  | .none, k, _, _, hk, _ => by simp [keyN] at hk
  | .bool _, k, _, _, hk, _ => by simp [keyN] at hk
  | .str _, k, _, _, hk, _ => by simp [keyN] at hk
  | .list _, k, _, _, hk, _ => by simp [keyN] at hk
  | .dict _, k, _, _, hk, _ => by simp [keyN] at hk
theorem keyNs_reads {h : Heap} : ∀ {ds : List PyData} {ks : List NestedKey} {vs : List Value} {as : List Addr}, keyNs ds = some ks → ReadsAll h vs ds as → as = []
  | [], ks, vs, as, _, r => by cases r; rfl
  | d :: ds, ks, vs, as, hk, r => by
    rw [keyNs] at hk
    obtain ⟨k, h1, h2⟩ := Option.bind_eq_some_iff.mp hk
    obtain ⟨ks', h3, _⟩ := Option.map_eq_some_iff.mp h2
    cases r with
    | cons a b =>
      rw [keyN_reads h1 a, keyNs_reads h3 b]
      rfl
end
theorem toks_inj {x y : PyData} {k l : NestedKey} (al : PySem.W.alike x y = true) (hx : keyN x = some k) (hy : keyN y = some l) (e : PySem.W.keyToks x = PySem.W.keyToks y) : x = y := by
  cases ev : PyData.eqv x y with
  | true => exact keyN_eqv hx hy ev
  | false =>
    have q := (PySem.W.toks_eqv x y al).2 ev [] [.inl 0]
    rw [e, PySem.W.lex_pre, lex_irrefl] at q
    exact absurd q (by decide)
theorem dlt_tri {x y : PyData} {k l : NestedKey} (al : PySem.W.alike x y = true) (hx : keyN x = some k) (hy : keyN y = some l) (h1 : dlt x y = false) (h2 : dlt y x = false) : x = y :=
  toks_inj al hx hy (lex_total _ _ h1 h2)
def insN (k : PyData) : List PyData → List PyData
  | [] => [k]
  | x :: xs => if dlt k x = true then k :: x :: xs else if dlt x k = true then x :: insN k xs else x :: xs
def ordN (l : List PyData) : List PyData := l.foldl (fun a k => insN k a) []
/-- data of which no two unlike ones stand level -/
def Level (G : PyData → Prop) : Prop := ∀ x y, G x → G y → dlt x y = false → dlt y x = false → x = y
theorem mem_insN {G : PyData → Prop} (T : Level G) {k j : PyData} (hk : G k) : ∀ {l : List PyData}, (∀ x ∈ l, G x) → (j ∈ insN k l ↔ j = k ∨ j ∈ l)
  | [], _ => by simp [insN]
  | x :: xs, h => by
    rw [insN]
    split
    · simp
    · split
      · rw [List.mem_cons, mem_insN T hk fun y hy => h y (List.mem_cons_of_mem _ hy), List.mem_cons]
        constructor
        · rintro (h | h | h)
          · exact .inr (.inl h)
          · exact .inl h
          · exact .inr (.inr h)
        · rintro (h | h | h)
          · exact .inr (.inl h)
          · exact .inl h
          · exact .inr (.inr h)
      · rename_i h1 h2
        have e : k = x := T k x hk (h x List.mem_cons_self) (by simpa using h1) (by simpa using h2)
        subst e
        simp
theorem insN_up {G : PyData → Prop} (T : Level G) {k : PyData} (hk : G k) : ∀ {l : List PyData}, (∀ x ∈ l, G x) → l.Pairwise (fun x y => dlt x y = true) → (insN k l).Pairwise (fun x y => dlt x y = true)
  | [], _, _ => by simp [insN]
  | x :: xs, hG, h => by
    have h' := List.pairwise_cons.mp h
    rw [insN]
    split
    · rename_i hk'
      refine List.pairwise_cons.mpr ⟨fun y hy => ?_, h⟩
      rcases List.mem_cons.mp hy with e | hy
      · rw [e]; exact hk'
      · exact dlt_tr hk' (h'.1 y hy)
    · split
      · rename_i h2
        refine List.pairwise_cons.mpr ⟨fun y hy => ?_, insN_up T hk (fun y hy => hG y (List.mem_cons_of_mem _ hy)) h'.2⟩
        rcases (mem_insN T hk fun y hy => hG y (List.mem_cons_of_mem _ hy)).mp hy with e | hy
        · rw [e]; exact h2
        · exact h'.1 y hy
      · exact h
theorem foldN {G : PyData → Prop} (T : Level G) : ∀ (l a : List PyData), (∀ x ∈ l, G x) → (∀ x ∈ a, G x) → a.Pairwise (fun x y => dlt x y = true) →
    (l.foldl (fun a k => insN k a) a).Pairwise (fun x y => dlt x y = true) ∧ ∀ j, j ∈ l.foldl (fun a k => insN k a) a ↔ j ∈ a ∨ j ∈ l
  | [], a, _, _, h => ⟨h, fun j => by simp⟩
  | k :: l, a, hl, ha, h => by
    have hk := hl k List.mem_cons_self
    obtain ⟨h1, h2⟩ := foldN T l (insN k a) (fun x hx => hl x (List.mem_cons_of_mem _ hx)) (fun x hx => by
      rcases (mem_insN T hk ha).mp hx with e | hx
      · rw [e]; exact hk
      · exact ha x hx) (insN_up T hk ha h)
    refine ⟨h1, fun j => ?_⟩
    rw [List.foldl_cons, h2, mem_insN T hk ha, List.mem_cons]
    constructor
    · rintro ((h | h) | h)
      · exact .inr (.inl h)
      · exact .inl h
      · exact .inr (.inr h)
    · rintro (h | h | h)
      · exact .inl (.inr h)
      · exact .inl (.inl h)
      · exact .inr h
theorem up_uniq : ∀ {l m : List PyData}, l.Pairwise (fun x y => dlt x y = true) → m.Pairwise (fun x y => dlt x y = true) → (∀ j, j ∈ l ↔ j ∈ m) → l = m
  | [], [], _, _, _ => rfl
  | [], x :: _, _, _, h => absurd ((h x).mpr List.mem_cons_self) (by simp)
  | x :: _, [], _, _, h => absurd ((h x).mp List.mem_cons_self) (by simp)
  | x :: l, y :: m, h1, h2, h => by
    have h1' := List.pairwise_cons.mp h1
    have h2' := List.pairwise_cons.mp h2
    have no : ∀ {a b : PyData}, dlt a b = true → dlt b a = true → False := fun {a b} p q => by
      have := dlt_tr p q
      rw [dlt_irr] at this
      cases this
    have ne : ∀ {a : PyData}, dlt a a = true → False := fun {a} p => by
      rw [dlt_irr] at p
      cases p
    have e : x = y := by
      rcases List.mem_cons.mp ((h x).mp List.mem_cons_self) with e | e
      · exact e
      · rcases List.mem_cons.mp ((h y).mpr List.mem_cons_self) with e' | e'
        · exact e'.symm
        · exact (no (h1'.1 y e') (h2'.1 x e)).elim
    subst e
    rw [up_uniq h1'.2 h2'.2 fun j => ⟨fun hj => by
      rcases List.mem_cons.mp ((h j).mp (List.mem_cons_of_mem _ hj)) with e | e
      · rw [e] at hj
        exact (ne (h1'.1 x hj)).elim
      · exact e, fun hj => by
      rcases List.mem_cons.mp ((h j).mpr (List.mem_cons_of_mem _ hj)) with e | e
      · rw [e] at hj
        exact (ne (h2'.1 x hj)).elim
      · exact e⟩]
def okN1 : PyData → Bool
  | .tuple (x :: r) => match keyN (.tuple (x :: r)) with
    | some k => decide (k.depth ≤ 8) && decide (PyData.depth (.tuple (x :: r)) ≤ 8)
    | none => false
  | _ => false
def okN (ds : List PyData) : Bool := ds.all okN1 && ds.all fun x => ds.all fun y => PySem.W.alike x y
theorem okN1_some {d : PyData} (h : okN1 d = true) : ∃ k x r, d = .tuple (x :: r) ∧ keyN d = some k ∧ k.depth ≤ 8 ∧ d.depth ≤ 8 := by
  unfold okN1 at h
  split at h
  · rename_i x r
    split at h
    · rename_i k hk
      rw [Bool.and_eq_true, decide_eq_true_eq, decide_eq_true_eq] at h
      exact ⟨k, x, r, rfl, hk, h.1, h.2⟩
    · cases h
  · cases h
theorem okN_all {ds : List PyData} (h : okN ds = true) : (∀ d ∈ ds, okN1 d = true) ∧ ∀ x ∈ ds, ∀ y ∈ ds, PySem.W.alike x y = true := by
  unfold okN at h
  rw [Bool.and_eq_true, List.all_eq_true, List.all_eq_true] at h
  exact ⟨h.1, fun x hx => List.all_eq_true.mp (h.2 x hx)⟩
theorem okN_level {ds : List PyData} (h : okN ds = true) : Level (· ∈ ds) := by
  obtain ⟨h1, h2⟩ := okN_all h
  intro x y hx hy a b
  obtain ⟨k, _, _, _, kx, _⟩ := okN1_some (h1 x hx)
  obtain ⟨l, _, _, _, ly, _⟩ := okN1_some (h1 y hy)
  exact dlt_tri (h2 x hx y hy) kx ly a b
theorem ordN_up {ds : List PyData} (h : okN ds = true) : (ordN ds).Pairwise (fun x y => dlt x y = true) := (foldN (okN_level h) ds [] (fun _ h => h) (fun _ h => by simp at h) List.Pairwise.nil).1
theorem mem_ordN {ds : List PyData} (h : okN ds = true) {d : PyData} : d ∈ ordN ds ↔ d ∈ ds := by
  rw [show ordN ds = ds.foldl (fun a k => insN k a) [] from rfl, (foldN (okN_level h) ds [] (fun _ h => h) (fun _ h => by simp at h) List.Pairwise.nil).2 d]
  simp
def sortNM : PyData → Option (List PyData)
  | .list ds => if okN ds = true ∧ (ordN ds).length < 77 then some (ordN ds) else none
  | _ => none
theorem ordN_is {ds R : List PyData} (h : okN ds = true) (up : R.Pairwise (fun x y => dlt x y = true)) (m : ∀ d, d ∈ R ↔ d ∈ ds) : ordN ds = R := up_uniq (ordN_up h) up fun j => by rw [mem_ordN h, m]
theorem sortNM_is {ds R : List PyData} (h : okN ds = true) (up : R.Pairwise (fun x y => dlt x y = true)) (m : ∀ d, d ∈ R ↔ d ∈ ds) (few : R.length < 77) : sortNM (.list ds) = some R := by
  have e := ordN_is h up m
  show (if okN ds = true ∧ (ordN ds).length < 77 then some (ordN ds) else none) = some R
  rw [e, if_pos ⟨h, few⟩]
def mSortN (m : M PyData) : M (List PyData) := m.bind fun d => M.lift (sortNM d)
@[simp] theorem e_sortN {m : M PyData} {r : En} : mSortN m r = M.bind m (fun d => M.lift (sortNM d)) r := rfl
/-- one list within another, its items unlike, is no longer -/
theorem nodup_within {α : Type} [DecidableEq α] : ∀ (l m : List α), l.Nodup → (∀ x ∈ l, x ∈ m) → l.length ≤ m.length
  | [], _, _, _ => Nat.zero_le _
  | x :: l, m, hn, hs => by
    obtain ⟨h1, h2⟩ := List.nodup_cons.mp hn
    have hx : x ∈ m := hs x List.mem_cons_self
    have ih := nodup_within l (m.erase x) h2 fun y hy => (List.mem_erase_of_ne (fun e => h1 (by rw [← e]; exact hy))).2 (hs y (List.mem_cons_of_mem _ hy))
    have e := List.length_erase_of_mem hx
    have hp : 0 < m.length := List.length_pos_of_mem hx
    rw [List.length_cons]
    omega
end DL
namespace DL
open PySem PySem.Spec PyProof.Rows L2 Lk
/-- what the set has of the first i -/
structure Gt (ks : Els) (i : Nat) (L : Els) : Prop where
  sub : ∀ p ∈ L, p ∈ ks.take i
  all : ∀ p ∈ ks.take i, p.2 ∈ L.map (·.2)
theorem Gt.zero (ks : Els) : Gt ks 0 [] := ⟨fun p h => (by cases h), fun p h => (by simp at h)⟩
theorem Gt.same {ks L : Els} {i : Nat} {x : Addr × NestedKey} (g : Gt ks i L) (h : ks[i]? = some x) (hm : x.2 ∈ L.map (·.2)) : Gt ks (i + 1) L := by
  have e : ks.take (i + 1) = ks.take i ++ [x] := take_next h
  refine ⟨fun p hp => by rw [e]; exact List.mem_append_left _ (g.sub p hp), fun p hp => ?_⟩
  rw [e] at hp
  rcases List.mem_append.mp hp with z | z
  · exact g.all p z
  · rw [List.mem_singleton.mp z]; exact hm
theorem Gt.more {ks L M : Els} {i : Nat} {x : Addr × NestedKey} (g : Gt ks i L) (h : ks[i]? = some x) (pm : M.Perm (x :: L)) : Gt ks (i + 1) M := by
  have e : ks.take (i + 1) = ks.take i ++ [x] := take_next h
  refine ⟨fun p hp => ?_, fun p hp => ?_⟩
  · rw [e]
    rcases List.mem_cons.mp (pm.mem_iff.mp hp) with z | z
    · rw [z]; exact List.mem_append_right _ List.mem_cons_self
    · exact List.mem_append_left _ (g.sub p z)
  · rw [(pm.map (·.2)).mem_iff, List.map_cons]
    rw [e] at hp
    rcases List.mem_append.mp hp with z | z
    · exact List.mem_cons_of_mem _ (g.all p z)
    · rw [List.mem_singleton.mp z]; exact List.mem_cons_self
/-- less than 77 unlike keys -/
def Few (ks : Els) : Prop := ∀ M : List NestedKey, M.Nodup → (∀ k ∈ M, k ∈ ks.map (·.2)) → M.length < 77
section
variable {P : Program} {w : World} {A : Around} {E : Value → Shared → Prop} {s : Shared}
theorem SN.moves {h h' : Heap} {a : Addr} {L : Els} {es : Array (Int × Value)} {ep : Nat} {t : SetTable} (R : SN w h a L es ep t) (ha : ∀ o, h.get? a = some o → h'.get? a = some o) (hl : ∀ p ∈ L, EN h' p.2 p.1) : SN w h' a L es ep t := by
  obtain ⟨o, ho, r⟩ := R.ob
  exact ⟨⟨o, ha o ho, r⟩, R.rows, R.tab, R.nd, hl, R.plain, R.led, R.room, R.few⟩
theorem sn_fresh {h : Heap} {a : Addr} (ho : h.get? a = some { cls := .type "set", dict := none, data := .set #[] 0 (.fresh 0 0 (!w.params.followText "set-order")) }) : SN w h a [] #[] 0 (.fresh 0 0 (!w.params.followText "set-order")) where
  ob := ⟨_, ho, ⟨rfl, rfl, rfl⟩, rfl⟩
  rows := rfl
  tab := ⟨List.Pairwise.nil, rfl, rfl, .inl rfl, fun x hx => (by cases hx), fun i h j hi => (by simp [ehs] at hi)⟩
  nd := List.nodup_nil
  els := fun p hp => (by cases hp)
  plain := rfl
  led := by
    show _ ∨ (!w.params.followText "set-order") = true
    cases w.params.followText "set-order"
    · exact .inr rfl
    · exact .inl rfl
  room := by
    show 0 * 5 < 7 * 3
    decide
  few := by decide
theorem fill_sn {R : Result → Shared → Prop} {I : Addr} {fp wr : List Addr} {G : Array GenState → Array GenState → Prop} {Pv : Nat → Value → Prop} {St : Nat → Shared → Prop} {ks : Els} (W : WalksS P w A.in1 I fp wr G ks.length Pv St) (S : Addr) (hSf : S ∉ fp)
    (hval : ∀ i v, Pv i v → ∃ p, ks[i]? = some p ∧ v = .ref p.1) (few : Few ks) (h0 : Heap) (hk : ∀ p ∈ ks, EN h0 p.2 p.1) (hS0 : h0.get? S = none) (hw0 : ∀ b ∈ wr, h0.get? b = none) (hu : A.in1.units + 8 < cLine) :
    ∀ (n i : Nat) (s : Shared), ks.length - i = n → i ≤ ks.length → St i s → (∀ b o, h0.get? b = some o → s.heap.get? b = some o) → (∃ L es ep t, SN w s.heap S L es ep t ∧ Gt ks i L) →
      (∀ s' L es ep t, Moved (S :: wr) G s s' → SN w s'.heap S L es ep t → Gt ks ks.length L → (∀ b o, h0.get? b = some o → s'.heap.get? b = some o) → R (.ok (.ret .none)) s') →
      codeAny (model P w) A (.builtin "set.update.loop" ⟨[.ref S, .ref I], []⟩) R s := by
  have off : S ∉ wr := fun h => hSf (W.sub _ h)
  have inc : ∀ b ∈ wr, b ∈ S :: wr := fun b hb => List.mem_cons_of_mem _ hb
  have still : ∀ {s s' : Shared}, Moved wr G s s' → (∀ b o, h0.get? b = some o → s.heap.get? b = some o) → ∀ b o, h0.get? b = some o → s'.heap.get? b = some o := fun hm kp b o e =>
    hm.heap b o (fun z => by rw [hw0 b z] at e; cases e) (kp b o e)
  intro n
  induction n with
  | zero =>
    intro i s hn hi hst kp ⟨L, es, ep, t, hS, g⟩ hR
    obtain rfl : i = ks.length := by omega
    refine codeAny_builtin F.entry_set_update_loop ?_
    rw [Around.under_plainId F.plain_set_update_loop _]
    show wpAny _ A.in1 (pyNext (.ref I) >>= _) _ _ s
    refine wpAny_bind (W.done s _ _ hst fun s' hm => ?_)
    show wpAny _ A.in1 (ret Value.none) _ _ s'
    have kp' := still hm kp
    exact wpAny_pure (hR s' L es ep t (hm.mono inc) (hS.moves (fun o ho => hm.heap S _ off ho) fun p hp => (hk p (List.mem_of_mem_take (g.sub p hp))).keep kp') g kp')
  | succ n ih =>
    intro i s hn hi hst kp ⟨L, es, ep, t, hS, g⟩ hR
    have hlt : i < ks.length := by omega
    refine codeAny_builtin F.entry_set_update_loop ?_
    rw [Around.under_plainId F.plain_set_update_loop _]
    show wpAny _ A.in1 (pyNext (.ref I) >>= _) _ _ s
    refine wpAny_bind (W.item i s _ _ hlt hst fun v s' hP hst' hm => ?_)
    obtain ⟨p, hp, rfl⟩ := hval i v hP
    have kp' := still hm kp
    have sub : ∀ q ∈ L, q ∈ ks := fun q hq => List.mem_of_mem_take (g.sub q hq)
    have hS' : SN w s'.heap S L es ep t := hS.moves (fun o ho => hm.heap S _ off ho) fun q hq => (hk q (sub q hq)).keep kp'
    have hx : EN s'.heap p.2 p.1 := (hk p (List.mem_of_getElem? hp)).keep kp'
    show wpAny _ A.in1 (holding [Value.ref p.1] (setAdd S (.ref p.1)) >>= _) _ _ s'
    refine wpAny_bind (wpAny_holding ?_)
    unfold setAdd
    refine wpAny_holding ?_
    refine wpAny_bind (pyHash_key p.2 (.ref p.1) A.in1 s' _ hx.1 (by have := hx.2.1; omega) ?_)
    refine put_in (s := { s' with toks := s'.toks + p.2.draws }) hS' hx hu (fun hn => ?_) fun b h' M es' ep' t' sb hM c1 c2 => ?_
    · have := few (p.2 :: L.map (·.2)) (List.nodup_cons.mpr ⟨hn, hS.nd⟩) fun k hk' => by
        rcases List.mem_cons.mp hk' with e | hk'
        · rw [e]; exact List.mem_map.mpr ⟨p, List.mem_of_getElem? hp, rfl⟩
        · obtain ⟨q, hq, e⟩ := List.mem_map.mp hk'
          exact List.mem_map.mpr ⟨q, sub q hq, e⟩
      simpa using this
    · have g' : Gt ks (i + 1) M := by
        rcases Classical.em (p.2 ∈ L.map (·.2)) with c | c
        · rw [c1 c]; exact g.same hp c
        · exact g.more hp (c2 c)
      have kp2 : ∀ b o, h0.get? b = some o → h'.get? b = some o := fun b o e => (sb.2 b (fun z => by rw [z, hS0] at e; cases e)).trans (kp' b o e)
      refine wpAny_pure ⟨plainId_quiet F.plain_set_update_loop _, ih (i + 1) _ (by omega) hlt (W.frame _ s' _ _ hst' (Nat.le_add_right _ _) fun b hb o e => ?_) kp2 ⟨M, es', ep', t', hM, g'⟩ fun s'' M2 es2 ep2 t2 hm'' hS'' g'' kp'' => ?_⟩
      · rw [sb.2 b (fun h : b = S => hSf (by rw [← h]; exact hb))]; exact e
      · refine hR s'' M2 es2 ep2 t2 (Moved.trans W.gtrans ((hm.mono inc).then_heap (Nat.le_add_right _ _) fun b o hb e => ?_) hm'') hS'' g'' kp''
        rw [sb.2 b (fun h : b = S => hb (by rw [h]; exact List.mem_cons_self))]; exact e
set_option maxHeartbeats 3200000 in
/-- set(xs) -/
theorem set_of_sn {l : Addr} {items : Array Value} (ks : Els) {Q : Value → Shared → Prop} (hh : A.handled = none) (hl : s.heap.IsList l items) (hit : items.toList = ks.map fun p => Value.ref p.1) (hk : ∀ p ∈ ks, EN s.heap p.2 p.1) (few : Few ks) (hu : A.units + 16 < cLine)
    (h : ∀ (h' : Heap) (tk : Nat) L es ep t, SN w h' s.heap.objs.size L es ep t → Gt ks ks.length L → (∀ b o, s.heap.get? b = some o → h'.get? b = some o) → Q (.ref s.heap.objs.size) { s with heap := h', toks := tk }) :
    wpAny (model P w) A (call (.type "set") [.ref l]) Q E s := by
  have hisz : items.size = ks.length := by
    have q := congrArg List.length hit
    rwa [Array.length_toList, List.length_map] at q
  obtain ⟨c, tl, hmro⟩ := F.called_set.mro
  have hmade := F.called_set.made
  have hsub := F.called_set.sub
  refine wpAny_call (codeAny_of_tree ?_)
  show wpAny _ _ (callAny (.type "set") _) _ _ _
  refine wpAny_pure ⟨Code.quiet_builtin _ (by decide +kernel), codeAny_builtin F.entry_type_call ?_⟩
  rw [Around.under_plain (weight_type_call_type "set" [.ref l] []) rfl]
  have h1 := F.called_set.notType
  have h2 := F.called_set.canCreate
  have hct := F.typeCall_set_1 (.ref l)
  repeat (any_goals (first | assumption | wp_step))
  generalize eO : (!w.params.followText "set-order") = led
  refine codeAny_mono (code_set_one (.ref l) (E := E) (Q := fun obj s₁ => obj = .ref s.heap.objs.size ∧ s₁ = { s with heap := s.heap.push ({ cls := .type "set", dict := none, data := .set #[] 0 (.fresh 0 0 led) } : Obj) }) (by rw [eO]; exact ⟨rfl, rfl⟩)) fun r s₁ hr => ?_
  cases r with
  | error e => exact hr
  | ok fl =>
    cases fl with
    | ret obj =>
      obtain ⟨rfl, rfl⟩ := hr
      have hS : (s.heap.push ({ cls := .type "set", dict := none, data := .set #[] 0 (.fresh 0 0 led) } : Obj)).get? s.heap.objs.size = some ({ cls := .type "set", dict := none, data := .set #[] 0 (.fresh 0 0 led) } : Obj) := Heap.get?_push_size _ rfl
      have hT : Shared.TypeIs { s with heap := s.heap.push ({ cls := .type "set", dict := none, data := .set #[] 0 (.fresh 0 0 led) } : Obj) } (.ref s.heap.objs.size) "set" := ⟨_, hS, rfl⟩
      have hli := F.called_set.init.lookup
      have hbi := F.called_set.init.bind (.ref s.heap.objs.size)
      repeat (any_goals (first | assumption | wp_step))
      refine codeAny_mono (codeAny_call_builtin (R := wants (fun r s₂ => r = .none ∧ ∃ h' tk L es ep t, s₂ = { s with heap := h', toks := tk } ∧ SN w h' s.heap.objs.size L es ep t ∧ Gt ks ks.length L ∧
          (∀ b o, s.heap.get? b = some o → h'.get? b = some o)) E) F.called_set.init.plain F.entry_set_init (check_set_init_1 hT ?_)) fun r₂ s₂ hr₂ => ?_
      · obtain ⟨ol, hol, hcl, nl, hdl⟩ := hl
        obtain ⟨ocls, odict, odata, oslots⟩ := ol
        simp only at hcl hdl
        subst hcl; subst hdl
        have hol' : (s.heap.push ({ cls := .type "set", dict := none, data := .set #[] 0 (.fresh 0 0 led) } : Obj)).get? l = some { cls := .type "list", dict := odict, data := .seq items nl, slots := oslots } := Heap.get?_push_of_some _ hol
        have hsls := F.sub_list_set
        have hslf := F.sub_list_frozenset
        have hne : (Value.type "list" == Value.type "dict") = false := by decide
        have hl1 : (s.heap.push ({ cls := .type "set", dict := none, data := .set #[] 0 (.fresh 0 0 led) } : Obj)).IsList l items := ⟨_, hol', rfl, nl, rfl⟩
        unfold Builtin.«set.__init__» noKeywords Builtin.Frozenset.updateFrom
        generalize hPI : pyIter = PI
        wp_walk
        subst hPI
        refine wpAny_pyIter_list (s := { s with heap := s.heap.push ({ cls := .type "set", dict := none, data := .set #[] 0 (.fresh 0 0 led) } : Obj) }) hl1 ?_
        refine wpAny_bind (wpAny_runValue ?_)
        have lt : l < s.heap.objs.size := Heap.lt_size hol
        have hh3 : A.in1.in1.in1.handled = none := by simp [hh]
        have ne1 : l ≠ (s.heap.push ({ cls := .type "set", dict := none, data := .set #[] 0 (.fresh 0 0 led) } : Obj)).objs.size := by
          rw [Heap.size_push]; exact Nat.ne_of_lt (Nat.lt_succ_of_lt lt)
        have off : s.heap.objs.size ∉ [(s.heap.push ({ cls := .type "set", dict := none, data := .set #[] 0 (.fresh 0 0 led) } : Obj)).objs.size, l] := by
          rw [Heap.size_push]; simp only [List.mem_cons, List.mem_singleton, List.not_mem_nil, or_false, not_or]
          exact ⟨Nat.ne_of_lt (Nat.lt_succ_self _), Nat.ne_of_gt lt⟩
        have none_of : ∀ b, s.heap.objs.size ≤ b → s.heap.get? b = none := fun b hb => by
          cases q : s.heap.get? b with
          | none => rfl
          | some o => exact absurd (Nat.lt_of_lt_of_le (Heap.lt_size q) hb) (Nat.lt_irrefl _)
        have W := (Walks.list (prog := P) (w := w) hh3 (s.heap.push ({ cls := .type "set", dict := none, data := .set #[] 0 (.fresh 0 0 led) } : Obj)).objs.size l ne1 items).toS
        rw [hisz] at W
        refine fill_sn W s.heap.objs.size off (fun i v hv => ?_) few s.heap hk (none_of _ (Nat.le_refl _)) (fun b hb => none_of b ?_) ?_ ks.length 0 _ (by omega) (Nat.zero_le _) ⟨⟨_, Heap.get?_push_size _ rfl, rfl, rfl⟩, (hl1.push _)⟩ (fun b o e => Heap.get?_push_of_some _ (Heap.get?_push_of_some _ e)) ?hS0 ?hR
        · have q : items.toList[i]? = some v := by rw [Array.getElem?_toList]; exact hv
          rw [hit, List.getElem?_map] at q
          obtain ⟨p, hp, e⟩ := Option.map_eq_some_iff.mp q
          exact ⟨p, hp, e.symm⟩
        · rw [List.mem_singleton.mp hb, Heap.size_push]
          exact Nat.le_succ _
        · show A.in1.in1.in1.units + 8 < cLine
          simp only [Around.in1_units]
          omega
        case hS0 =>
          refine ⟨[], #[], 0, _, sn_fresh ?_, Gt.zero ks⟩
          rw [eO]
          exact Heap.get?_push_of_some _ hS
        case hR =>
          intro s' L es ep t hm hS' g' kp
          obtain ⟨h', g2, d', tk', os'⟩ := s'
          obtain rfl : g2 = s.gens := hm.gens
          obtain rfl : d' = s.drawn := hm.drawn
          obtain rfl : os' = s.os := hm.os
          show wpAny _ _ _ _ _ _
          refine wpAny_pure ?_
          show wpAny _ _ (ret Value.none) _ _ _
          exact wpAny_pure ⟨rfl, h', tk', L, es, ep, t, rfl, hS', g', kp⟩
      · cases r₂ with
        | error e => exact hr₂
        | ok fl₂ =>
          cases fl₂ with
          | ret r =>
            obtain ⟨rfl, h', tk, L, es, ep, t, rfl, hS', g', hk'⟩ := hr₂
            repeat (any_goals (first | assumption | wp_step))
            exact h _ _ _ _ _ _ hS' g' hk'
          | next => exact hr₂.elim
          | brk => exact hr₂.elim
          | cont => exact hr₂.elim
    | next => exact hr.elim
    | brk => exact hr.elim
    | cont => exact hr.elim
end
end DL
namespace DL
open PySem PySem.Spec PyProof.Rows L2 Lk
section
variable {P : Program} {w : World} {A : Around} {E : Value → Shared → Prop} {s : Shared}
theorem perm_back {α β : Type} {f : α → β} {vs ws : List β} (pm : vs.Perm ws) : ∀ L : List α, ws = L.map f → ∃ bs : List α, bs.Perm L ∧ vs = bs.map f := by
  induction pm with
  | nil => intro L e; exact ⟨L, List.Perm.refl _, e⟩
  | cons x _ ih =>
    intro L e
    cases L with
    | nil => simp at e
    | cons y L =>
      rw [List.map_cons] at e
      obtain ⟨e1, e2⟩ := List.cons.inj e
      obtain ⟨bs, p, e3⟩ := ih L e2
      exact ⟨y :: bs, p.cons y, by rw [List.map_cons, e1, e3]⟩
  | swap x y l =>
    intro L e
    cases L with
    | nil => simp at e
    | cons a L =>
      cases L with
      | nil => simp at e
      | cons b L =>
        rw [List.map_cons, List.map_cons] at e
        obtain ⟨e1, e2⟩ := List.cons.inj e
        obtain ⟨e3, e4⟩ := List.cons.inj e2
        exact ⟨b :: a :: L, List.Perm.swap a b L, by rw [List.map_cons, List.map_cons, e1, e3, e4]⟩
  | trans _ _ ih1 ih2 =>
    intro L e
    obtain ⟨bs, p, e1⟩ := ih2 L e
    obtain ⟨cs, p2, e2⟩ := ih1 bs e1
    exact ⟨cs, p2.trans p, e2⟩
theorem each_refs : ∀ {vs : List Value} {bs : Els}, PySem.W.EachIs (fun (v : Value) (b : Addr × NestedKey) => v = .ref b.1) vs bs → vs = bs.map fun p => Value.ref p.1
  | _, _, .nil => rfl
  | _, _, .cons h t => by rw [h, each_refs t]; rfl
theorem refs_each : ∀ bs : Els, PySem.W.EachIs (fun (v : Value) (b : Addr × NestedKey) => v = .ref b.1) (bs.map fun p => Value.ref p.1) bs
  | [] => .nil
  | _ :: bs => .cons rfl (refs_each bs)
theorem reads_each {h : Heap} {l : Addr} : ∀ bs : Els, (∀ p ∈ bs, Reads h (.ref p.1) p.2.data []) → PySem.W.EachIs (fun (v : Value) (b : Addr × NestedKey) => ∃ as, Reads h v b.2.data as ∧ l ∉ as) (bs.map fun p => Value.ref p.1) bs
  | [], _ => .nil
  | b :: bs, h => .cons ⟨[], h b List.mem_cons_self, by simp⟩ (reads_each bs fun p hp => h p (List.mem_cons_of_mem _ hp))
theorem le_trans (x y z : Addr × NestedKey) (h1 : PySem.W.dataLe false (fun b : Addr × NestedKey => b.2.data) x y = true) (h2 : PySem.W.dataLe false (fun b : Addr × NestedKey => b.2.data) y z = true) : PySem.W.dataLe false (fun b : Addr × NestedKey => b.2.data) x z = true := by
  rw [PySem.W.dataLe_eq] at h1 h2 ⊢
  simp only [cond_false, Bool.not_eq_true'] at h1 h2 ⊢
  cases q : PySem.W.dataLt z.2.data x.2.data with
  | false => rfl
  | true =>
    rcases lex_negTrans _ (PySem.W.keyToks y.2.data) _ q with a | a
    · have : PySem.W.dataLt z.2.data y.2.data = true := a
      rw [h2] at this; cases this
    · have : PySem.W.dataLt y.2.data x.2.data = true := a
      rw [h1] at this; cases this
theorem le_total (x y : Addr × NestedKey) : (PySem.W.dataLe false (fun b : Addr × NestedKey => b.2.data) x y || PySem.W.dataLe false (fun b : Addr × NestedKey => b.2.data) y x) = true := by
  rw [PySem.W.dataLe_eq]
  simp only [cond_false]
  cases q : PySem.W.dataLt y.2.data x.2.data with
  | false => rfl
  | true =>
    cases r : PySem.W.dataLt x.2.data y.2.data with
    | false => rfl
    | true =>
      have : PySem.W.dataLt y.2.data y.2.data = true := dlt_tr q r
      rw [show PySem.W.dataLt y.2.data y.2.data = false from dlt_irr _] at this
      cases this
/-- sorted(set) -/
theorem sorted_sn {a : Addr} {L : Els} {es : Array (Int × Value)} {ep : Nat} {t : SetTable} {Q : Value → Shared → Prop} (R : SN w s.heap a L es ep t) (hh : A.handled = none) (hu : A.units + 16 < cLine)
    (hr : ∀ p ∈ L, Reads s.heap (.ref p.1) p.2.data [] ∧ keyN p.2.data = some p.2 ∧ okN1 p.2.data = true) (hal : ∀ p ∈ L, ∀ q ∈ L, PySem.W.alike p.2.data q.2.data = true)
    (hQ : ∀ s' p (out : Array Value) (c : Nat) (M : Els), (∀ b o, s.heap.get? b = some o → s'.heap.get? b = some o) → s'.gens = s.gens → s'.os = s.os → s.heap.objs.size ≤ p →
      s'.heap.get? p = some (seqObj "list" out c) → out.toList = M.map (fun q => Value.ref q.1) → M.Perm L → M.Pairwise (fun q r => dlt q.2.data r.2.data = true) → Q (.ref p) s') :
    wpAny (model P w) A (call (.builtin "sorted") [.ref a]) Q E s := by
  obtain ⟨o, ho, hex, hd⟩ := R.ob
  have hsz := R.size
  have few := R.few
  refine Calls.call_function_entry kind_sorted plain_sorted entry_sorted (args_sorted1 _) ?_
  unfold Builtin.«sorted»
  refine wpAny_bind (m := checkCount "sorted" 1 1 _) (wpAny_pure ?_)
  refine wpAny_bind (collect_set (A := A.in1) hh ⟨o, ho, hex.1, hd⟩ R.fits (by unfold scanBound; omega) R.tab.ris R.led fun s1 vs k1 hz g1 o1 pm => ?_)
  have hes : es.toList.map (·.2) = L.map fun q => Value.ref q.1 := by
    rw [R.rows, List.map_map]
    rfl
  obtain ⟨bs, pb, rfl⟩ := perm_back pm L hes
  have lb : bs.length < 77 := by rw [pb.length_eq]; exact few
  have mb : ∀ p ∈ bs, p ∈ L := fun p hp => pb.mem_iff.mp hp
  refine wpAny_bind (wpAny_newList ?_ (by rw [List.length_map, sizeLine_eq]; omega))
  have hoL : (s1.heap.push (seqObj "list" (bs.map fun p => Value.ref p.1).toArray 0)).get? s1.heap.objs.size = some (seqObj "list" (bs.map fun p => Value.ref p.1).toArray 0) := Heap.get?_push_size _ rfl
  refine wpAny_bind (wpAny_holding (PySem.W.list_sort_data (s := { s1 with heap := s1.heap.push (seqObj "list" (bs.map fun p => Value.ref p.1).toArray 0) }) (enc := fun b : Addr × NestedKey => b.2.data) hoL (refs_each bs)
    (reads_each bs fun p hp => Reads.keeps (fun b u e => Heap.get?_push_of_some _ (k1 b u e)) (hr p (mb p hp)).1) (fun d hd d' hd' => ?_) (.inl fun d hd => ?_) (by rw [sizeLine_eq]; omega) (fun b hb => ?_) fun out hlen eo => ?_))
  · obtain ⟨p, hp, rfl⟩ := List.mem_map.mp hd
    obtain ⟨q, hq, rfl⟩ := List.mem_map.mp hd'
    exact hal p (mb p hp) q (mb q hq)
  · obtain ⟨p, hp, rfl⟩ := List.mem_map.mp hd
    obtain ⟨k, x, r, e, _⟩ := okN1_some (hr p (mb p hp)).2.2
    exact ⟨x, r, e⟩
  · obtain ⟨k, x, r, _, _, _, dp⟩ := okN1_some (hr b (mb b hb)).2.2
    show A.in1.units + 1 + b.2.data.depth < cLine
    simp only [Around.in1_units]
    omega
  · obtain ⟨c, hc⟩ := sortedHeap_at (vs := bs.map fun p => Value.ref p.1) (out := out.toArray) hoL
    have eo' := each_refs eo
    have pM := (List.mergeSort_perm bs (PySem.W.dataLe false fun b : Addr × NestedKey => b.2.data)).trans pb
    refine wpAny_pure ⟨_, rfl, hQ _ s1.heap.objs.size out.toArray c (bs.mergeSort (PySem.W.dataLe false fun b => b.2.data)) (fun b u e => ?_) g1 o1 hz hc eo' pM ?_⟩
    · have q := k1 b u e
      have hlt := Heap.lt_size q
      show (sortedHeap (s1.heap.push (seqObj "list" (bs.map fun p => Value.ref p.1).toArray 0)) s1.heap.objs.size (bs.map fun p => Value.ref p.1) out.toArray).get? b = some u
      rw [sortedHeap_old (Nat.ne_of_lt hlt) (by rw [size_push']; exact Nat.lt_succ_of_lt hlt)]
      exact Heap.get?_push_of_some _ q
    · have st := List.pairwise_mergeSort le_trans le_total bs
      have nd : ((bs.mergeSort (PySem.W.dataLe false fun b : Addr × NestedKey => b.2.data)).map (·.2)).Nodup := (pM.map (·.2)).nodup_iff.mpr R.nd
      refine (List.Pairwise.and st (List.pairwise_map.mp nd)).imp_of_mem fun {p q} hp hq h => ?_
      have hp' := pM.mem_iff.mp hp
      have hq' := pM.mem_iff.mp hq
      obtain ⟨h1, h2⟩ := h
      rw [PySem.W.dataLe_eq] at h1
      simp only [cond_false, Bool.not_eq_true'] at h1
      cases r : dlt p.2.data q.2.data with
      | true => rfl
      | false =>
        have e := dlt_tri (hal p hp' q hq') (hr p hp').2.1 (hr q hq').2.1 r h1
        have e2 := (hr p hp').2.1
        rw [e, (hr q hq').2.1] at e2
        exact absurd (Option.some.inj e2).symm h2
end
end DL
namespace DL
open PySem PySem.Spec PyProof.Rows L2 Lk
def tSortN (K : PySem.W.Frag) (ta : TE) : TE := fun σ H Q => ta σ H fun x H1 => ∃ (l : Addr) (xs : List V) (ds : List PyData), x = V.ref l ∧ SqL K H1 l xs ∧ DqAll K H1 xs ds ∧ okN ds = true ∧ (ordN ds).length < 77 ∧
  ∀ p (M : List (V × PyData)), H1 p = none → (∀ b ∈ M, b ∈ xs.zip ds) → M.map (·.2) = ordN ds → Q (.ref p) (upd H1 p (.lst (M.map (·.1))))
theorem els_of {K : PySem.W.Frag} {H : Hp} : ∀ {xs : List V} {ds : List PyData}, DqAll K H xs ds → (∀ d ∈ ds, okN1 d = true) → ∃ ks : Els, xs = ks.map (fun p => V.ref p.1) ∧ ks.map (fun p => p.2.data) = ds ∧
    ∀ p ∈ ks, (V.ref p.1, p.2.data) ∈ xs.zip ds ∧ Dq K H (V.ref p.1) p.2.data ∧ keyN p.2.data = some p.2 ∧ okN1 p.2.data = true
  | _, _, .nil, _ => ⟨[], rfl, rfl, fun p hp => by cases hp⟩
  | _, _, .cons (vs := vs) (ds := ds) h t, ok => by
    obtain ⟨ks, e1, e2, e3⟩ := els_of t fun d hd => ok d (List.mem_cons_of_mem _ hd)
    have o := ok _ List.mem_cons_self
    obtain ⟨k, x, r, ed, hk, _⟩ := okN1_some o
    have dk := data_keyN hk
    rw [ed] at h
    cases h with
    | @tup b ys _ hs hd =>
      have hd' : Dq K H (V.ref b) k.data := by rw [dk, ed]; exact .tup hs hd
      refine ⟨(b, k) :: ks, by rw [List.map_cons, ← e1], by rw [List.map_cons, e2, dk], fun p hp => ?_⟩
      rcases List.mem_cons.mp hp with e | hp
      · rw [e]
        refine ⟨?_, hd', by rw [dk]; exact hk, by rw [dk]; exact o⟩
        rw [List.zip_cons_cons, dk]
        exact List.mem_cons_self
      · obtain ⟨a1, a2⟩ := e3 p hp
        refine ⟨?_, a2⟩
        rw [List.zip_cons_cons]
        exact List.mem_cons_of_mem _ a1
theorem els_vals : ∀ {ks : Els} {us : List Value}, Vals (ks.map fun p => V.ref p.1) us → us = ks.map fun p => Value.ref p.1
  | [], _, .nil => rfl
  | _ :: _, _, .cons r t => by
    cases r
    rw [els_vals t]
    rfl
theorem vals_els : ∀ (ks : Els), Vals (ks.map fun p => V.ref p.1) (ks.map fun p => Value.ref p.1)
  | [] => .nil
  | _ :: ks => .cons rfl (vals_els ks)
theorem few_of {ds : List PyData} {ks : Els} (ok : okN ds = true) (hd : ks.map (fun p => p.2.data) = ds) (hk : ∀ p ∈ ks, keyN p.2.data = some p.2) (h : (ordN ds).length < 77) : Few ks := fun M hn hs => by
  have := nodup_within M ((ordN ds).filterMap keyN) hn fun k hm => by
    obtain ⟨p, hp, e⟩ := List.mem_map.mp (hs k hm)
    refine List.mem_filterMap.mpr ⟨p.2.data, (mem_ordN ok).mpr ?_, by rw [hk p hp, e]⟩
    rw [← hd]
    exact List.mem_map.mpr ⟨p, hp, rfl⟩
  have := List.length_filterMap_le keyN (ordN ds)
  omega
section
variable {K : PySem.W.Frag} {E : XE} {X : Cx} {a : Expr} {ma : M PyData} {ta : TE} {p p2 q pos : Pos}
theorem pe_sortN {k : Nat} (hr : Room k X.A) (hc : X.calm = true) (hg : Gl X "sorted") (hm : X.mg "sorted" = none) (hg2 : Gl X "set") (hm2 : X.mg "set" = none) (ha : PE X a ta)
    (na : starEach [a] X.env = (false, eval a X.env) :: starEach [] X.env := by rfl) : PE X (.Call (.Name "sorted" p) [.Call (.Name "set" p2) [a] [] q] [] pos) (tSortN X.K ta) := by
  refine ⟨fun pins s σ H Q I h => ?_⟩
  refine Call_ (ld_blt I hg hm PyProof.Rows.boot_sorted ?_)
  refine callWith_builtin1 (args_cons ?_ rfl) rfl rfl
  refine Call_ (ld_blt I hg2 hm2 PyProof.Rows.boot_set ?_)
  refine callWith_type1 (args_cons (thn (ha.run pins s σ H _ I h) fun v s1 ⟨x, H1, I1, r1, q1⟩ => args_nil ?_) na) na rfl
  obtain ⟨l, xs, ds, rfl, hq, hd, ok, hn, q1⟩ := q1
  cases r1
  obtain ⟨ok1, al⟩ := okN_all ok
  obtain ⟨ks, rfl, e2, e3⟩ := els_of hd ok1
  obtain ⟨its, r, pl, hz⟩ := I1.list hq
  obtain rfl := els_vals r
  have un := hr.un
  have hen : ∀ b ∈ ks, EN s1.heap b.2 b.1 := fun b hb => by
    obtain ⟨_, dq, kb, ob⟩ := e3 b hb
    obtain ⟨k', _, _, _, hk', dp, _⟩ := okN1_some ob
    rw [kb] at hk'
    cases hk'
    exact ⟨dq_nested I1 dq kb rfl, dp, keyN_numT kb⟩
  have few := few_of ok e2 (fun b hb => (e3 b hb).2.2.1) hn
  refine set_of_sn ks (I1.ok.hd hc) pl.isList (by simp) hen few (by omega) fun h' tk L es ep t hS g hk => args_nil ?_
  have I2 : Inv X pins σ H1 { s1 with heap := h', toks := tk } := I1.kept fun b o e => hk b o e
  have sub : ∀ b ∈ L, b ∈ ks := fun b hb => List.mem_of_mem_take (g.sub b hb)
  have inD : ∀ b ∈ ks, b.2.data ∈ ds := fun b hb => by rw [← e2]; exact List.mem_map.mpr ⟨b, hb, rfl⟩
  refine sorted_sn (s := { s1 with heap := h', toks := tk }) hS (I1.ok.hd hc) (by omega) (fun b hb => ?_) (fun b hb c hc' => al _ (inD b (sub b hb)) _ (inD c (sub c hc'))) fun s' p out c M k g2 o hp hg' ho pm up => ?_
  · obtain ⟨_, dq, kb, ob⟩ := e3 b (sub b hb)
    obtain ⟨as, rd⟩ := Dp.reads I2 b.2.data (V.ref b.1) (.ref b.1) dq.dp rfl
    have e := keyN_reads kb rd
    subst e
    exact ⟨rd, kb, ob⟩
  · have eo : (M.map fun b => (V.ref b.1, b.2.data)).map (·.2) = ordN ds := by
      rw [List.map_map]
      refine (up_uniq (ordN_up ok) (List.pairwise_map.mpr up) fun j => ?_).symm
      rw [mem_ordN ok, ← e2]
      constructor
      · intro hj
        obtain ⟨b, hb, e⟩ := List.mem_map.mp hj
        have : b.2 ∈ L.map (·.2) := g.all b (by rw [List.take_length]; exact hb)
        obtain ⟨c, hc', e'⟩ := List.mem_map.mp this
        refine List.mem_map.mpr ⟨c, pm.mem_iff.mpr hc', ?_⟩
        rw [← e, ← e']
      · intro hj
        obtain ⟨b, hb, e⟩ := List.mem_map.mp hj
        exact List.mem_map.mpr ⟨b, sub b (pm.mem_iff.mp hb), e⟩
    have big : (M.map fun b => V.ref b.1).length ≤ sizeLine := by
      rw [List.length_map, pm.length_eq]
      have := hS.few
      rw [sizeLine_eq]
      omega
    have hnone : H1 p = none := I2.hok.fresh hp
    have hv : Vals (M.map fun b => V.ref b.1) out.toList := by rw [ho]; exact vals_els M
    have J : Inv X pins σ (upd H1 p (.lst (M.map fun b => V.ref b.1))) { ({ s1 with heap := h', toks := tk } : Shared) with heap := s'.heap, gens := s'.gens, drawn := s'.drawn, toks := s'.toks } :=
      I2.call (ch := []) (Un.laid k hp hnone) (I2.hok.laid k hp ⟨big, out.toList, c, hv, hg'⟩) (by rw [g2]; exact I2.bare) (fun _ z => nomatch z)
    have e : s' = { s1 with heap := s'.heap, gens := s'.gens, drawn := s'.drawn, toks := s'.toks } := by
      cases s'
      cases s1
      cases o
      rfl
    rw [e]
    have qq := q1 p (M.map fun b => (V.ref b.1, b.2.data)) hnone (fun b hb => by
      obtain ⟨c, hc', rfl⟩ := List.mem_map.mp hb
      exact (e3 c (sub c (pm.mem_iff.mp hc'))).1) eo
    rw [List.map_map] at qq
    exact ⟨.ref p, _, J, rfl, qq⟩
theorem df_sortN {k : Nat} (hr : Room k X.A) (hc : X.calm = true) (hg : Gl X "sorted") (hm : X.mg "sorted" = none) (hg2 : Gl X "set") (hm2 : X.mg "set" = none) (ha : DE K E X a ma)
    (na : starEach [a] X.env = (false, eval a X.env) :: starEach [] X.env := by rfl) : DF K E X (.Call (.Name "sorted" p) [.Call (.Name "set" p2) [a] [] q] [] pos) (mSortN ma) := ⟨fun hK => by
  subst hK
  refine PE.imp (pe_sortN hr hc hg hm hg2 hm2 (ha.pe rfl) na) fun σ H Q ⟨F, O, G, r, out, P, em, f⟩ => ?_
  refine tM.run P f em fun d r1 x G1 H1 P1 g1 q1 e1 f1 => ?_
  obtain ⟨z, hz, rfl⟩ := lift_ok e1
  cases d with
  | list ds =>
    have hz' : (if okN ds = true ∧ (ordN ds).length < 77 then some (ordN ds) else none) = some z := hz
    split at hz'
    · rename_i hb
      cases hz'
      cases q1 with
      | lst hs hd =>
        refine ⟨_, _, ds, rfl, P1.sub.seq hs, hd.sm P1.sub, hb.1, hb.2, fun p M hp hM e => ?_⟩
        have dq : DqAll X.K G1 (M.map (·.1)) (ordN ds) := by
          rw [← e]
          exact pairs_dq fun b hb => (dq_pairs hd).1 b (hM b hb)
        exact f1.ok (Ps.of_same P1.sub (same_new hp)) P1 ⟨p, _, rfl, hp, P1.sub.free hp, P1.nf _ hp, fun i z => (P1.on i p z).2.2.1 hp, upd_same, dq⟩
    · cases hz'
  | _ => cases hz⟩
end
end DL
namespace DL
open PySem PySem.Spec PyProof.Rows L2 Lk
def lenSetUM : PyData → Option PyData
  | .list ds => (asInts ds).bind fun ns => if (sortU ns).length < 4000 then some (.int (sortU ns).length) else none
  | _ => none
def mLenSetU (m : M PyData) : M PyData := m.bind fun d => M.lift (lenSetUM d)
@[simp] theorem e_lenSetU {m : M PyData} {r : En} : mLenSetU m r = M.bind m (fun d => M.lift (lenSetUM d)) r := rfl
def tLenSetU (K : PySem.W.Frag) (ta : TE) : TE := fun σ H Q => ta σ H fun x H1 => ∃ (l : Addr) (ns : List Int), x = V.ref l ∧ SqL K H1 l (ns.map V.int) ∧ (sortU ns).length < 4000 ∧ Q (.int (sortU ns).length) H1
section
variable {K : PySem.W.Frag} {E : XE} {X : Cx} {a : Expr} {ma : M PyData} {ta : TE} {p p2 q pos : Pos}
theorem pe_lenSetU (hc : X.calm = true) (hg : Gl X "len") (hm : X.mg "len" = none) (hg2 : Gl X "set") (hm2 : X.mg "set" = none) (ha : PE X a ta)
    (na : starEach [a] X.env = (false, eval a X.env) :: starEach [] X.env := by rfl) : PE X (.Call (.Name "len" p) [.Call (.Name "set" p2) [a] [] q] [] pos) (tLenSetU X.K ta) := by
  refine ⟨fun pins s σ H Q I h => ?_⟩
  refine Call_ (ld_blt I hg hm PySem.boot_len ?_)
  refine callWith_builtin1 (args_cons ?_ rfl) rfl rfl
  refine Call_ (ld_blt I hg2 hm2 PyProof.Rows.boot_set ?_)
  refine callWith_type1 (args_cons (thn (ha.run pins s σ H _ I h) fun v s1 ⟨x, H1, I1, r1, q1⟩ => args_nil ?_) na) na rfl
  obtain ⟨l, ns, rfl, hq, hn, q1⟩ := q1
  cases r1
  obtain ⟨its, r, pl, hz⟩ := I1.list hq
  refine set_of (I1.ok.hd hc) pl.isList (ns := ns) (by simpa using r.ints) (by unfold scanBound; omega) fun h' tk hS hk => args_nil ?_
  have I2 : Inv X pins σ H1 { s1 with heap := h', toks := tk } := I1.kept fun b o e => hk b o (Heap.lt_size e) e
  obtain ⟨o, es, ep, t, ho, hex, hd, _, _, _, _, hf, hn0, _, _⟩ := hS
  refine call_len_set ho hex hd hf (by rw [hn0] <;> omega) ⟨.int (sortU ns).length, H1, I2.tok _, ⟨_, by rw [hn0]⟩, q1⟩
theorem de_lenSetU (hc : X.calm = true) (hg : Gl X "len") (hm : X.mg "len" = none) (hg2 : Gl X "set") (hm2 : X.mg "set" = none) (ha : DE K E X a ma)
    (na : starEach [a] X.env = (false, eval a X.env) :: starEach [] X.env := by rfl) : DE K E X (.Call (.Name "len" p) [.Call (.Name "set" p2) [a] [] q] [] pos) (mLenSetU ma) := ⟨fun hK => by
  subst hK
  refine PE.imp (pe_lenSetU hc hg hm hg2 hm2 (ha.pe rfl) na) fun σ H Q ⟨F, O, G, r, out, P, em, f⟩ => ?_
  refine tM.run P f em fun d r1 x G1 H1 P1 g1 q1 e1 f1 => ?_
  obtain ⟨z, hz, rfl⟩ := lift_ok e1
  cases d with
  | list ds =>
    have hz' : ((asInts ds).bind fun ns => if (sortU ns).length < 4000 then some (PyData.int (sortU ns).length) else none) = some z := hz
    obtain ⟨ns, h1, h2⟩ := Option.bind_eq_some_iff.mp hz'
    have := asInts_some h1
    subst this
    split at h2
    · rename_i hlt
      cases h2
      cases q1 with
      | lst hs hd =>
        have := hd.of_ints
        subst this
        exact ⟨_, ns, rfl, P1.sub.seq hs, hlt, f1.ok (Ps.refl P1.sub) P1 (.int _)⟩
    · cases h2
  | _ => cases hz⟩
end
end DL
namespace DL
open PySem PySem.Spec PyProof.Rows L2 Lk
def v_law_joined_f4720 : SM := (sSeq (sSet 2 (mNew (mSortN (mOp2 addM (mNew (mCallF listM (mCons (mV 0) mNil))) (mNew (mCallF listM (mCons (mV 1) mNil)))))))
  (sSeq (sIf (mOpT ltM (mLenSetU (mNew (mLc [3] (mSeq (mV 2)) (gN 3) mYes (mOp2 ixM (mV 3) (M.ret (.int 0)))))) (mCall lenM (mCons (mV 2) mNil)))
    (sRet (M.ret .none))
    sNil)
  (sRet (mCall tupleM (mCons (mV 2) mNil)))))
def g_law_joined_f4720 : List PyData → Option PyData := runD ["one", "other", "found", "pair"] 2 v_law_joined_f4720
theorem r_law_joined_f4720 (x0 : PyData) (x1 : PyData) : g_law_joined_f4720 [x0, x1] = outD (v_law_joined_f4720 [.pl x0, .pl x1, .un, .un]) := rfl
def v_law_least_64473 : SM := (sSeq (sOwn 1 (mLst mNil))
  (sSeq (sFor (mSeq (mV 0)) (gN 2)
    (sIf (mNotT (mTru (mCall anyM (mCons (mNew (mLc [4] (mSeq (mV 0)) (gN 4) mYes (mAndV (mOp2 ltM (mCall lenM (mCons (mV 4) mNil)) (mCall lenM (mCons (mV 2) mNil))) (mCall allM (mCons (mNew (mLc [3] (mSeq (mV 4)) (gN 3) mYes (mOp2 inM (mV 3) (mV 2)))) mNil))))) mNil))))
    (sApp 1 (mTup (mCons (mCall lenM (mCons (mV 2) mNil)) (mCons (mV 2) mNil))))
    sNil))
  (sFrz 1 (sRet (mNew (mLc [3] (mSeq (mNew (mSortN (mV 1)))) (gN 3) mYes (mOp2 ixM (mV 3) (M.ret (.int 1)))))))))
def g_law_least_64473 : List PyData → Option PyData := runD ["rows", "found", "row", "pair", "one"] 1 v_law_least_64473
theorem r_law_least_64473 (x0 : PyData) : g_law_least_64473 [x0] = outD (v_law_least_64473 [.pl x0, .un, .un, .un, .un]) := rfl
def v_law_joins_cd054 : SM := (sSeq (sOwn 2 (mLst mNil))
  (sSeq (sFor (mSeq (mV 0)) (gN 3)
    (sFor (mSeq (mV 1)) (gN 4)
    (sSeq (sSet 5 (mCall g_law_joined_f4720 (mCons (mV 3) (mCons (mV 4) mNil))))
  (sIf (mPeek (mAnd (mOpT isNotM (mV 5) (M.ret .none)) (mOpT notInM (mV 5) (mV 2))))
    (sApp 2 (mV 5))
    sNil))))
  (sFrz 2 (sRet (mCall g_law_least_64473 (mCons (mV 2) mNil))))))
def g_law_joins_cd054 : List PyData → Option PyData := runD ["ours", "theirs", "found", "one", "other", "row"] 2 v_law_joins_cd054
theorem r_law_joins_cd054 (x0 : PyData) (x1 : PyData) : g_law_joins_cd054 [x0, x1] = outD (v_law_joins_cd054 [.pl x0, .pl x1, .un, .un, .un, .un]) := rfl
def v_law_k95 : SM := (sSeq (sSet 1 (mCall g_law_cell_98eb9 (mCons (mV 0) (mCons (M.ret (.int 0)) mNil))))
  (sSeq (sSet 2 (mCall g_law_sizes_48d55 (mCons (mV 1) (mCons (M.ret (.int 1)) (mCons (M.ret (.int 64)) mNil)))))
  (sSeq (sSet 3 (mCall g_law_brief_4e244 (mCons (mV 2) (mCons (mNew (mSlice (mV 0) (mPart (M.ret (.int 1))) (mPart (M.ret (.int 14))))) mNil))))
  (sSeq (sSet 4 (mCall g_law_brief_4e244 (mCons (mV 2) (mCons (mNew (mSlice (mV 0) (mPart (M.ret (.int 14))) (mPart (M.ret (.int 27))))) mNil))))
  (sSeq (sIf (mOpT eqM (mCall g_law_draw_48e0b (mCons (mV 1) (mCons (M.ret (.int 46)) (mCons (M.ret (.int 4)) mNil)))) (M.ret (.int 0)))
    (sSet 4 (mTup (mCons (M.ret (.str "and")) (mCons (mTup (mCons (mV 3) (mCons (mTup (mCons (M.ret (.str "not")) (mCons (mV 4) mNil))) mNil))) mNil))))
    sNil)
  (sSeq (sSet 5 (mCall g_law_joins_cd054 (mCons (mCall g_prime_rules (mCons (mNew (mCallF listM (mCons (mV 2) mNil))) (mCons (mV 3) (mCons (M.ret (.bool true)) mNil)))) (mCons (mCall g_prime_rules (mCons (mNew (mCallF listM (mCons (mV 2) mNil))) (mCons (mV 4) (mCons (M.ret (.bool true)) mNil)))) mNil))))
  (sSeq (sIf (mOpT neM (mCall g_prime_rules (mCons (mNew (mCallF listM (mCons (mV 2) mNil))) (mCons (mTup (mCons (M.ret (.str "and")) (mCons (mTup (mCons (mV 3) (mCons (mV 4) mNil))) mNil))) (mCons (M.ret (.bool true)) mNil)))) (mV 5))
    (sRet (M.ret (.bool false)))
    sNil)
  (sSeq (sSet 6 (mCall g_law_joins_cd054 (mCons (mCall g_prime_rules (mCons (mNew (mCallF listM (mCons (mV 2) mNil))) (mCons (mV 3) (mCons (M.ret (.bool false)) mNil)))) (mCons (mCall g_prime_rules (mCons (mNew (mCallF listM (mCons (mV 2) mNil))) (mCons (mV 4) (mCons (M.ret (.bool false)) mNil)))) mNil))))
  (sSeq (sIf (mOpT neM (mCall g_prime_rules (mCons (mNew (mCallF listM (mCons (mV 2) mNil))) (mCons (mTup (mCons (M.ret (.str "or")) (mCons (mTup (mCons (mV 4) (mCons (mV 3) mNil))) mNil))) (mCons (M.ret (.bool false)) mNil)))) (mV 6))
    (sRet (M.ret (.bool false)))
    sNil)
  (sSeq (sFor (mSeq (mNew (mLst (mCons (M.ret (.bool true)) (mCons (M.ret (.bool false)) mNil))))) (gN 7)
    (sIf (mOpT neM (mCall g_prime_rules (mCons (mNew (mCallF listM (mCons (mV 2) mNil))) (mCons (mTup (mCons (M.ret (.str "not")) (mCons (mV 4) mNil))) (mCons (mV 7) mNil)))) (mCall g_prime_rules (mCons (mNew (mCallF listM (mCons (mV 2) mNil))) (mCons (mV 4) (mCons (mNotV (mV 7)) mNil)))))
    (sRet (M.ret (.bool false)))
    sNil))
  (sRet (M.ret (.bool true)))))))))))))
def g_law_k95 : List PyData → Option PyData := runD ["script", "cell", "sizes", "one", "other", "yes", "no", "result"] 1 v_law_k95
theorem r_law_k95 (x0 : PyData) : g_law_k95 [x0] = outD (v_law_k95 [.pl x0, .un, .un, .un, .un, .un, .un, .un]) := rfl
end DL
namespace DL
open PySem PySem.Spec PyProof.Rows L2 Lk
def top (i : Nat) : Stmt := PySem.Challenge.pw_leastreasons_k95_whole_prime_rules_of_bo.main.body.getD i (.Pass ⟨0, 0, 0, 0⟩)
abbrev s_number_of_cases : Stmt := top 17
theorem sc_number_of_cases : FnScope ["sizes", "number", "size"] ["sizes"] (defScope s_number_of_cases) := ⟨rfl, rfl, rfl, by decide +kernel, rfl, by decide +kernel, by decide +kernel⟩
theorem f_number_of_cases {P : Program} {w : World} {K : PySem.W.Frag} {mg : Str → Option Value} {base : Heap} {f : Addr} {fd : FuncData} {k : Nat} (F : Fun K "number_of_cases" "number_of_cases" s_number_of_cases f fd) (hb : Binds K fd ["sizes"] []) (hm : mg "number_of_cases" = some (.ref f))
     : FnOk P w K mg base CX0 (k + 1) f fd ["sizes"] (spD K g_number_of_cases) := fn_d F sc_number_of_cases fun cdv A outer s H E hr =>
  (dss_cons (ds_set (i := 1) sc_number_of_cases.nd rfl (by first | exact Or.inl rfl | exact Or.inr rfl) de_int)
  (dss_cons (ds_for PassesOwn.never rfl (xi_seq (de_v 0)) (dg_name 2 sc_number_of_cases.nd rfl (by first | exact Or.inl rfl | exact Or.inr rfl))
    (dss_one (ds_set (i := 1) sc_number_of_cases.nd rfl (by first | exact Or.inl rfl | exact Or.inr rfl) (xe_op opd_mul (de_v 1) (de_v 2)))))
  (dss_one (ds_ret (de_v 1)))))
theorem t_number_of_cases {P : Program} {w : World} {K : PySem.W.Frag} {mg : Str → Option Value} {base : Heap} {f : Addr} {fd : FuncData} {k : Nat} (F : Fun K "number_of_cases" "number_of_cases" s_number_of_cases f fd) (hb : Binds K fd ["sizes"] []) (hm : mg "number_of_cases" = some (.ref f))
     : Has P w K mg base (k + 1) "number_of_cases" ["sizes"] (spD K g_number_of_cases) := ⟨f, fd, f_number_of_cases F hb hm , hb, hm, F.kp⟩
abbrev s_is_small_sheet : Stmt := top 18
theorem sc_is_small_sheet : FnScope ["sizes"] ["sizes"] (defScope s_is_small_sheet) := ⟨rfl, rfl, rfl, by decide +kernel, rfl, by decide +kernel, by decide +kernel⟩
theorem f_is_small_sheet {P : Program} {w : World} {K : PySem.W.Frag} {mg : Str → Option Value} {base : Heap} {f : Addr} {fd : FuncData} {k : Nat} (F : Fun K "is_small_sheet" "is_small_sheet" s_is_small_sheet f fd) (hb : Binds K fd ["sizes"] []) (hm : mg "is_small_sheet" = some (.ref f))
    (m_MOST_CASES_OF_SMALL : ∃ t, mg "MOST_CASES_OF_SMALL" = some (.int 1024 t))
    (G_number_of_cases : Has P w K mg base k "number_of_cases" ["sizes"] (spD K g_number_of_cases)) : FnOk P w K mg base CX0 (k + 1) f fd ["sizes"] (spD K g_is_small_sheet) := fn_d F sc_is_small_sheet fun cdv A outer s H E hr =>
  (dss_one (ds_ret (xe_cmp opd_le (xc G_number_of_cases hr (by rfl) (xa_cons (de_v 0) xa_nil)) (de_g (v := .int 1024) (d := .int 1024) (by rfl) m_MOST_CASES_OF_SMALL.choose_spec ⟨_, rfl⟩ fun _ => .int _) (nomark _))))
theorem t_is_small_sheet {P : Program} {w : World} {K : PySem.W.Frag} {mg : Str → Option Value} {base : Heap} {f : Addr} {fd : FuncData} {k : Nat} (F : Fun K "is_small_sheet" "is_small_sheet" s_is_small_sheet f fd) (hb : Binds K fd ["sizes"] []) (hm : mg "is_small_sheet" = some (.ref f))
    (m_MOST_CASES_OF_SMALL : ∃ t, mg "MOST_CASES_OF_SMALL" = some (.int 1024 t))
    (G_number_of_cases : Has P w K mg base k "number_of_cases" ["sizes"] (spD K g_number_of_cases)) : Has P w K mg base (k + 1) "is_small_sheet" ["sizes"] (spD K g_is_small_sheet) := ⟨f, fd, f_is_small_sheet F hb hm m_MOST_CASES_OF_SMALL G_number_of_cases, hb, hm, F.kp⟩
abbrev s_check_small : Stmt := top 19
theorem sc_check_small : FnScope ["sizes"] ["sizes"] (defScope s_check_small) := ⟨rfl, rfl, rfl, by decide +kernel, rfl, by decide +kernel, by decide +kernel⟩
theorem f_check_small {P : Program} {w : World} {K : PySem.W.Frag} {mg : Str → Option Value} {base : Heap} {f : Addr} {fd : FuncData} {k : Nat} (F : Fun K "check_small" "check_small" s_check_small f fd) (hb : Binds K fd ["sizes"] []) (hm : mg "check_small" = some (.ref f))
    (G_is_small_sheet : Has P w K mg base k "is_small_sheet" ["sizes"] (spD K g_is_small_sheet)) : FnOk P w K mg base CX0 (k + 1) f fd ["sizes"] (spD K g_check_small) := fn_d F sc_check_small fun cdv A outer s H E hr =>
  (dss_one (ds_if (xt_not (xt_tru (xc G_is_small_sheet hr (by rfl) (xa_cons (de_v 0) xa_nil))))
    (dss_one xs_no)
    dss_nil))
theorem t_check_small {P : Program} {w : World} {K : PySem.W.Frag} {mg : Str → Option Value} {base : Heap} {f : Addr} {fd : FuncData} {k : Nat} (F : Fun K "check_small" "check_small" s_check_small f fd) (hb : Binds K fd ["sizes"] []) (hm : mg "check_small" = some (.ref f))
    (G_is_small_sheet : Has P w K mg base k "is_small_sheet" ["sizes"] (spD K g_is_small_sheet)) : Has P w K mg base (k + 1) "check_small" ["sizes"] (spD K g_check_small) := ⟨f, fd, f_check_small F hb hm G_is_small_sheet, hb, hm, F.kp⟩
abbrev s_list_completing : Stmt := top 21
theorem sc_list_completing : FnScope ["sizes", "half", "cases", "at", "choices", "begun", "value"] ["sizes", "half"] (defScope s_list_completing) := ⟨rfl, rfl, rfl, by decide +kernel, rfl, by decide +kernel, by decide +kernel⟩
theorem f_list_completing {P : Program} {w : World} {K : PySem.W.Frag} {mg : Str → Option Value} {base : Heap} {f : Addr} {fd : FuncData} {k : Nat} (F : Fun K "list_completing" "list_completing" s_list_completing f fd) (hb : Binds K fd ["sizes", "half"] []) (hm : mg "list_completing" = some (.ref f))
    (y_len : mg "len" = none)
    (y_list : mg "list" = none)
    (y_range : mg "range" = none) : FnOk P w K mg base CX0 (k + 1) f fd ["sizes", "half"] (spD K g_list_completing) := fn_d F sc_list_completing fun cdv A outer s H E hr =>
  (dss_cons (ds_set (i := 2) sc_list_completing.nd rfl (by first | exact Or.inl rfl | exact Or.inr rfl) (xe_fr (xf_lst (xa_cons (xe_fr (xf_lst xa_nil)) xa_nil))))
  (dss_cons (ds_for PassesOwn.never rfl (xi_range1 (by rfl) y_range (xa_cons (xcB cd_len (by rfl) y_len (by decide +kernel) (xa_cons (de_v 0) xa_nil)) xa_nil)) (dg_name 3 sc_list_completing.nd rfl (by first | exact Or.inl rfl | exact Or.inr rfl))
    (dss_cons (ds_set (i := 4) sc_list_completing.nd rfl (by first | exact Or.inl rfl | exact Or.inr rfl) (de_if (xt_cmp opd_is (xe_ix (de_v 1) (de_v 3) (fun _ _ => rfl)) de_non (nomark _)) (xe_fr (df_lrng1 rfl (by rfl) y_list (by rfl) y_range (xe_ix (de_v 0) (de_v 3) (fun _ _ => rfl)))) (xe_fr (xf_lst (xa_cons (xe_ix (de_v 1) (de_v 3) (fun _ _ => rfl)) xa_nil)))))
  (dss_one (ds_setLc2 (vs1 := [6]) (i := 2) (own := [("begun", 5), ("value", 6)]) rfl sc_list_completing.nd rfl rfl (sw_true rfl rfl rfl (by decide +kernel)) (xi_seq (de_v 2)) (blkOk_by (by kernel_rfl)) (by decide) (fun _ _ _ _ _ => (dg_name 5 sc_list_completing.nd rfl (by first | exact Or.inl rfl | exact Or.inr rfl))) (fun _ _ _ _ _ => dts_nil) (fun _ _ _ _ _ => (xi_seq (de_v 4))) (fun _ _ _ _ _ => (dg_name 6 sc_list_completing.nd rfl (by first | exact Or.inl rfl | exact Or.inr rfl))) (fun _ _ _ _ _ => dts_nil) (fun _ _ _ _ _ => (xe_fr (xf_lst (da_star (de_v 5) (xa_cons (de_v 6) xa_nil)))))))))
  (dss_one (ds_ret (de_v 2)))))
theorem t_list_completing {P : Program} {w : World} {K : PySem.W.Frag} {mg : Str → Option Value} {base : Heap} {f : Addr} {fd : FuncData} {k : Nat} (F : Fun K "list_completing" "list_completing" s_list_completing f fd) (hb : Binds K fd ["sizes", "half"] []) (hm : mg "list_completing" = some (.ref f))
    (y_len : mg "len" = none)
    (y_list : mg "list" = none)
    (y_range : mg "range" = none) : Has P w K mg base (k + 1) "list_completing" ["sizes", "half"] (spD K g_list_completing) := ⟨f, fd, f_list_completing F hb hm y_len y_list y_range, hb, hm, F.kp⟩
abbrev s_p_join_answers : Stmt := top 46
theorem sc_p_join_answers : FnScope ["word", "results"] ["word", "results"] (defScope s_p_join_answers) := ⟨rfl, rfl, rfl, by decide +kernel, rfl, by decide +kernel, by decide +kernel⟩
theorem f_p_join_answers {P : Program} {w : World} {K : PySem.W.Frag} {mg : Str → Option Value} {base : Heap} {f : Addr} {fd : FuncData} {k : Nat} (F : Fun K "_join_answers" "_join_answers" s_p_join_answers f fd) (hb : Binds K fd ["word", "results"] []) (hm : mg "_join_answers" = some (.ref f))
     : FnOk P w K mg base CX0 (k + 1) f fd ["word", "results"] (spD K g_p_join_answers) := fn_d F sc_p_join_answers fun cdv A outer s H E hr =>
  (dss_cons (ds_if (xt_cmp (opd_eq hr) (de_v 0) de_str (nomark _))
    (dss_one (ds_ret (xe_cmp (opd_notIn hr) de_bl (de_v 1) (by rfl))))
    dss_nil)
  (dss_cons (ds_if (xt_cmp (opd_eq hr) (de_v 0) de_str (nomark _))
    (dss_one (ds_ret (xe_cmp (opd_in hr) de_bl (de_v 1) (by rfl))))
    dss_nil)
  (dss_one (ds_ret (xe_cmp (opd_eq hr) (xe_op opd_mod (de_bm PySem.F.plainAttrs_list PySem.F.slot_list_count PySem.F.type_list_count mtd_count (de_v 1) (xa_cons de_bl xa_nil)) de_int) de_int (nomark _))))))
theorem t_p_join_answers {P : Program} {w : World} {K : PySem.W.Frag} {mg : Str → Option Value} {base : Heap} {f : Addr} {fd : FuncData} {k : Nat} (F : Fun K "_join_answers" "_join_answers" s_p_join_answers f fd) (hb : Binds K fd ["word", "results"] []) (hm : mg "_join_answers" = some (.ref f))
     : Has P w K mg base (k + 1) "_join_answers" ["word", "results"] (spD K g_p_join_answers) := ⟨f, fd, f_p_join_answers F hb hm , hb, hm, F.kp⟩
abbrev s_place_of_case : Stmt := top 20
theorem sc_place_of_case : FnScope ["sizes", "case", "place", "at"] ["sizes", "case"] (defScope s_place_of_case) := ⟨rfl, rfl, rfl, by decide +kernel, rfl, by decide +kernel, by decide +kernel⟩
theorem f_place_of_case {P : Program} {w : World} {K : PySem.W.Frag} {mg : Str → Option Value} {base : Heap} {f : Addr} {fd : FuncData} {k : Nat} (F : Fun K "place_of_case" "place_of_case" s_place_of_case f fd) (hb : Binds K fd ["sizes", "case"] []) (hm : mg "place_of_case" = some (.ref f))
    (y_len : mg "len" = none)
    (y_range : mg "range" = none) : FnOk P w K mg base CX0 (k + 1) f fd ["sizes", "case"] (spD K g_place_of_case) := fn_d F sc_place_of_case fun cdv A outer s H E hr =>
  (dss_cons (ds_set (i := 2) sc_place_of_case.nd rfl (by first | exact Or.inl rfl | exact Or.inr rfl) de_int)
  (dss_cons (ds_for PassesOwn.never rfl (xi_range1 (by rfl) y_range (xa_cons (xcB cd_len (by rfl) y_len (by decide +kernel) (xa_cons (de_v 0) xa_nil)) xa_nil)) (dg_name 3 sc_place_of_case.nd rfl (by first | exact Or.inl rfl | exact Or.inr rfl))
    (dss_one (ds_set (i := 2) sc_place_of_case.nd rfl (by first | exact Or.inl rfl | exact Or.inr rfl) (xe_op opd_add (xe_op opd_mul (de_v 2) (xe_ix (de_v 0) (de_v 3) (fun _ _ => rfl))) (xe_ix (de_v 1) (de_v 3) (fun _ _ => rfl))))))
  (dss_one (ds_ret (de_v 2)))))
theorem t_place_of_case {P : Program} {w : World} {K : PySem.W.Frag} {mg : Str → Option Value} {base : Heap} {f : Addr} {fd : FuncData} {k : Nat} (F : Fun K "place_of_case" "place_of_case" s_place_of_case f fd) (hb : Binds K fd ["sizes", "case"] []) (hm : mg "place_of_case" = some (.ref f))
    (y_len : mg "len" = none)
    (y_range : mg "range" = none) : Has P w K mg base (k + 1) "place_of_case" ["sizes", "case"] (spD K g_place_of_case) := ⟨f, fd, f_place_of_case F hb hm y_len y_range, hb, hm, F.kp⟩
abbrev s_sum_of_weights : Stmt := top 43
theorem sc_sum_of_weights : FnScope ["weights", "case", "at"] ["weights", "case"] (defScope s_sum_of_weights) := ⟨rfl, rfl, rfl, by decide +kernel, rfl, by decide +kernel, by decide +kernel⟩
theorem f_sum_of_weights {P : Program} {w : World} {K : PySem.W.Frag} {mg : Str → Option Value} {base : Heap} {f : Addr} {fd : FuncData} {k : Nat} (F : Fun K "sum_of_weights" "sum_of_weights" s_sum_of_weights f fd) (hb : Binds K fd ["weights", "case"] []) (hm : mg "sum_of_weights" = some (.ref f))
    (y_len : mg "len" = none)
    (y_range : mg "range" = none)
    (y_sum : mg "sum" = none) : FnOk P w K mg base CX0 (k + 1) f fd ["weights", "case"] (spD K g_sum_of_weights) := fn_d F sc_sum_of_weights fun cdv A outer s H E hr =>
  (dss_one (ds_ret (xcB (cd_sum rfl) (by rfl) y_sum (by decide +kernel) (xa_cons (xe_fr (df_lc (own := [("at", 2)]) rfl sc_sum_of_weights.nd (xi_range1 (by rfl) y_range (xa_cons (xcB cd_len (by rfl) y_len (by decide +kernel) (xa_cons (de_v 1) xa_nil)) xa_nil)) (blkOk_by (by kernel_rfl)) (fun _ _ _ _ _ => (dg_name 2 sc_sum_of_weights.nd rfl (by first | exact Or.inl rfl | exact Or.inr rfl))) (fun _ _ _ _ _ => dts_nil) (fun _ _ _ _ _ => (xe_ix (xe_ix (de_v 0) (de_v 2) (fun _ _ => rfl)) (xe_ix (de_v 1) (de_v 2) (fun _ _ => rfl)) (fun _ _ => rfl))))) xa_nil))))
theorem t_sum_of_weights {P : Program} {w : World} {K : PySem.W.Frag} {mg : Str → Option Value} {base : Heap} {f : Addr} {fd : FuncData} {k : Nat} (F : Fun K "sum_of_weights" "sum_of_weights" s_sum_of_weights f fd) (hb : Binds K fd ["weights", "case"] []) (hm : mg "sum_of_weights" = some (.ref f))
    (y_len : mg "len" = none)
    (y_range : mg "range" = none)
    (y_sum : mg "sum" = none) : Has P w K mg base (k + 1) "sum_of_weights" ["weights", "case"] (spD K g_sum_of_weights) := ⟨f, fd, f_sum_of_weights F hb hm y_len y_range y_sum, hb, hm, F.kp⟩
abbrev s_fits : Stmt := top 42
theorem sc_fits : FnScope ["conditions", "case", "field", "values"] ["conditions", "case"] (defScope s_fits) := ⟨rfl, rfl, rfl, by decide +kernel, rfl, by decide +kernel, by decide +kernel⟩
theorem f_fits {P : Program} {w : World} {K : PySem.W.Frag} {mg : Str → Option Value} {base : Heap} {f : Addr} {fd : FuncData} {k : Nat} (F : Fun K "fits" "fits" s_fits f fd) (hb : Binds K fd ["conditions", "case"] []) (hm : mg "fits" = some (.ref f))
    (y_all : mg "all" = none) : FnOk P w K mg base CX0 (k + 1) f fd ["conditions", "case"] (spD K g_fits) := fn_d F sc_fits fun cdv A outer s H E hr =>
  (dss_one (ds_ret (xcB (cd_all rfl) (by rfl) y_all (by decide +kernel) (xa_cons (xe_fr (df_lc (own := [("field", 2), ("values", 3)]) rfl sc_fits.nd (xi_seq (de_v 0)) (blkOk_by (by kernel_rfl)) (fun _ _ _ _ _ => (dg_tup (n := 2) rfl (dgs_cons (dg_name 2 sc_fits.nd rfl (by first | exact Or.inl rfl | exact Or.inr rfl)) (dgs_cons (dg_name 3 sc_fits.nd rfl (by first | exact Or.inl rfl | exact Or.inr rfl)) dgs_nil)))) (fun _ _ _ _ _ => dts_nil) (fun _ _ _ _ _ => (xe_cmp (opd_in hr) (xe_ix (de_v 1) (de_v 2) (fun _ _ => rfl)) (de_v 3) (by rfl))))) xa_nil))))
theorem t_fits {P : Program} {w : World} {K : PySem.W.Frag} {mg : Str → Option Value} {base : Heap} {f : Addr} {fd : FuncData} {k : Nat} (F : Fun K "fits" "fits" s_fits f fd) (hb : Binds K fd ["conditions", "case"] []) (hm : mg "fits" = some (.ref f))
    (y_all : mg "all" = none) : Has P w K mg base (k + 1) "fits" ["conditions", "case"] (spD K g_fits) := ⟨f, fd, f_fits F hb hm y_all, hb, hm, F.kp⟩
abbrev s_p_first_result : Stmt := top 48
theorem sc_p_first_result : FnScope ["rules", "last", "case", "conditions", "result"] ["rules", "last", "case"] (defScope s_p_first_result) := ⟨rfl, rfl, rfl, by decide +kernel, rfl, by decide +kernel, by decide +kernel⟩
theorem f_p_first_result {P : Program} {w : World} {K : PySem.W.Frag} {mg : Str → Option Value} {base : Heap} {f : Addr} {fd : FuncData} {k : Nat} (F : Fun K "_first_result" "_first_result" s_p_first_result f fd) (hb : Binds K fd ["rules", "last", "case"] []) (hm : mg "_first_result" = some (.ref f))
    (G_fits : Has P w K mg base k "fits" ["conditions", "case"] (spD K g_fits)) : FnOk P w K mg base CX0 (k + 1) f fd ["rules", "last", "case"] (spD K g_p_first_result) := fn_d F sc_p_first_result fun cdv A outer s H E hr =>
  (dss_cons (ds_for PassesOwn.never rfl (xi_seq (de_v 0)) (dg_tup (n := 2) rfl (dgs_cons (dg_name 3 sc_p_first_result.nd rfl (by first | exact Or.inl rfl | exact Or.inr rfl)) (dgs_cons (dg_name 4 sc_p_first_result.nd rfl (by first | exact Or.inl rfl | exact Or.inr rfl)) dgs_nil)))
    (dss_one (ds_if (xt_tru (xc G_fits hr (by rfl) (xa_cons (de_v 3) (xa_cons (de_v 2) xa_nil))))
    (dss_one (ds_ret (de_v 4)))
    dss_nil)))
  (dss_one (ds_ret (de_v 1))))
theorem t_p_first_result {P : Program} {w : World} {K : PySem.W.Frag} {mg : Str → Option Value} {base : Heap} {f : Addr} {fd : FuncData} {k : Nat} (F : Fun K "_first_result" "_first_result" s_p_first_result f fd) (hb : Binds K fd ["rules", "last", "case"] []) (hm : mg "_first_result" = some (.ref f))
    (G_fits : Has P w K mg base k "fits" ["conditions", "case"] (spD K g_fits)) : Has P w K mg base (k + 1) "_first_result" ["rules", "last", "case"] (spD K g_p_first_result) := ⟨f, fd, f_p_first_result F hb hm G_fits, hb, hm, F.kp⟩
abbrev s_p_says_alone : Stmt := top 47
theorem sc_p_says_alone : FnScope ["sizes", "form", "case"] ["sizes", "form", "case"] (defScope s_p_says_alone) := ⟨rfl, rfl, rfl, by decide +kernel, rfl, by decide +kernel, by decide +kernel⟩
theorem f_p_says_alone {P : Program} {w : World} {K : PySem.W.Frag} {mg : Str → Option Value} {base : Heap} {f : Addr} {fd : FuncData} {k : Nat} (F : Fun K "_says_alone" "_says_alone" s_p_says_alone f fd) (hb : Binds K fd ["sizes", "form", "case"] []) (hm : mg "_says_alone" = some (.ref f))
    (G_place_of_case : Has P w K mg base k "place_of_case" ["sizes", "case"] (spD K g_place_of_case))
    (G_sum_of_weights : Has P w K mg base k "sum_of_weights" ["weights", "case"] (spD K g_sum_of_weights))
    (G_p_first_result : Has P w K mg base k "_first_result" ["rules", "last", "case"] (spD K g_p_first_result)) : FnOk P w K mg base CX0 (k + 1) f fd ["sizes", "form", "case"] (spD K g_p_says_alone) := fn_d F sc_p_says_alone fun cdv A outer s H E hr =>
  (dss_cons (ds_if (xt_cmp (opd_eq hr) (xe_ix (de_v 1) de_int (fun _ _ => rfl)) de_str (nomark _))
    (dss_one (ds_ret (xe_ix (de_v 1) de_int (fun _ _ => rfl))))
    dss_nil)
  (dss_cons (ds_if (xt_cmp (opd_eq hr) (xe_ix (de_v 1) de_int (fun _ _ => rfl)) de_str (nomark _))
    (dss_one (ds_ret (xe_cmp (opd_in hr) (xe_ix (de_v 2) (xe_ix (de_v 1) de_int (fun _ _ => rfl)) (fun _ _ => rfl)) (xe_ix (de_v 1) de_int (fun _ _ => rfl)) (by rfl))))
    dss_nil)
  (dss_cons (ds_if (xt_cmp (opd_eq hr) (xe_ix (de_v 1) de_int (fun _ _ => rfl)) de_str (nomark _))
    (dss_one (ds_ret (xc G_p_first_result hr (by rfl) (xa_cons (xe_ix (de_v 1) de_int (fun _ _ => rfl)) (xa_cons (xe_ix (de_v 1) de_int (fun _ _ => rfl)) (xa_cons (de_v 2) xa_nil))))))
    dss_nil)
  (dss_cons (ds_if (xt_cmp (opd_eq hr) (xe_ix (de_v 1) de_int (fun _ _ => rfl)) de_str (nomark _))
    (dss_one (ds_ret (xe_cmp opd_ge (xc G_sum_of_weights hr (by rfl) (xa_cons (xe_ix (de_v 1) de_int (fun _ _ => rfl)) (xa_cons (de_v 2) xa_nil))) (xe_ix (de_v 1) de_int (fun _ _ => rfl)) (nomark _))))
    dss_nil)
  (dss_one (ds_ret (xe_ix (xe_ix (de_v 1) de_int (fun _ _ => rfl)) (xc G_place_of_case hr (by rfl) (xa_cons (de_v 0) (xa_cons (de_v 2) xa_nil))) (fun _ _ => rfl))))))))
theorem t_p_says_alone {P : Program} {w : World} {K : PySem.W.Frag} {mg : Str → Option Value} {base : Heap} {f : Addr} {fd : FuncData} {k : Nat} (F : Fun K "_says_alone" "_says_alone" s_p_says_alone f fd) (hb : Binds K fd ["sizes", "form", "case"] []) (hm : mg "_says_alone" = some (.ref f))
    (G_place_of_case : Has P w K mg base k "place_of_case" ["sizes", "case"] (spD K g_place_of_case))
    (G_sum_of_weights : Has P w K mg base k "sum_of_weights" ["weights", "case"] (spD K g_sum_of_weights))
    (G_p_first_result : Has P w K mg base k "_first_result" ["rules", "last", "case"] (spD K g_p_first_result)) : Has P w K mg base (k + 1) "_says_alone" ["sizes", "form", "case"] (spD K g_p_says_alone) := ⟨f, fd, f_p_says_alone F hb hm G_place_of_case G_sum_of_weights G_p_first_result, hb, hm, F.kp⟩
abbrev s_says : Stmt := top 41
theorem sc_says : FnScope ["sizes", "form", "case", "part"] ["sizes", "form", "case"] (defScope s_says) := ⟨rfl, rfl, rfl, by decide +kernel, rfl, by decide +kernel, by decide +kernel⟩
theorem t_says {P : Program} {w : World} {K : PySem.W.Frag} {mg : Str → Option Value} {base : Heap} {f : Addr} {fd : FuncData} {k : Nat} (F : Fun K "says" "says" s_says f fd) (hb : Binds K fd ["sizes", "form", "case"] []) (hm : mg "says" = some (.ref f))
    (m_JOINING_WORDS : CTup K mg "JOINING_WORDS" c_JOINING_WORDS)
    (G_p_join_answers : Has P w K mg base k "_join_answers" ["word", "results"] (spD K g_p_join_answers))
    (G_p_says_alone : Has P w K mg base k "_says_alone" ["sizes", "form", "case"] (spD K g_p_says_alone)) : ∀ n, Has P w K mg base (k + n) "says" ["sizes", "form", "case"] (spD K (g_says n))
  | 0 => has_none F hb hm
  | n + 1 => by
    have G_self : Has P w K mg base (k + n) "says" ["sizes", "form", "case"] (spD K (g_says n)) := t_says (k := k) F hb hm m_JOINING_WORDS G_p_join_answers G_p_says_alone n
    have G_p_join_answers := G_p_join_answers.mono (Nat.le_add_right k n)
    have G_p_says_alone := G_p_says_alone.mono (Nat.le_add_right k n)
    exact def_d F sc_says hb hm fun cdv A outer s H E hr =>
  (dss_cons (ds_if (xt_cmp (opd_eq hr) (xe_ix (de_v 1) de_int (fun _ _ => rfl)) de_str (nomark _))
    (dss_one (ds_ret (xc G_self hr (by rfl) (xa_cons (de_v 0) (xa_cons (xe_ix (xe_ix (de_v 1) de_int (fun _ _ => rfl)) (xe_ix (de_v 2) (xe_ix (de_v 1) de_int (fun _ _ => rfl)) (fun _ _ => rfl)) (fun _ _ => rfl)) (xa_cons (de_v 2) xa_nil))))))
    dss_nil)
  (dss_cons (ds_if (xt_cmp (opd_eq hr) (xe_ix (de_v 1) de_int (fun _ _ => rfl)) de_str (nomark _))
    (dss_one (ds_ret (xe_not (xc G_self hr (by rfl) (xa_cons (de_v 0) (xa_cons (xe_ix (de_v 1) de_int (fun _ _ => rfl)) (xa_cons (de_v 2) xa_nil)))))))
    dss_nil)
  (dss_cons (ds_if (xt_cmp (opd_in hr) (xe_ix (de_v 1) de_int (fun _ _ => rfl)) (m_JOINING_WORDS.de (by rfl)) (by rfl))
    (dss_one (ds_ret (xc G_p_join_answers hr (by rfl) (xa_cons (xe_ix (de_v 1) de_int (fun _ _ => rfl)) (xa_cons (xe_fr (df_lc (own := [("part", 3)]) rfl sc_says.nd (xi_seq (xe_ix (de_v 1) de_int (fun _ _ => rfl))) (blkOk_by (by kernel_rfl)) (fun _ _ _ _ _ => (dg_name 3 sc_says.nd rfl (by first | exact Or.inl rfl | exact Or.inr rfl))) (fun _ _ _ _ _ => dts_nil) (fun _ _ _ _ _ => (xc G_self hr (by rfl) (xa_cons (de_v 0) (xa_cons (de_v 3) (xa_cons (de_v 2) xa_nil))))))) xa_nil)))))
    dss_nil)
  (dss_one (ds_ret (xc G_p_says_alone hr (by rfl) (xa_cons (de_v 0) (xa_cons (de_v 1) (xa_cons (de_v 2) xa_nil)))))))))
abbrev s_answers_completing : Stmt := top 44
theorem sc_answers_completing : FnScope ["sizes", "form", "half", "case"] ["sizes", "form", "half"] (defScope s_answers_completing) := ⟨rfl, rfl, rfl, by decide +kernel, rfl, by decide +kernel, by decide +kernel⟩
theorem f_answers_completing {P : Program} {w : World} {K : PySem.W.Frag} {mg : Str → Option Value} {base : Heap} {f : Addr} {fd : FuncData} {k : Nat} (F : Fun K "answers_completing" "answers_completing" s_answers_completing f fd) (hb : Binds K fd ["sizes", "form", "half"] []) (hm : mg "answers_completing" = some (.ref f))
    (G_list_completing : Has P w K mg base k "list_completing" ["sizes", "half"] (spD K g_list_completing))
    (G_says : Has P w K mg base k "says" ["sizes", "form", "case"] (spD K (g_says FU))) : FnOk P w K mg base CX0 (k + 1) f fd ["sizes", "form", "half"] (spD K g_answers_completing) := fn_d F sc_answers_completing fun cdv A outer s H E hr =>
  (dss_one (ds_ret (xe_fr (df_lc (own := [("case", 3)]) rfl sc_answers_completing.nd (xi_seq (xc G_list_completing hr (by rfl) (xa_cons (de_v 0) (xa_cons (de_v 2) xa_nil)))) (blkOk_by (by kernel_rfl)) (fun _ _ _ _ _ => (dg_name 3 sc_answers_completing.nd rfl (by first | exact Or.inl rfl | exact Or.inr rfl))) (fun _ _ _ _ _ => dts_nil) (fun _ _ _ _ _ => (xc G_says hr (by rfl) (xa_cons (de_v 0) (xa_cons (de_v 1) (xa_cons (de_v 3) xa_nil)))))))))
theorem t_answers_completing {P : Program} {w : World} {K : PySem.W.Frag} {mg : Str → Option Value} {base : Heap} {f : Addr} {fd : FuncData} {k : Nat} (F : Fun K "answers_completing" "answers_completing" s_answers_completing f fd) (hb : Binds K fd ["sizes", "form", "half"] []) (hm : mg "answers_completing" = some (.ref f))
    (G_list_completing : Has P w K mg base k "list_completing" ["sizes", "half"] (spD K g_list_completing))
    (G_says : Has P w K mg base k "says" ["sizes", "form", "case"] (spD K (g_says FU))) : Has P w K mg base (k + 1) "answers_completing" ["sizes", "form", "half"] (spD K g_answers_completing) := ⟨f, fd, f_answers_completing F hb hm G_list_completing G_says, hb, hm, F.kp⟩
abbrev s_all_answers : Stmt := top 45
theorem sc_all_answers : FnScope ["sizes", "form"] ["sizes", "form"] (defScope s_all_answers) := ⟨rfl, rfl, rfl, by decide +kernel, rfl, by decide +kernel, by decide +kernel⟩
theorem f_all_answers {P : Program} {w : World} {K : PySem.W.Frag} {mg : Str → Option Value} {base : Heap} {f : Addr} {fd : FuncData} {k : Nat} (F : Fun K "all_answers" "all_answers" s_all_answers f fd) (hb : Binds K fd ["sizes", "form"] []) (hm : mg "all_answers" = some (.ref f))
    (y_len : mg "len" = none)
    (G_answers_completing : Has P w K mg base k "answers_completing" ["sizes", "form", "half"] (spD K g_answers_completing)) : FnOk P w K mg base CX0 (k + 1) f fd ["sizes", "form"] (spD K g_all_answers) := fn_d F sc_all_answers fun cdv A outer s H E hr =>
  (dss_one (ds_ret (xc G_answers_completing hr (by rfl) (xa_cons (de_v 0) (xa_cons (de_v 1) (xa_cons (xe_fr (xf_rep (xf_lst (xa_cons de_non xa_nil)) (xcB cd_len (by rfl) y_len (by decide +kernel) (xa_cons (de_v 0) xa_nil)))) xa_nil))))))
theorem t_all_answers {P : Program} {w : World} {K : PySem.W.Frag} {mg : Str → Option Value} {base : Heap} {f : Addr} {fd : FuncData} {k : Nat} (F : Fun K "all_answers" "all_answers" s_all_answers f fd) (hb : Binds K fd ["sizes", "form"] []) (hm : mg "all_answers" = some (.ref f))
    (y_len : mg "len" = none)
    (G_answers_completing : Has P w K mg base k "answers_completing" ["sizes", "form", "half"] (spD K g_answers_completing)) : Has P w K mg base (k + 1) "all_answers" ["sizes", "form"] (spD K g_all_answers) := ⟨f, fd, f_all_answers F hb hm y_len G_answers_completing, hb, hm, F.kp⟩
abbrev s_p_find_primes_from : Stmt := top 54
theorem sc_p_find_primes_from : FnScope ["sizes", "field", "wanted", "step", "parts", "free", "seen", "found", "value", "rules", "at", "rule", "both"] ["sizes", "field", "wanted"] (defScope s_p_find_primes_from) := ⟨rfl, rfl, rfl, by decide +kernel, rfl, by decide +kernel, by decide +kernel⟩
theorem t_p_find_primes_from {P : Program} {w : World} {K : PySem.W.Frag} {mg : Str → Option Value} {base : Heap} {f : Addr} {fd : FuncData} {k : Nat} (F : Fun K "_find_primes_from" "_find_primes_from" s_p_find_primes_from f fd) (hb : Binds K fd ["sizes", "field", "wanted"] []) (hm : mg "_find_primes_from" = some (.ref f))
    (y_len : mg "len" = none)
    (y_range : mg "range" = none)
    (y_zip : mg "zip" = none) : ∀ n, Has P w K mg base (k + n) "_find_primes_from" ["sizes", "field", "wanted"] (spD K (g_p_find_primes_from n))
  | 0 => has_none F hb hm
  | n + 1 => by
    have G_self : Has P w K mg base (k + n) "_find_primes_from" ["sizes", "field", "wanted"] (spD K (g_p_find_primes_from n)) := t_p_find_primes_from (k := k) F hb hm y_len y_range y_zip n
    skip
    exact def_d F sc_p_find_primes_from hb hm fun cdv A outer s H E hr =>
  (dss_cons (ds_if (xt_cmp (opd_notIn hr) de_bl (de_v 2) (by rfl))
    (dss_one (ds_ret (xe_fr (xf_lst xa_nil))))
    dss_nil)
  (dss_cons (ds_if (xt_cmp (opd_notIn hr) de_bl (de_v 2) (by rfl))
    (dss_one (ds_ret (xe_fr (xf_lst (xa_cons (xe_tup xa_nil) xa_nil)))))
    dss_nil)
  (dss_cons (ds_set (i := 3) sc_p_find_primes_from.nd rfl (by first | exact Or.inl rfl | exact Or.inr rfl) (xe_op opd_div (xcB cd_len (by rfl) y_len (by decide +kernel) (xa_cons (de_v 2) xa_nil)) (xe_ix (de_v 0) (de_v 1) (fun _ _ => rfl))))
  (dss_cons (ds_setLc (i := 4) (own := [("at", 10)]) rfl sc_p_find_primes_from.nd rfl rfl (sw_true rfl rfl rfl (by decide +kernel)) (xi_range3 (by rfl) y_range (xa_cons de_int (xa_cons (xcB cd_len (by rfl) y_len (by decide +kernel) (xa_cons (de_v 2) xa_nil)) (xa_cons (de_v 3) xa_nil)))) (blkOk_by (by kernel_rfl)) (fun _ _ _ _ _ => (dg_name 10 sc_p_find_primes_from.nd rfl (by first | exact Or.inl rfl | exact Or.inr rfl))) (fun _ _ _ _ _ => dts_nil) (fun _ _ _ _ _ => (xe_fr (xf_slice (de_v 2) (xo_some (de_v 10)) (xo_some (xe_op opd_add (de_v 10) (de_v 3)))))))
  (dss_cons (ds_set (i := 5) sc_p_find_primes_from.nd rfl (by first | exact Or.inl rfl | exact Or.inr rfl) (xc G_self hr (by rfl) (xa_cons (de_v 0) (xa_cons (xe_op opd_add (de_v 1) de_int) (xa_cons (xe_fr (df_lc (own := [("both", 12)]) rfl sc_p_find_primes_from.nd (di_zip (by rfl) y_zip (de_v 4)) (blkOk_by (by kernel_rfl)) (fun _ _ _ _ _ => (dg_name 12 sc_p_find_primes_from.nd rfl (by first | exact Or.inl rfl | exact Or.inr rfl))) (fun _ _ _ _ _ => dts_nil) (fun _ _ _ _ _ => (xe_cmp (opd_notIn hr) de_bl (de_v 12) (by rfl))))) xa_nil)))))
  (dss_cons (ds_dk (i := 6) (own := [("rule", 11)]) hr sc_p_find_primes_from.nd rfl (by first | exact Or.inl rfl | exact Or.inr rfl) rfl (xi_seq (de_v 5)) (blkOk_by (by kernel_rfl)) (fun _ _ _ _ _ => (dg_name 11 sc_p_find_primes_from.nd rfl (by first | exact Or.inl rfl | exact Or.inr rfl))) (fun _ _ _ _ _ => dts_nil) (fun _ _ _ _ _ => (de_v 11)))
  (dss_cons (ds_own (i := 7) sc_p_find_primes_from.nd rfl (by first | exact Or.inl rfl | exact Or.inr rfl) (xf_lst xa_nil))
  (dss_cons (ds_for PassesOwn.never rfl (xi_range1 (by rfl) y_range (xa_cons (xe_ix (de_v 0) (de_v 1) (fun _ _ => rfl)) xa_nil)) (dg_name 8 sc_p_find_primes_from.nd rfl (by first | exact Or.inl rfl | exact Or.inr rfl))
    (dss_cons (ds_set (i := 9) sc_p_find_primes_from.nd rfl (by first | exact Or.inl rfl | exact Or.inr rfl) (xc G_self hr (by rfl) (xa_cons (de_v 0) (xa_cons (xe_op opd_add (de_v 1) de_int) (xa_cons (xe_ix (de_v 4) (de_v 8) (fun _ _ => rfl)) xa_nil)))))
  (dss_one (ds_extL 7 (te := _) (fun _ _ _ _ h => h) (ps_expr (pe_bm PySem.F.plainAttrs_list PySem.F.slot_list_extend PySem.F.type_list_extend mt_extendL (pv 7) (pa_cons ((show DE _ _ _ _ _ from (xe_fr (df_lc (own := [("rule", 11)]) rfl sc_p_find_primes_from.nd (xi_seq (de_v 9)) (blkOk_by (by kernel_rfl)) (fun _ _ _ _ _ => (dg_name 11 sc_p_find_primes_from.nd rfl (by first | exact Or.inl rfl | exact Or.inr rfl))) (fun _ _ _ _ _ => (dts_one (dt_notInDk (i := 6) hr (de_v 11) (by rfl)))) (fun _ _ _ _ _ => (xe_tup (xa_cons (xe_tup (xa_cons (de_v 1) (xa_cons (de_v 8) xa_nil))) (da_star (de_v 11) xa_nil))))))).pe rfl) pa_nil)))))))
  (dss_one (ds_frz 7 (ds_ret (xe_op opd_add (de_v 7) (de_v 5)))))))))))))
abbrev s_primes_of_answers : Stmt := top 52
theorem sc_primes_of_answers : FnScope ["sizes", "results", "result", "told"] ["sizes", "results", "result"] (defScope s_primes_of_answers) := ⟨rfl, rfl, rfl, by decide +kernel, rfl, by decide +kernel, by decide +kernel⟩
theorem f_primes_of_answers {P : Program} {w : World} {K : PySem.W.Frag} {mg : Str → Option Value} {base : Heap} {f : Addr} {fd : FuncData} {k : Nat} (F : Fun K "primes_of_answers" "primes_of_answers" s_primes_of_answers f fd) (hb : Binds K fd ["sizes", "results", "result"] []) (hm : mg "primes_of_answers" = some (.ref f))
    (y_len : mg "len" = none)
    (y_sorted : mg "sorted" = none)
    (G_p_find_primes_from : Has P w K mg base k "_find_primes_from" ["sizes", "field", "wanted"] (spD K (g_p_find_primes_from FU))) : FnOk P w K mg base CX0 (k + 1) f fd ["sizes", "results", "result"] (spD K g_primes_of_answers) := fn_d F sc_primes_of_answers fun cdv A outer s H E hr =>
  (dss_one (ds_ret (xe_fr (df_sortLen hr rfl (by rfl) y_sorted (by rfl) y_len (xc G_p_find_primes_from hr (by rfl) (xa_cons (de_v 0) (xa_cons de_int (xa_cons (xe_fr (df_lc (own := [("told", 3)]) rfl sc_primes_of_answers.nd (xi_seq (de_v 1)) (blkOk_by (by kernel_rfl)) (fun _ _ _ _ _ => (dg_name 3 sc_primes_of_answers.nd rfl (by first | exact Or.inl rfl | exact Or.inr rfl))) (fun _ _ _ _ _ => dts_nil) (fun _ _ _ _ _ => (xe_cmp (opd_eq hr) (de_v 3) (de_v 2) (nomark _))))) xa_nil))))))))
theorem t_primes_of_answers {P : Program} {w : World} {K : PySem.W.Frag} {mg : Str → Option Value} {base : Heap} {f : Addr} {fd : FuncData} {k : Nat} (F : Fun K "primes_of_answers" "primes_of_answers" s_primes_of_answers f fd) (hb : Binds K fd ["sizes", "results", "result"] []) (hm : mg "primes_of_answers" = some (.ref f))
    (y_len : mg "len" = none)
    (y_sorted : mg "sorted" = none)
    (G_p_find_primes_from : Has P w K mg base k "_find_primes_from" ["sizes", "field", "wanted"] (spD K (g_p_find_primes_from FU))) : Has P w K mg base (k + 1) "primes_of_answers" ["sizes", "results", "result"] (spD K g_primes_of_answers) := ⟨f, fd, f_primes_of_answers F hb hm y_len y_sorted G_p_find_primes_from, hb, hm, F.kp⟩
abbrev s_find_prime_rules : Stmt := top 51
theorem sc_find_prime_rules : FnScope ["sizes", "form", "result"] ["sizes", "form", "result"] (defScope s_find_prime_rules) := ⟨rfl, rfl, rfl, by decide +kernel, rfl, by decide +kernel, by decide +kernel⟩
theorem f_find_prime_rules {P : Program} {w : World} {K : PySem.W.Frag} {mg : Str → Option Value} {base : Heap} {f : Addr} {fd : FuncData} {k : Nat} (F : Fun K "find_prime_rules" "find_prime_rules" s_find_prime_rules f fd) (hb : Binds K fd ["sizes", "form", "result"] []) (hm : mg "find_prime_rules" = some (.ref f))
    (G_all_answers : Has P w K mg base k "all_answers" ["sizes", "form"] (spD K g_all_answers))
    (G_primes_of_answers : Has P w K mg base k "primes_of_answers" ["sizes", "results", "result"] (spD K g_primes_of_answers)) : FnOk P w K mg base CX0 (k + 1) f fd ["sizes", "form", "result"] (spD K g_find_prime_rules) := fn_d F sc_find_prime_rules fun cdv A outer s H E hr =>
  (dss_one (ds_ret (xc G_primes_of_answers hr (by rfl) (xa_cons (de_v 0) (xa_cons (xc G_all_answers hr (by rfl) (xa_cons (de_v 0) (xa_cons (de_v 1) xa_nil))) (xa_cons (de_v 2) xa_nil))))))
theorem t_find_prime_rules {P : Program} {w : World} {K : PySem.W.Frag} {mg : Str → Option Value} {base : Heap} {f : Addr} {fd : FuncData} {k : Nat} (F : Fun K "find_prime_rules" "find_prime_rules" s_find_prime_rules f fd) (hb : Binds K fd ["sizes", "form", "result"] []) (hm : mg "find_prime_rules" = some (.ref f))
    (G_all_answers : Has P w K mg base k "all_answers" ["sizes", "form"] (spD K g_all_answers))
    (G_primes_of_answers : Has P w K mg base k "primes_of_answers" ["sizes", "results", "result"] (spD K g_primes_of_answers)) : Has P w K mg base (k + 1) "find_prime_rules" ["sizes", "form", "result"] (spD K g_find_prime_rules) := ⟨f, fd, f_find_prime_rules F hb hm G_all_answers G_primes_of_answers, hb, hm, F.kp⟩
abbrev s_is_integer : Stmt := top 7
theorem sc_is_integer : FnScope ["value"] ["value"] (defScope s_is_integer) := ⟨rfl, rfl, rfl, by decide +kernel, rfl, by decide +kernel, by decide +kernel⟩
theorem f_is_integer {P : Program} {w : World} {K : PySem.W.Frag} {mg : Str → Option Value} {base : Heap} {f : Addr} {fd : FuncData} {k : Nat} (F : Fun K "is_integer" "is_integer" s_is_integer f fd) (hb : Binds K fd ["value"] []) (hm : mg "is_integer" = some (.ref f))
    (y_bool : mg "bool" = none)
    (y_int : mg "int" = none)
    (y_isinstance : mg "isinstance" = none) : FnOk P w K mg base CX0 (k + 1) f fd ["value"] (spD K g_is_integer) := fn_d F sc_is_integer fun cdv A outer s H E hr =>
  (dss_one (ds_ret (de_and (xe_isi (n := "int") (by decide) (by rfl) y_isinstance (by rfl) y_int (by decide +kernel) (de_v 0)) (de_one (xe_not (xe_isi (n := "bool") (by decide) (by rfl) y_isinstance (by rfl) y_bool (by decide +kernel) (de_v 0)))))))
theorem t_is_integer {P : Program} {w : World} {K : PySem.W.Frag} {mg : Str → Option Value} {base : Heap} {f : Addr} {fd : FuncData} {k : Nat} (F : Fun K "is_integer" "is_integer" s_is_integer f fd) (hb : Binds K fd ["value"] []) (hm : mg "is_integer" = some (.ref f))
    (y_bool : mg "bool" = none)
    (y_int : mg "int" = none)
    (y_isinstance : mg "isinstance" = none) : Has P w K mg base (k + 1) "is_integer" ["value"] (spD K g_is_integer) := ⟨f, fd, f_is_integer F hb hm y_bool y_int y_isinstance, hb, hm, F.kp⟩
abbrev s_is_sizes : Stmt := top 15
theorem sc_is_sizes : FnScope ["value", "size"] ["value"] (defScope s_is_sizes) := ⟨rfl, rfl, rfl, by decide +kernel, rfl, by decide +kernel, by decide +kernel⟩
theorem f_is_sizes {P : Program} {w : World} {K : PySem.W.Frag} {mg : Str → Option Value} {base : Heap} {f : Addr} {fd : FuncData} {k : Nat} (F : Fun K "is_sizes" "is_sizes" s_is_sizes f fd) (hb : Binds K fd ["value"] []) (hm : mg "is_sizes" = some (.ref f))
    (y_all : mg "all" = none)
    (m_GREATEST_SIZE : ∃ t, mg "GREATEST_SIZE" = some (.int 6 t))
    (m_LEAST_SIZE : ∃ t, mg "LEAST_SIZE" = some (.int 2 t))
    (m_MOST_FIELDS : ∃ t, mg "MOST_FIELDS" = some (.int 24 t))
    (y_isinstance : mg "isinstance" = none)
    (y_len : mg "len" = none)
    (y_list : mg "list" = none)
    (G_is_integer : Has P w K mg base k "is_integer" ["value"] (spD K g_is_integer)) : FnOk P w K mg base CX0 (k + 1) f fd ["value"] (spD K g_is_sizes) := fn_d F sc_is_sizes fun cdv A outer s H E hr =>
  (dss_cons (ds_if (DW.pt (dw_or (xt_not (xt_tru (xe_isi (n := "list") (by decide) (by rfl) y_isinstance (by rfl) y_list (by decide +kernel) (de_v 0)))) (dw_or1 (xt_cmp opd_gt (xcB cd_len (by rfl) y_len (by decide +kernel) (xa_cons (de_v 0) xa_nil)) (de_g (v := .int 24) (d := .int 24) (by rfl) m_MOST_FIELDS.choose_spec ⟨_, rfl⟩ fun _ => .int _) (nomark _)))))
    (dss_one (ds_ret de_bl))
    dss_nil)
  (dss_one (ds_ret (xcB (cd_all rfl) (by rfl) y_all (by decide +kernel) (xa_cons (xe_fr (df_lc (own := [("size", 1)]) rfl sc_is_sizes.nd (xi_seq (de_v 0)) (blkOk_by (by kernel_rfl)) (fun _ _ _ _ _ => (dg_name 1 sc_is_sizes.nd rfl (by first | exact Or.inl rfl | exact Or.inr rfl))) (fun _ _ _ _ _ => dts_nil) (fun _ _ _ _ _ => (de_and (xc G_is_integer hr (by rfl) (xa_cons (de_v 1) xa_nil)) (de_one (de_chain opd_le opd_le (de_g (v := .int 2) (d := .int 2) (by rfl) m_LEAST_SIZE.choose_spec ⟨_, rfl⟩ fun _ => .int _) (de_v 1) (de_g (v := .int 6) (d := .int 6) (by rfl) m_GREATEST_SIZE.choose_spec ⟨_, rfl⟩ fun _ => .int _))))))) xa_nil)))))
theorem t_is_sizes {P : Program} {w : World} {K : PySem.W.Frag} {mg : Str → Option Value} {base : Heap} {f : Addr} {fd : FuncData} {k : Nat} (F : Fun K "is_sizes" "is_sizes" s_is_sizes f fd) (hb : Binds K fd ["value"] []) (hm : mg "is_sizes" = some (.ref f))
    (y_all : mg "all" = none)
    (m_GREATEST_SIZE : ∃ t, mg "GREATEST_SIZE" = some (.int 6 t))
    (m_LEAST_SIZE : ∃ t, mg "LEAST_SIZE" = some (.int 2 t))
    (m_MOST_FIELDS : ∃ t, mg "MOST_FIELDS" = some (.int 24 t))
    (y_isinstance : mg "isinstance" = none)
    (y_len : mg "len" = none)
    (y_list : mg "list" = none)
    (G_is_integer : Has P w K mg base k "is_integer" ["value"] (spD K g_is_integer)) : Has P w K mg base (k + 1) "is_sizes" ["value"] (spD K g_is_sizes) := ⟨f, fd, f_is_sizes F hb hm y_all m_GREATEST_SIZE m_LEAST_SIZE m_MOST_FIELDS y_isinstance y_len y_list G_is_integer, hb, hm, F.kp⟩
abbrev s_check_sizes : Stmt := top 16
theorem sc_check_sizes : FnScope ["sizes"] ["sizes"] (defScope s_check_sizes) := ⟨rfl, rfl, rfl, by decide +kernel, rfl, by decide +kernel, by decide +kernel⟩
theorem f_check_sizes {P : Program} {w : World} {K : PySem.W.Frag} {mg : Str → Option Value} {base : Heap} {f : Addr} {fd : FuncData} {k : Nat} (F : Fun K "check_sizes" "check_sizes" s_check_sizes f fd) (hb : Binds K fd ["sizes"] []) (hm : mg "check_sizes" = some (.ref f))
    (G_is_sizes : Has P w K mg base k "is_sizes" ["value"] (spD K g_is_sizes)) : FnOk P w K mg base CX0 (k + 1) f fd ["sizes"] (spD K g_check_sizes) := fn_d F sc_check_sizes fun cdv A outer s H E hr =>
  (dss_one (ds_if (xt_not (xt_tru (xc G_is_sizes hr (by rfl) (xa_cons (de_v 0) xa_nil))))
    (dss_one xs_no)
    dss_nil))
theorem t_check_sizes {P : Program} {w : World} {K : PySem.W.Frag} {mg : Str → Option Value} {base : Heap} {f : Addr} {fd : FuncData} {k : Nat} (F : Fun K "check_sizes" "check_sizes" s_check_sizes f fd) (hb : Binds K fd ["sizes"] []) (hm : mg "check_sizes" = some (.ref f))
    (G_is_sizes : Has P w K mg base k "is_sizes" ["value"] (spD K g_is_sizes)) : Has P w K mg base (k + 1) "check_sizes" ["sizes"] (spD K g_check_sizes) := ⟨f, fd, f_check_sizes F hb hm G_is_sizes, hb, hm, F.kp⟩
abbrev s_inner_forms : Stmt := top 24
theorem sc_inner_forms : FnScope ["form"] ["form"] (defScope s_inner_forms) := ⟨rfl, rfl, rfl, by decide +kernel, rfl, by decide +kernel, by decide +kernel⟩
theorem f_inner_forms {P : Program} {w : World} {K : PySem.W.Frag} {mg : Str → Option Value} {base : Heap} {f : Addr} {fd : FuncData} {k : Nat} (F : Fun K "inner_forms" "inner_forms" s_inner_forms f fd) (hb : Binds K fd ["form"] []) (hm : mg "inner_forms" = some (.ref f))
    (m_JOINING_WORDS : CTup K mg "JOINING_WORDS" c_JOINING_WORDS) : FnOk P w K mg base CX0 (k + 1) f fd ["form"] (spD K g_inner_forms) := fn_d F sc_inner_forms fun cdv A outer s H E hr =>
  (dss_cons (ds_if (xt_cmp (opd_eq hr) (xe_ix (de_v 0) de_int (fun _ _ => rfl)) de_str (nomark _))
    (dss_one (ds_ret (xe_ix (de_v 0) de_int (fun _ _ => rfl))))
    dss_nil)
  (dss_cons (ds_if (xt_cmp (opd_eq hr) (xe_ix (de_v 0) de_int (fun _ _ => rfl)) de_str (nomark _))
    (dss_one (ds_ret (xe_tup (xa_cons (xe_ix (de_v 0) de_int (fun _ _ => rfl)) xa_nil))))
    dss_nil)
  (dss_cons (ds_if (xt_cmp (opd_in hr) (xe_ix (de_v 0) de_int (fun _ _ => rfl)) (m_JOINING_WORDS.de (by rfl)) (by rfl))
    (dss_one (ds_ret (xe_ix (de_v 0) de_int (fun _ _ => rfl))))
    dss_nil)
  (dss_one (ds_ret (xe_tup xa_nil))))))
theorem t_inner_forms {P : Program} {w : World} {K : PySem.W.Frag} {mg : Str → Option Value} {base : Heap} {f : Addr} {fd : FuncData} {k : Nat} (F : Fun K "inner_forms" "inner_forms" s_inner_forms f fd) (hb : Binds K fd ["form"] []) (hm : mg "inner_forms" = some (.ref f))
    (m_JOINING_WORDS : CTup K mg "JOINING_WORDS" c_JOINING_WORDS) : Has P w K mg base (k + 1) "inner_forms" ["form"] (spD K g_inner_forms) := ⟨f, fd, f_inner_forms F hb hm m_JOINING_WORDS, hb, hm, F.kp⟩
abbrev s_p_is_tuple_of : Stmt := top 30
theorem sc_p_is_tuple_of : FnScope ["value", "length"] ["value", "length"] (defScope s_p_is_tuple_of) := ⟨rfl, rfl, rfl, by decide +kernel, rfl, by decide +kernel, by decide +kernel⟩
theorem f_p_is_tuple_of {P : Program} {w : World} {K : PySem.W.Frag} {mg : Str → Option Value} {base : Heap} {f : Addr} {fd : FuncData} {k : Nat} (F : Fun K "_is_tuple_of" "_is_tuple_of" s_p_is_tuple_of f fd) (hb : Binds K fd ["value", "length"] []) (hm : mg "_is_tuple_of" = some (.ref f))
    (y_isinstance : mg "isinstance" = none)
    (y_len : mg "len" = none)
    (y_tuple : mg "tuple" = none) : FnOk P w K mg base CX0 (k + 1) f fd ["value", "length"] (spD K g_p_is_tuple_of) := fn_d F sc_p_is_tuple_of fun cdv A outer s H E hr =>
  (dss_one (ds_ret (de_and (xe_isi (n := "tuple") (by decide) (by rfl) y_isinstance (by rfl) y_tuple (by decide +kernel) (de_v 0)) (de_one (xe_cmp (opd_eq hr) (xcB cd_len (by rfl) y_len (by decide +kernel) (xa_cons (de_v 0) xa_nil)) (de_v 1) (nomark _))))))
theorem t_p_is_tuple_of {P : Program} {w : World} {K : PySem.W.Frag} {mg : Str → Option Value} {base : Heap} {f : Addr} {fd : FuncData} {k : Nat} (F : Fun K "_is_tuple_of" "_is_tuple_of" s_p_is_tuple_of f fd) (hb : Binds K fd ["value", "length"] []) (hm : mg "_is_tuple_of" = some (.ref f))
    (y_isinstance : mg "isinstance" = none)
    (y_len : mg "len" = none)
    (y_tuple : mg "tuple" = none) : Has P w K mg base (k + 1) "_is_tuple_of" ["value", "length"] (spD K g_p_is_tuple_of) := ⟨f, fd, f_p_is_tuple_of F hb hm y_isinstance y_len y_tuple, hb, hm, F.kp⟩
abbrev s_p_is_results : Stmt := top 37
theorem sc_p_is_results : FnScope ["sizes", "value", "result"] ["sizes", "value"] (defScope s_p_is_results) := ⟨rfl, rfl, rfl, by decide +kernel, rfl, by decide +kernel, by decide +kernel⟩
theorem f_p_is_results {P : Program} {w : World} {K : PySem.W.Frag} {mg : Str → Option Value} {base : Heap} {f : Addr} {fd : FuncData} {k : Nat} (F : Fun K "_is_results" "_is_results" s_p_is_results f fd) (hb : Binds K fd ["sizes", "value"] []) (hm : mg "_is_results" = some (.ref f))
    (y_all : mg "all" = none)
    (y_bool : mg "bool" = none)
    (y_isinstance : mg "isinstance" = none)
    (G_number_of_cases : Has P w K mg base k "number_of_cases" ["sizes"] (spD K g_number_of_cases))
    (G_is_small_sheet : Has P w K mg base k "is_small_sheet" ["sizes"] (spD K g_is_small_sheet))
    (G_p_is_tuple_of : Has P w K mg base k "_is_tuple_of" ["value", "length"] (spD K g_p_is_tuple_of)) : FnOk P w K mg base CX0 (k + 1) f fd ["sizes", "value"] (spD K g_p_is_results) := fn_d F sc_p_is_results fun cdv A outer s H E hr =>
  (dss_cons (ds_if (DW.pt (dw_or (xt_not (xt_tru (xc G_is_small_sheet hr (by rfl) (xa_cons (de_v 0) xa_nil)))) (dw_or1 (xt_not (xt_tru (xc G_p_is_tuple_of hr (by rfl) (xa_cons (de_v 1) (xa_cons (xc G_number_of_cases hr (by rfl) (xa_cons (de_v 0) xa_nil)) xa_nil))))))))
    (dss_one (ds_ret de_bl))
    dss_nil)
  (dss_one (ds_ret (xcB (cd_all rfl) (by rfl) y_all (by decide +kernel) (xa_cons (xe_fr (df_lc (own := [("result", 2)]) rfl sc_p_is_results.nd (xi_seq (de_v 1)) (blkOk_by (by kernel_rfl)) (fun _ _ _ _ _ => (dg_name 2 sc_p_is_results.nd rfl (by first | exact Or.inl rfl | exact Or.inr rfl))) (fun _ _ _ _ _ => dts_nil) (fun _ _ _ _ _ => (xe_isi (n := "bool") (by decide) (by rfl) y_isinstance (by rfl) y_bool (by decide +kernel) (de_v 2))))) xa_nil)))))
theorem t_p_is_results {P : Program} {w : World} {K : PySem.W.Frag} {mg : Str → Option Value} {base : Heap} {f : Addr} {fd : FuncData} {k : Nat} (F : Fun K "_is_results" "_is_results" s_p_is_results f fd) (hb : Binds K fd ["sizes", "value"] []) (hm : mg "_is_results" = some (.ref f))
    (y_all : mg "all" = none)
    (y_bool : mg "bool" = none)
    (y_isinstance : mg "isinstance" = none)
    (G_number_of_cases : Has P w K mg base k "number_of_cases" ["sizes"] (spD K g_number_of_cases))
    (G_is_small_sheet : Has P w K mg base k "is_small_sheet" ["sizes"] (spD K g_is_small_sheet))
    (G_p_is_tuple_of : Has P w K mg base k "_is_tuple_of" ["value", "length"] (spD K g_p_is_tuple_of)) : Has P w K mg base (k + 1) "_is_results" ["sizes", "value"] (spD K g_p_is_results) := ⟨f, fd, f_p_is_results F hb hm y_all y_bool y_isinstance G_number_of_cases G_is_small_sheet G_p_is_tuple_of, hb, hm, F.kp⟩
abbrev s_p_is_short_form_outside : Stmt := top 28
theorem sc_p_is_short_form_outside : FnScope ["sizes", "word", "part"] ["sizes", "word", "part"] (defScope s_p_is_short_form_outside) := ⟨rfl, rfl, rfl, by decide +kernel, rfl, by decide +kernel, by decide +kernel⟩
theorem f_p_is_short_form_outside {P : Program} {w : World} {K : PySem.W.Frag} {mg : Str → Option Value} {base : Heap} {f : Addr} {fd : FuncData} {k : Nat} (F : Fun K "_is_short_form_outside" "_is_short_form_outside" s_p_is_short_form_outside f fd) (hb : Binds K fd ["sizes", "word", "part"] []) (hm : mg "_is_short_form_outside" = some (.ref f))
    (y_bool : mg "bool" = none)
    (m_JOINING_WORDS : CTup K mg "JOINING_WORDS" c_JOINING_WORDS)
    (y_isinstance : mg "isinstance" = none)
    (y_tuple : mg "tuple" = none)
    (G_p_is_results : Has P w K mg base k "_is_results" ["sizes", "value"] (spD K g_p_is_results)) : FnOk P w K mg base CX0 (k + 1) f fd ["sizes", "word", "part"] (spD K g_p_is_short_form_outside) := fn_d F sc_p_is_short_form_outside fun cdv A outer s H E hr =>
  (dss_cons (ds_if (xt_cmp (opd_eq hr) (de_v 1) de_str (nomark _))
    (dss_one (ds_ret (xe_isi (n := "bool") (by decide) (by rfl) y_isinstance (by rfl) y_bool (by decide +kernel) (de_v 2))))
    dss_nil)
  (dss_cons (ds_if (xt_cmp (opd_eq hr) (de_v 1) de_str (nomark _))
    (dss_one (ds_ret (xc G_p_is_results hr (by rfl) (xa_cons (de_v 0) (xa_cons (de_v 2) xa_nil)))))
    dss_nil)
  (dss_cons (ds_if (xt_cmp (opd_eq hr) (de_v 1) de_str (nomark _))
    (dss_one (ds_ret de_bl))
    dss_nil)
  (dss_one (ds_ret (de_and (xe_cmp (opd_in hr) (de_v 1) (m_JOINING_WORDS.de (by rfl)) (by rfl)) (de_one (xe_isi (n := "tuple") (by decide) (by rfl) y_isinstance (by rfl) y_tuple (by decide +kernel) (de_v 2)))))))))
theorem t_p_is_short_form_outside {P : Program} {w : World} {K : PySem.W.Frag} {mg : Str → Option Value} {base : Heap} {f : Addr} {fd : FuncData} {k : Nat} (F : Fun K "_is_short_form_outside" "_is_short_form_outside" s_p_is_short_form_outside f fd) (hb : Binds K fd ["sizes", "word", "part"] []) (hm : mg "_is_short_form_outside" = some (.ref f))
    (y_bool : mg "bool" = none)
    (m_JOINING_WORDS : CTup K mg "JOINING_WORDS" c_JOINING_WORDS)
    (y_isinstance : mg "isinstance" = none)
    (y_tuple : mg "tuple" = none)
    (G_p_is_results : Has P w K mg base k "_is_results" ["sizes", "value"] (spD K g_p_is_results)) : Has P w K mg base (k + 1) "_is_short_form_outside" ["sizes", "word", "part"] (spD K g_p_is_short_form_outside) := ⟨f, fd, f_p_is_short_form_outside F hb hm y_bool m_JOINING_WORDS y_isinstance y_tuple G_p_is_results, hb, hm, F.kp⟩
abbrev s_is_integer_below : Stmt := top 8
theorem sc_is_integer_below : FnScope ["value", "limit"] ["value", "limit"] (defScope s_is_integer_below) := ⟨rfl, rfl, rfl, by decide +kernel, rfl, by decide +kernel, by decide +kernel⟩
theorem f_is_integer_below {P : Program} {w : World} {K : PySem.W.Frag} {mg : Str → Option Value} {base : Heap} {f : Addr} {fd : FuncData} {k : Nat} (F : Fun K "is_integer_below" "is_integer_below" s_is_integer_below f fd) (hb : Binds K fd ["value", "limit"] []) (hm : mg "is_integer_below" = some (.ref f))
    (G_is_integer : Has P w K mg base k "is_integer" ["value"] (spD K g_is_integer)) : FnOk P w K mg base CX0 (k + 1) f fd ["value", "limit"] (spD K g_is_integer_below) := fn_d F sc_is_integer_below fun cdv A outer s H E hr =>
  (dss_one (ds_ret (de_and (xc G_is_integer hr (by rfl) (xa_cons (de_v 0) xa_nil)) (de_one (de_chain opd_le opd_lt de_int (de_v 0) (de_v 1))))))
theorem t_is_integer_below {P : Program} {w : World} {K : PySem.W.Frag} {mg : Str → Option Value} {base : Heap} {f : Addr} {fd : FuncData} {k : Nat} (F : Fun K "is_integer_below" "is_integer_below" s_is_integer_below f fd) (hb : Binds K fd ["value", "limit"] []) (hm : mg "is_integer_below" = some (.ref f))
    (G_is_integer : Has P w K mg base k "is_integer" ["value"] (spD K g_is_integer)) : Has P w K mg base (k + 1) "is_integer_below" ["value", "limit"] (spD K g_is_integer_below) := ⟨f, fd, f_is_integer_below F hb hm G_is_integer, hb, hm, F.kp⟩
abbrev s_are_ascending_below : Stmt := top 9
theorem sc_are_ascending_below : FnScope ["values", "limit", "least", "value"] ["values", "limit"] (defScope s_are_ascending_below) := ⟨rfl, rfl, rfl, by decide +kernel, rfl, by decide +kernel, by decide +kernel⟩
theorem f_are_ascending_below {P : Program} {w : World} {K : PySem.W.Frag} {mg : Str → Option Value} {base : Heap} {f : Addr} {fd : FuncData} {k : Nat} (F : Fun K "are_ascending_below" "are_ascending_below" s_are_ascending_below f fd) (hb : Binds K fd ["values", "limit"] []) (hm : mg "are_ascending_below" = some (.ref f))
    (G_is_integer_below : Has P w K mg base k "is_integer_below" ["value", "limit"] (spD K g_is_integer_below)) : FnOk P w K mg base CX0 (k + 1) f fd ["values", "limit"] (spD K g_are_ascending_below) := fn_d F sc_are_ascending_below fun cdv A outer s H E hr =>
  (dss_cons (ds_set (i := 2) sc_are_ascending_below.nd rfl (by first | exact Or.inl rfl | exact Or.inr rfl) de_int)
  (dss_cons (ds_for PassesOwn.never rfl (xi_seq (de_v 0)) (dg_name 3 sc_are_ascending_below.nd rfl (by first | exact Or.inl rfl | exact Or.inr rfl))
    (dss_cons (ds_if (DW.pt (dw_or (xt_not (xt_tru (xc G_is_integer_below hr (by rfl) (xa_cons (de_v 3) (xa_cons (de_v 1) xa_nil))))) (dw_or1 (xt_cmp opd_lt (de_v 3) (de_v 2) (nomark _)))))
    (dss_one (ds_ret de_bl))
    dss_nil)
  (dss_one (ds_set (i := 2) sc_are_ascending_below.nd rfl (by first | exact Or.inl rfl | exact Or.inr rfl) (xe_op opd_add (de_v 3) de_int)))))
  (dss_one (ds_ret de_bl))))
theorem t_are_ascending_below {P : Program} {w : World} {K : PySem.W.Frag} {mg : Str → Option Value} {base : Heap} {f : Addr} {fd : FuncData} {k : Nat} (F : Fun K "are_ascending_below" "are_ascending_below" s_are_ascending_below f fd) (hb : Binds K fd ["values", "limit"] []) (hm : mg "are_ascending_below" = some (.ref f))
    (G_is_integer_below : Has P w K mg base k "is_integer_below" ["value", "limit"] (spD K g_is_integer_below)) : Has P w K mg base (k + 1) "are_ascending_below" ["values", "limit"] (spD K g_are_ascending_below) := ⟨f, fd, f_are_ascending_below F hb hm G_is_integer_below, hb, hm, F.kp⟩
abbrev s_p_is_test : Stmt := top 31
theorem sc_p_is_test : FnScope ["sizes", "field", "values"] ["sizes", "field", "values"] (defScope s_p_is_test) := ⟨rfl, rfl, rfl, by decide +kernel, rfl, by decide +kernel, by decide +kernel⟩
theorem f_p_is_test {P : Program} {w : World} {K : PySem.W.Frag} {mg : Str → Option Value} {base : Heap} {f : Addr} {fd : FuncData} {k : Nat} (F : Fun K "_is_test" "_is_test" s_p_is_test f fd) (hb : Binds K fd ["sizes", "field", "values"] []) (hm : mg "_is_test" = some (.ref f))
    (y_isinstance : mg "isinstance" = none)
    (y_len : mg "len" = none)
    (y_tuple : mg "tuple" = none)
    (G_is_integer_below : Has P w K mg base k "is_integer_below" ["value", "limit"] (spD K g_is_integer_below))
    (G_are_ascending_below : Has P w K mg base k "are_ascending_below" ["values", "limit"] (spD K g_are_ascending_below)) : FnOk P w K mg base CX0 (k + 1) f fd ["sizes", "field", "values"] (spD K g_p_is_test) := fn_d F sc_p_is_test fun cdv A outer s H E hr =>
  (dss_cons (ds_if (DW.pt (dw_or (xt_not (xt_tru (xc G_is_integer_below hr (by rfl) (xa_cons (de_v 1) (xa_cons (xcB cd_len (by rfl) y_len (by decide +kernel) (xa_cons (de_v 0) xa_nil)) xa_nil))))) (dw_or1 (xt_not (xt_tru (xe_isi (n := "tuple") (by decide) (by rfl) y_isinstance (by rfl) y_tuple (by decide +kernel) (de_v 2)))))))
    (dss_one (ds_ret de_bl))
    dss_nil)
  (dss_one (ds_ret (xc G_are_ascending_below hr (by rfl) (xa_cons (de_v 2) (xa_cons (xe_ix (de_v 0) (de_v 1) (fun _ _ => rfl)) xa_nil))))))
theorem t_p_is_test {P : Program} {w : World} {K : PySem.W.Frag} {mg : Str → Option Value} {base : Heap} {f : Addr} {fd : FuncData} {k : Nat} (F : Fun K "_is_test" "_is_test" s_p_is_test f fd) (hb : Binds K fd ["sizes", "field", "values"] []) (hm : mg "_is_test" = some (.ref f))
    (y_isinstance : mg "isinstance" = none)
    (y_len : mg "len" = none)
    (y_tuple : mg "tuple" = none)
    (G_is_integer_below : Has P w K mg base k "is_integer_below" ["value", "limit"] (spD K g_is_integer_below))
    (G_are_ascending_below : Has P w K mg base k "are_ascending_below" ["values", "limit"] (spD K g_are_ascending_below)) : Has P w K mg base (k + 1) "_is_test" ["sizes", "field", "values"] (spD K g_p_is_test) := ⟨f, fd, f_p_is_test F hb hm y_isinstance y_len y_tuple G_is_integer_below G_are_ascending_below, hb, hm, F.kp⟩
abbrev s_p_is_condition : Stmt := top 32
theorem sc_p_is_condition : FnScope ["sizes", "value"] ["sizes", "value"] (defScope s_p_is_condition) := ⟨rfl, rfl, rfl, by decide +kernel, rfl, by decide +kernel, by decide +kernel⟩
theorem f_p_is_condition {P : Program} {w : World} {K : PySem.W.Frag} {mg : Str → Option Value} {base : Heap} {f : Addr} {fd : FuncData} {k : Nat} (F : Fun K "_is_condition" "_is_condition" s_p_is_condition f fd) (hb : Binds K fd ["sizes", "value"] []) (hm : mg "_is_condition" = some (.ref f))
    (G_p_is_tuple_of : Has P w K mg base k "_is_tuple_of" ["value", "length"] (spD K g_p_is_tuple_of))
    (G_p_is_test : Has P w K mg base k "_is_test" ["sizes", "field", "values"] (spD K g_p_is_test)) : FnOk P w K mg base CX0 (k + 1) f fd ["sizes", "value"] (spD K g_p_is_condition) := fn_d F sc_p_is_condition fun cdv A outer s H E hr =>
  (dss_one (ds_ret (de_and (xc G_p_is_tuple_of hr (by rfl) (xa_cons (de_v 1) (xa_cons de_int xa_nil))) (de_one (xc G_p_is_test hr (by rfl) (xa_cons (de_v 0) (xa_cons (xe_ix (de_v 1) de_int (fun _ _ => rfl)) (xa_cons (xe_ix (de_v 1) de_int (fun _ _ => rfl)) xa_nil))))))))
theorem t_p_is_condition {P : Program} {w : World} {K : PySem.W.Frag} {mg : Str → Option Value} {base : Heap} {f : Addr} {fd : FuncData} {k : Nat} (F : Fun K "_is_condition" "_is_condition" s_p_is_condition f fd) (hb : Binds K fd ["sizes", "value"] []) (hm : mg "_is_condition" = some (.ref f))
    (G_p_is_tuple_of : Has P w K mg base k "_is_tuple_of" ["value", "length"] (spD K g_p_is_tuple_of))
    (G_p_is_test : Has P w K mg base k "_is_test" ["sizes", "field", "values"] (spD K g_p_is_test)) : Has P w K mg base (k + 1) "_is_condition" ["sizes", "value"] (spD K g_p_is_condition) := ⟨f, fd, f_p_is_condition F hb hm G_p_is_tuple_of G_p_is_test, hb, hm, F.kp⟩
abbrev s_is_conditions : Stmt := top 26
theorem sc_is_conditions : FnScope ["sizes", "value", "part"] ["sizes", "value"] (defScope s_is_conditions) := ⟨rfl, rfl, rfl, by decide +kernel, rfl, by decide +kernel, by decide +kernel⟩
theorem f_is_conditions {P : Program} {w : World} {K : PySem.W.Frag} {mg : Str → Option Value} {base : Heap} {f : Addr} {fd : FuncData} {k : Nat} (F : Fun K "is_conditions" "is_conditions" s_is_conditions f fd) (hb : Binds K fd ["sizes", "value"] []) (hm : mg "is_conditions" = some (.ref f))
    (y_all : mg "all" = none)
    (y_isinstance : mg "isinstance" = none)
    (y_len : mg "len" = none)
    (y_tuple : mg "tuple" = none)
    (G_are_ascending_below : Has P w K mg base k "are_ascending_below" ["values", "limit"] (spD K g_are_ascending_below))
    (G_p_is_condition : Has P w K mg base k "_is_condition" ["sizes", "value"] (spD K g_p_is_condition)) : FnOk P w K mg base CX0 (k + 1) f fd ["sizes", "value"] (spD K g_is_conditions) := fn_d F sc_is_conditions fun cdv A outer s H E hr =>
  (dss_cons (ds_if (DW.pt (dw_or (xt_not (xt_tru (xe_isi (n := "tuple") (by decide) (by rfl) y_isinstance (by rfl) y_tuple (by decide +kernel) (de_v 1)))) (dw_or1 (xt_not (xt_tru (xcB (cd_all rfl) (by rfl) y_all (by decide +kernel) (xa_cons (xe_fr (df_lc (own := [("part", 2)]) rfl sc_is_conditions.nd (xi_seq (de_v 1)) (blkOk_by (by kernel_rfl)) (fun _ _ _ _ _ => (dg_name 2 sc_is_conditions.nd rfl (by first | exact Or.inl rfl | exact Or.inr rfl))) (fun _ _ _ _ _ => dts_nil) (fun _ _ _ _ _ => (xc G_p_is_condition hr (by rfl) (xa_cons (de_v 0) (xa_cons (de_v 2) xa_nil)))))) xa_nil)))))))
    (dss_one (ds_ret de_bl))
    dss_nil)
  (dss_one (ds_ret (xc G_are_ascending_below hr (by rfl) (xa_cons (xe_fr (df_lc (own := [("part", 2)]) rfl sc_is_conditions.nd (xi_seq (de_v 1)) (blkOk_by (by kernel_rfl)) (fun _ _ _ _ _ => (dg_name 2 sc_is_conditions.nd rfl (by first | exact Or.inl rfl | exact Or.inr rfl))) (fun _ _ _ _ _ => dts_nil) (fun _ _ _ _ _ => (xe_ix (de_v 2) de_int (fun _ _ => rfl))))) (xa_cons (xcB cd_len (by rfl) y_len (by decide +kernel) (xa_cons (de_v 0) xa_nil)) xa_nil))))))
theorem t_is_conditions {P : Program} {w : World} {K : PySem.W.Frag} {mg : Str → Option Value} {base : Heap} {f : Addr} {fd : FuncData} {k : Nat} (F : Fun K "is_conditions" "is_conditions" s_is_conditions f fd) (hb : Binds K fd ["sizes", "value"] []) (hm : mg "is_conditions" = some (.ref f))
    (y_all : mg "all" = none)
    (y_isinstance : mg "isinstance" = none)
    (y_len : mg "len" = none)
    (y_tuple : mg "tuple" = none)
    (G_are_ascending_below : Has P w K mg base k "are_ascending_below" ["values", "limit"] (spD K g_are_ascending_below))
    (G_p_is_condition : Has P w K mg base k "_is_condition" ["sizes", "value"] (spD K g_p_is_condition)) : Has P w K mg base (k + 1) "is_conditions" ["sizes", "value"] (spD K g_is_conditions) := ⟨f, fd, f_is_conditions F hb hm y_all y_isinstance y_len y_tuple G_are_ascending_below G_p_is_condition, hb, hm, F.kp⟩
abbrev s_p_is_rule : Stmt := top 33
theorem sc_p_is_rule : FnScope ["sizes", "value"] ["sizes", "value"] (defScope s_p_is_rule) := ⟨rfl, rfl, rfl, by decide +kernel, rfl, by decide +kernel, by decide +kernel⟩
theorem f_p_is_rule {P : Program} {w : World} {K : PySem.W.Frag} {mg : Str → Option Value} {base : Heap} {f : Addr} {fd : FuncData} {k : Nat} (F : Fun K "_is_rule" "_is_rule" s_p_is_rule f fd) (hb : Binds K fd ["sizes", "value"] []) (hm : mg "_is_rule" = some (.ref f))
    (y_bool : mg "bool" = none)
    (y_isinstance : mg "isinstance" = none)
    (G_is_conditions : Has P w K mg base k "is_conditions" ["sizes", "value"] (spD K g_is_conditions))
    (G_p_is_tuple_of : Has P w K mg base k "_is_tuple_of" ["value", "length"] (spD K g_p_is_tuple_of)) : FnOk P w K mg base CX0 (k + 1) f fd ["sizes", "value"] (spD K g_p_is_rule) := fn_d F sc_p_is_rule fun cdv A outer s H E hr =>
  (dss_one (ds_ret (de_and (xc G_p_is_tuple_of hr (by rfl) (xa_cons (de_v 1) (xa_cons de_int xa_nil))) (de_and (xc G_is_conditions hr (by rfl) (xa_cons (de_v 0) (xa_cons (xe_ix (de_v 1) de_int (fun _ _ => rfl)) xa_nil))) (de_one (xe_isi (n := "bool") (by decide) (by rfl) y_isinstance (by rfl) y_bool (by decide +kernel) (xe_ix (de_v 1) de_int (fun _ _ => rfl))))))))
theorem t_p_is_rule {P : Program} {w : World} {K : PySem.W.Frag} {mg : Str → Option Value} {base : Heap} {f : Addr} {fd : FuncData} {k : Nat} (F : Fun K "_is_rule" "_is_rule" s_p_is_rule f fd) (hb : Binds K fd ["sizes", "value"] []) (hm : mg "_is_rule" = some (.ref f))
    (y_bool : mg "bool" = none)
    (y_isinstance : mg "isinstance" = none)
    (G_is_conditions : Has P w K mg base k "is_conditions" ["sizes", "value"] (spD K g_is_conditions))
    (G_p_is_tuple_of : Has P w K mg base k "_is_tuple_of" ["value", "length"] (spD K g_p_is_tuple_of)) : Has P w K mg base (k + 1) "_is_rule" ["sizes", "value"] (spD K g_p_is_rule) := ⟨f, fd, f_p_is_rule F hb hm y_bool y_isinstance G_is_conditions G_p_is_tuple_of, hb, hm, F.kp⟩
abbrev s_p_is_rules : Stmt := top 34
theorem sc_p_is_rules : FnScope ["sizes", "value", "part"] ["sizes", "value"] (defScope s_p_is_rules) := ⟨rfl, rfl, rfl, by decide +kernel, rfl, by decide +kernel, by decide +kernel⟩
theorem f_p_is_rules {P : Program} {w : World} {K : PySem.W.Frag} {mg : Str → Option Value} {base : Heap} {f : Addr} {fd : FuncData} {k : Nat} (F : Fun K "_is_rules" "_is_rules" s_p_is_rules f fd) (hb : Binds K fd ["sizes", "value"] []) (hm : mg "_is_rules" = some (.ref f))
    (y_all : mg "all" = none)
    (y_isinstance : mg "isinstance" = none)
    (y_tuple : mg "tuple" = none)
    (G_p_is_rule : Has P w K mg base k "_is_rule" ["sizes", "value"] (spD K g_p_is_rule)) : FnOk P w K mg base CX0 (k + 1) f fd ["sizes", "value"] (spD K g_p_is_rules) := fn_d F sc_p_is_rules fun cdv A outer s H E hr =>
  (dss_one (ds_ret (de_and (xe_isi (n := "tuple") (by decide) (by rfl) y_isinstance (by rfl) y_tuple (by decide +kernel) (de_v 1)) (de_one (xcB (cd_all rfl) (by rfl) y_all (by decide +kernel) (xa_cons (xe_fr (df_lc (own := [("part", 2)]) rfl sc_p_is_rules.nd (xi_seq (de_v 1)) (blkOk_by (by kernel_rfl)) (fun _ _ _ _ _ => (dg_name 2 sc_p_is_rules.nd rfl (by first | exact Or.inl rfl | exact Or.inr rfl))) (fun _ _ _ _ _ => dts_nil) (fun _ _ _ _ _ => (xc G_p_is_rule hr (by rfl) (xa_cons (de_v 0) (xa_cons (de_v 2) xa_nil)))))) xa_nil))))))
theorem t_p_is_rules {P : Program} {w : World} {K : PySem.W.Frag} {mg : Str → Option Value} {base : Heap} {f : Addr} {fd : FuncData} {k : Nat} (F : Fun K "_is_rules" "_is_rules" s_p_is_rules f fd) (hb : Binds K fd ["sizes", "value"] []) (hm : mg "_is_rules" = some (.ref f))
    (y_all : mg "all" = none)
    (y_isinstance : mg "isinstance" = none)
    (y_tuple : mg "tuple" = none)
    (G_p_is_rule : Has P w K mg base k "_is_rule" ["sizes", "value"] (spD K g_p_is_rule)) : Has P w K mg base (k + 1) "_is_rules" ["sizes", "value"] (spD K g_p_is_rules) := ⟨f, fd, f_p_is_rules F hb hm y_all y_isinstance y_tuple G_p_is_rule, hb, hm, F.kp⟩
abbrev s_p_are_integers : Stmt := top 36
theorem sc_p_are_integers : FnScope ["values", "value"] ["values"] (defScope s_p_are_integers) := ⟨rfl, rfl, rfl, by decide +kernel, rfl, by decide +kernel, by decide +kernel⟩
theorem f_p_are_integers {P : Program} {w : World} {K : PySem.W.Frag} {mg : Str → Option Value} {base : Heap} {f : Addr} {fd : FuncData} {k : Nat} (F : Fun K "_are_integers" "_are_integers" s_p_are_integers f fd) (hb : Binds K fd ["values"] []) (hm : mg "_are_integers" = some (.ref f))
    (y_all : mg "all" = none)
    (G_is_integer : Has P w K mg base k "is_integer" ["value"] (spD K g_is_integer)) : FnOk P w K mg base CX0 (k + 1) f fd ["values"] (spD K g_p_are_integers) := fn_d F sc_p_are_integers fun cdv A outer s H E hr =>
  (dss_one (ds_ret (xcB (cd_all rfl) (by rfl) y_all (by decide +kernel) (xa_cons (xe_fr (df_lc (own := [("value", 1)]) rfl sc_p_are_integers.nd (xi_seq (de_v 0)) (blkOk_by (by kernel_rfl)) (fun _ _ _ _ _ => (dg_name 1 sc_p_are_integers.nd rfl (by first | exact Or.inl rfl | exact Or.inr rfl))) (fun _ _ _ _ _ => dts_nil) (fun _ _ _ _ _ => (xc G_is_integer hr (by rfl) (xa_cons (de_v 1) xa_nil))))) xa_nil))))
theorem t_p_are_integers {P : Program} {w : World} {K : PySem.W.Frag} {mg : Str → Option Value} {base : Heap} {f : Addr} {fd : FuncData} {k : Nat} (F : Fun K "_are_integers" "_are_integers" s_p_are_integers f fd) (hb : Binds K fd ["values"] []) (hm : mg "_are_integers" = some (.ref f))
    (y_all : mg "all" = none)
    (G_is_integer : Has P w K mg base k "is_integer" ["value"] (spD K g_is_integer)) : Has P w K mg base (k + 1) "_are_integers" ["values"] (spD K g_p_are_integers) := ⟨f, fd, f_p_are_integers F hb hm y_all G_is_integer, hb, hm, F.kp⟩
abbrev s_p_is_weights : Stmt := top 35
theorem sc_p_is_weights : FnScope ["sizes", "value", "at"] ["sizes", "value"] (defScope s_p_is_weights) := ⟨rfl, rfl, rfl, by decide +kernel, rfl, by decide +kernel, by decide +kernel⟩
theorem f_p_is_weights {P : Program} {w : World} {K : PySem.W.Frag} {mg : Str → Option Value} {base : Heap} {f : Addr} {fd : FuncData} {k : Nat} (F : Fun K "_is_weights" "_is_weights" s_p_is_weights f fd) (hb : Binds K fd ["sizes", "value"] []) (hm : mg "_is_weights" = some (.ref f))
    (y_all : mg "all" = none)
    (y_len : mg "len" = none)
    (y_range : mg "range" = none)
    (G_p_is_tuple_of : Has P w K mg base k "_is_tuple_of" ["value", "length"] (spD K g_p_is_tuple_of))
    (G_p_are_integers : Has P w K mg base k "_are_integers" ["values"] (spD K g_p_are_integers)) : FnOk P w K mg base CX0 (k + 1) f fd ["sizes", "value"] (spD K g_p_is_weights) := fn_d F sc_p_is_weights fun cdv A outer s H E hr =>
  (dss_cons (ds_if (xt_not (xt_tru (xc G_p_is_tuple_of hr (by rfl) (xa_cons (de_v 1) (xa_cons (xcB cd_len (by rfl) y_len (by decide +kernel) (xa_cons (de_v 0) xa_nil)) xa_nil)))))
    (dss_one (ds_ret de_bl))
    dss_nil)
  (dss_one (ds_ret (xcB (cd_all rfl) (by rfl) y_all (by decide +kernel) (xa_cons (xe_fr (df_lc (own := [("at", 2)]) rfl sc_p_is_weights.nd (xi_range1 (by rfl) y_range (xa_cons (xcB cd_len (by rfl) y_len (by decide +kernel) (xa_cons (de_v 0) xa_nil)) xa_nil)) (blkOk_by (by kernel_rfl)) (fun _ _ _ _ _ => (dg_name 2 sc_p_is_weights.nd rfl (by first | exact Or.inl rfl | exact Or.inr rfl))) (fun _ _ _ _ _ => dts_nil) (fun _ _ _ _ _ => (de_and (xc G_p_is_tuple_of hr (by rfl) (xa_cons (xe_ix (de_v 1) (de_v 2) (fun _ _ => rfl)) (xa_cons (xe_ix (de_v 0) (de_v 2) (fun _ _ => rfl)) xa_nil))) (de_one (xc G_p_are_integers hr (by rfl) (xa_cons (xe_ix (de_v 1) (de_v 2) (fun _ _ => rfl)) xa_nil))))))) xa_nil)))))
theorem t_p_is_weights {P : Program} {w : World} {K : PySem.W.Frag} {mg : Str → Option Value} {base : Heap} {f : Addr} {fd : FuncData} {k : Nat} (F : Fun K "_is_weights" "_is_weights" s_p_is_weights f fd) (hb : Binds K fd ["sizes", "value"] []) (hm : mg "_is_weights" = some (.ref f))
    (y_all : mg "all" = none)
    (y_len : mg "len" = none)
    (y_range : mg "range" = none)
    (G_p_is_tuple_of : Has P w K mg base k "_is_tuple_of" ["value", "length"] (spD K g_p_is_tuple_of))
    (G_p_are_integers : Has P w K mg base k "_are_integers" ["values"] (spD K g_p_are_integers)) : Has P w K mg base (k + 1) "_is_weights" ["sizes", "value"] (spD K g_p_is_weights) := ⟨f, fd, f_p_is_weights F hb hm y_all y_len y_range G_p_is_tuple_of G_p_are_integers, hb, hm, F.kp⟩
abbrev s_p_is_long_form_outside : Stmt := top 29
theorem sc_p_is_long_form_outside : FnScope ["sizes", "word", "part", "second_part"] ["sizes", "word", "part", "second_part"] (defScope s_p_is_long_form_outside) := ⟨rfl, rfl, rfl, by decide +kernel, rfl, by decide +kernel, by decide +kernel⟩
theorem f_p_is_long_form_outside {P : Program} {w : World} {K : PySem.W.Frag} {mg : Str → Option Value} {base : Heap} {f : Addr} {fd : FuncData} {k : Nat} (F : Fun K "_is_long_form_outside" "_is_long_form_outside" s_p_is_long_form_outside f fd) (hb : Binds K fd ["sizes", "word", "part", "second_part"] []) (hm : mg "_is_long_form_outside" = some (.ref f))
    (y_bool : mg "bool" = none)
    (y_isinstance : mg "isinstance" = none)
    (y_len : mg "len" = none)
    (G_is_integer : Has P w K mg base k "is_integer" ["value"] (spD K g_is_integer))
    (G_is_integer_below : Has P w K mg base k "is_integer_below" ["value", "limit"] (spD K g_is_integer_below))
    (G_p_is_tuple_of : Has P w K mg base k "_is_tuple_of" ["value", "length"] (spD K g_p_is_tuple_of))
    (G_p_is_test : Has P w K mg base k "_is_test" ["sizes", "field", "values"] (spD K g_p_is_test))
    (G_p_is_rules : Has P w K mg base k "_is_rules" ["sizes", "value"] (spD K g_p_is_rules))
    (G_p_is_weights : Has P w K mg base k "_is_weights" ["sizes", "value"] (spD K g_p_is_weights)) : FnOk P w K mg base CX0 (k + 1) f fd ["sizes", "word", "part", "second_part"] (spD K g_p_is_long_form_outside) := fn_d F sc_p_is_long_form_outside fun cdv A outer s H E hr =>
  (dss_cons (ds_if (xt_cmp (opd_eq hr) (de_v 1) de_str (nomark _))
    (dss_one (ds_ret (xc G_p_is_test hr (by rfl) (xa_cons (de_v 0) (xa_cons (de_v 2) (xa_cons (de_v 3) xa_nil))))))
    dss_nil)
  (dss_cons (ds_if (xt_cmp (opd_eq hr) (de_v 1) de_str (nomark _))
    (dss_one (ds_ret (de_and (xc G_is_integer_below hr (by rfl) (xa_cons (de_v 2) (xa_cons (xcB cd_len (by rfl) y_len (by decide +kernel) (xa_cons (de_v 0) xa_nil)) xa_nil))) (de_one (xc G_p_is_tuple_of hr (by rfl) (xa_cons (de_v 3) (xa_cons (xe_ix (de_v 0) (de_v 2) (fun _ _ => rfl)) xa_nil)))))))
    dss_nil)
  (dss_cons (ds_if (xt_cmp (opd_eq hr) (de_v 1) de_str (nomark _))
    (dss_one (ds_ret (de_and (xc G_p_is_rules hr (by rfl) (xa_cons (de_v 0) (xa_cons (de_v 2) xa_nil))) (de_one (xe_isi (n := "bool") (by decide) (by rfl) y_isinstance (by rfl) y_bool (by decide +kernel) (de_v 3))))))
    dss_nil)
  (dss_one (ds_ret (de_and (xe_cmp (opd_eq hr) (de_v 1) de_str (nomark _)) (de_and (xc G_p_is_weights hr (by rfl) (xa_cons (de_v 0) (xa_cons (de_v 2) xa_nil))) (de_one (xc G_is_integer hr (by rfl) (xa_cons (de_v 3) xa_nil))))))))))
theorem t_p_is_long_form_outside {P : Program} {w : World} {K : PySem.W.Frag} {mg : Str → Option Value} {base : Heap} {f : Addr} {fd : FuncData} {k : Nat} (F : Fun K "_is_long_form_outside" "_is_long_form_outside" s_p_is_long_form_outside f fd) (hb : Binds K fd ["sizes", "word", "part", "second_part"] []) (hm : mg "_is_long_form_outside" = some (.ref f))
    (y_bool : mg "bool" = none)
    (y_isinstance : mg "isinstance" = none)
    (y_len : mg "len" = none)
    (G_is_integer : Has P w K mg base k "is_integer" ["value"] (spD K g_is_integer))
    (G_is_integer_below : Has P w K mg base k "is_integer_below" ["value", "limit"] (spD K g_is_integer_below))
    (G_p_is_tuple_of : Has P w K mg base k "_is_tuple_of" ["value", "length"] (spD K g_p_is_tuple_of))
    (G_p_is_test : Has P w K mg base k "_is_test" ["sizes", "field", "values"] (spD K g_p_is_test))
    (G_p_is_rules : Has P w K mg base k "_is_rules" ["sizes", "value"] (spD K g_p_is_rules))
    (G_p_is_weights : Has P w K mg base k "_is_weights" ["sizes", "value"] (spD K g_p_is_weights)) : Has P w K mg base (k + 1) "_is_long_form_outside" ["sizes", "word", "part", "second_part"] (spD K g_p_is_long_form_outside) := ⟨f, fd, f_p_is_long_form_outside F hb hm y_bool y_isinstance y_len G_is_integer G_is_integer_below G_p_is_tuple_of G_p_is_test G_p_is_rules G_p_is_weights, hb, hm, F.kp⟩
abbrev s_p_is_form_outside : Stmt := top 27
theorem sc_p_is_form_outside : FnScope ["sizes", "value"] ["sizes", "value"] (defScope s_p_is_form_outside) := ⟨rfl, rfl, rfl, by decide +kernel, rfl, by decide +kernel, by decide +kernel⟩
theorem f_p_is_form_outside {P : Program} {w : World} {K : PySem.W.Frag} {mg : Str → Option Value} {base : Heap} {f : Addr} {fd : FuncData} {k : Nat} (F : Fun K "_is_form_outside" "_is_form_outside" s_p_is_form_outside f fd) (hb : Binds K fd ["sizes", "value"] []) (hm : mg "_is_form_outside" = some (.ref f))
    (y_isinstance : mg "isinstance" = none)
    (y_len : mg "len" = none)
    (y_str : mg "str" = none)
    (y_tuple : mg "tuple" = none)
    (G_p_is_short_form_outside : Has P w K mg base k "_is_short_form_outside" ["sizes", "word", "part"] (spD K g_p_is_short_form_outside))
    (G_p_is_long_form_outside : Has P w K mg base k "_is_long_form_outside" ["sizes", "word", "part", "second_part"] (spD K g_p_is_long_form_outside)) : FnOk P w K mg base CX0 (k + 1) f fd ["sizes", "value"] (spD K g_p_is_form_outside) := fn_d F sc_p_is_form_outside fun cdv A outer s H E hr =>
  (dss_cons (ds_if (DW.pt (dw_or (xt_not (xt_tru (xe_isi (n := "tuple") (by decide) (by rfl) y_isinstance (by rfl) y_tuple (by decide +kernel) (de_v 1)))) (dw_or (xt_cmp (opd_eq hr) (xcB cd_len (by rfl) y_len (by decide +kernel) (xa_cons (de_v 1) xa_nil)) de_int (nomark _)) (dw_or1 (xt_not (xt_tru (xe_isi (n := "str") (by decide) (by rfl) y_isinstance (by rfl) y_str (by decide +kernel) (xe_ix (de_v 1) de_int (fun _ _ => rfl)))))))))
    (dss_one (ds_ret de_bl))
    dss_nil)
  (dss_cons (ds_if (xt_cmp (opd_eq hr) (xcB cd_len (by rfl) y_len (by decide +kernel) (xa_cons (de_v 1) xa_nil)) de_int (nomark _))
    (dss_one (ds_ret (xc G_p_is_short_form_outside hr (by rfl) (xa_cons (de_v 0) (xa_cons (xe_ix (de_v 1) de_int (fun _ _ => rfl)) (xa_cons (xe_ix (de_v 1) de_int (fun _ _ => rfl)) xa_nil))))))
    dss_nil)
  (dss_one (ds_ret (de_and (xe_cmp (opd_eq hr) (xcB cd_len (by rfl) y_len (by decide +kernel) (xa_cons (de_v 1) xa_nil)) de_int (nomark _)) (de_one (xc G_p_is_long_form_outside hr (by rfl) (xa_cons (de_v 0) (xa_cons (xe_ix (de_v 1) de_int (fun _ _ => rfl)) (xa_cons (xe_ix (de_v 1) de_int (fun _ _ => rfl)) (xa_cons (xe_ix (de_v 1) de_int (fun _ _ => rfl)) xa_nil)))))))))))
theorem t_p_is_form_outside {P : Program} {w : World} {K : PySem.W.Frag} {mg : Str → Option Value} {base : Heap} {f : Addr} {fd : FuncData} {k : Nat} (F : Fun K "_is_form_outside" "_is_form_outside" s_p_is_form_outside f fd) (hb : Binds K fd ["sizes", "value"] []) (hm : mg "_is_form_outside" = some (.ref f))
    (y_isinstance : mg "isinstance" = none)
    (y_len : mg "len" = none)
    (y_str : mg "str" = none)
    (y_tuple : mg "tuple" = none)
    (G_p_is_short_form_outside : Has P w K mg base k "_is_short_form_outside" ["sizes", "word", "part"] (spD K g_p_is_short_form_outside))
    (G_p_is_long_form_outside : Has P w K mg base k "_is_long_form_outside" ["sizes", "word", "part", "second_part"] (spD K g_p_is_long_form_outside)) : Has P w K mg base (k + 1) "_is_form_outside" ["sizes", "value"] (spD K g_p_is_form_outside) := ⟨f, fd, f_p_is_form_outside F hb hm y_isinstance y_len y_str y_tuple G_p_is_short_form_outside G_p_is_long_form_outside, hb, hm, F.kp⟩
abbrev s_has_form_shape : Stmt := top 25
theorem sc_has_form_shape : FnScope ["sizes", "value", "left", "part"] ["sizes", "value"] (defScope s_has_form_shape) := ⟨rfl, rfl, rfl, by decide +kernel, rfl, by decide +kernel, by decide +kernel⟩
theorem f_has_form_shape {P : Program} {w : World} {K : PySem.W.Frag} {mg : Str → Option Value} {base : Heap} {f : Addr} {fd : FuncData} {k : Nat} (F : Fun K "has_form_shape" "has_form_shape" s_has_form_shape f fd) (hb : Binds K fd ["sizes", "value"] []) (hm : mg "has_form_shape" = some (.ref f))
    (G_inner_forms : Has P w K mg base k "inner_forms" ["form"] (spD K g_inner_forms))
    (G_p_is_form_outside : Has P w K mg base k "_is_form_outside" ["sizes", "value"] (spD K g_p_is_form_outside)) : FnOk P w K mg base CX0 (k + 1) f fd ["sizes", "value"] (spD K g_has_form_shape) := fn_d F sc_has_form_shape fun cdv A outer s H E hr =>
  (dss_cons (ds_own (i := 2) sc_has_form_shape.nd rfl (by first | exact Or.inl rfl | exact Or.inr rfl) (xf_lst (xa_cons (de_v 1) xa_nil)))
  (dss_cons (ds_while WH PassesOwn.never (dt_truO 2)
    (dss_cons (ds_set (i := 3) sc_has_form_shape.nd rfl (by first | exact Or.inl rfl | exact Or.inr rfl) (de_pop 2 (hpe := pe_bm0 PySem.F.plainAttrs_list PySem.F.slot_list_pop PySem.F.type_list_pop mt_pop (pv 2))))
  (dss_cons (ds_if (xt_not (xt_tru (xc G_p_is_form_outside hr (by rfl) (xa_cons (de_v 0) (xa_cons (de_v 3) xa_nil)))))
    (dss_one (ds_ret de_bl))
    dss_nil)
  (dss_one (ds_ext 2 (te := _) (fun _ _ _ _ h => h) (ps_expr (pe_bm PySem.F.plainAttrs_list PySem.F.slot_list_extend PySem.F.type_list_extend mt_extendA (pv 2) (pa_cons ((show DE _ _ _ _ _ from (xc G_inner_forms hr (by rfl) (xa_cons (de_v 3) xa_nil))).pe rfl) pa_nil))))))))
  (dss_one (ds_ret de_bl))))
theorem t_has_form_shape {P : Program} {w : World} {K : PySem.W.Frag} {mg : Str → Option Value} {base : Heap} {f : Addr} {fd : FuncData} {k : Nat} (F : Fun K "has_form_shape" "has_form_shape" s_has_form_shape f fd) (hb : Binds K fd ["sizes", "value"] []) (hm : mg "has_form_shape" = some (.ref f))
    (G_inner_forms : Has P w K mg base k "inner_forms" ["form"] (spD K g_inner_forms))
    (G_p_is_form_outside : Has P w K mg base k "_is_form_outside" ["sizes", "value"] (spD K g_p_is_form_outside)) : Has P w K mg base (k + 1) "has_form_shape" ["sizes", "value"] (spD K g_has_form_shape) := ⟨f, fd, f_has_form_shape F hb hm G_inner_forms G_p_is_form_outside, hb, hm, F.kp⟩
abbrev s_check_form : Stmt := top 39
theorem sc_check_form : FnScope ["sizes", "form"] ["sizes", "form"] (defScope s_check_form) := ⟨rfl, rfl, rfl, by decide +kernel, rfl, by decide +kernel, by decide +kernel⟩
theorem f_check_form {P : Program} {w : World} {K : PySem.W.Frag} {mg : Str → Option Value} {base : Heap} {f : Addr} {fd : FuncData} {k : Nat} (F : Fun K "check_form" "check_form" s_check_form f fd) (hb : Binds K fd ["sizes", "form"] []) (hm : mg "check_form" = some (.ref f))
    (G_has_form_shape : Has P w K mg base k "has_form_shape" ["sizes", "value"] (spD K g_has_form_shape)) : FnOk P w K mg base CX0 (k + 1) f fd ["sizes", "form"] (spD K g_check_form) := fn_d F sc_check_form fun cdv A outer s H E hr =>
  (dss_one (ds_if (xt_not (xt_tru (xc G_has_form_shape hr (by rfl) (xa_cons (de_v 0) (xa_cons (de_v 1) xa_nil)))))
    (dss_one xs_no)
    dss_nil))
theorem t_check_form {P : Program} {w : World} {K : PySem.W.Frag} {mg : Str → Option Value} {base : Heap} {f : Addr} {fd : FuncData} {k : Nat} (F : Fun K "check_form" "check_form" s_check_form f fd) (hb : Binds K fd ["sizes", "form"] []) (hm : mg "check_form" = some (.ref f))
    (G_has_form_shape : Has P w K mg base k "has_form_shape" ["sizes", "value"] (spD K g_has_form_shape)) : Has P w K mg base (k + 1) "check_form" ["sizes", "form"] (spD K g_check_form) := ⟨f, fd, f_check_form F hb hm G_has_form_shape, hb, hm, F.kp⟩
abbrev s_check_answer : Stmt := top 40
theorem sc_check_answer : FnScope ["result"] ["result"] (defScope s_check_answer) := ⟨rfl, rfl, rfl, by decide +kernel, rfl, by decide +kernel, by decide +kernel⟩
theorem f_check_answer {P : Program} {w : World} {K : PySem.W.Frag} {mg : Str → Option Value} {base : Heap} {f : Addr} {fd : FuncData} {k : Nat} (F : Fun K "check_answer" "check_answer" s_check_answer f fd) (hb : Binds K fd ["result"] []) (hm : mg "check_answer" = some (.ref f))
    (y_bool : mg "bool" = none)
    (y_isinstance : mg "isinstance" = none) : FnOk P w K mg base CX0 (k + 1) f fd ["result"] (spD K g_check_answer) := fn_d F sc_check_answer fun cdv A outer s H E hr =>
  (dss_one (ds_if (xt_not (xt_tru (xe_isi (n := "bool") (by decide) (by rfl) y_isinstance (by rfl) y_bool (by decide +kernel) (de_v 0))))
    (dss_one xs_no)
    dss_nil))
theorem t_check_answer {P : Program} {w : World} {K : PySem.W.Frag} {mg : Str → Option Value} {base : Heap} {f : Addr} {fd : FuncData} {k : Nat} (F : Fun K "check_answer" "check_answer" s_check_answer f fd) (hb : Binds K fd ["result"] []) (hm : mg "check_answer" = some (.ref f))
    (y_bool : mg "bool" = none)
    (y_isinstance : mg "isinstance" = none) : Has P w K mg base (k + 1) "check_answer" ["result"] (spD K g_check_answer) := ⟨f, fd, f_check_answer F hb hm y_bool y_isinstance, hb, hm, F.kp⟩
abbrev s_p_check_form_and_answer : Stmt := top 53
theorem sc_p_check_form_and_answer : FnScope ["sizes", "form", "result"] ["sizes", "form", "result"] (defScope s_p_check_form_and_answer) := ⟨rfl, rfl, rfl, by decide +kernel, rfl, by decide +kernel, by decide +kernel⟩
theorem f_p_check_form_and_answer {P : Program} {w : World} {K : PySem.W.Frag} {mg : Str → Option Value} {base : Heap} {f : Addr} {fd : FuncData} {k : Nat} (F : Fun K "_check_form_and_answer" "_check_form_and_answer" s_p_check_form_and_answer f fd) (hb : Binds K fd ["sizes", "form", "result"] []) (hm : mg "_check_form_and_answer" = some (.ref f))
    (G_check_sizes : Has P w K mg base k "check_sizes" ["sizes"] (spD K g_check_sizes))
    (G_check_form : Has P w K mg base k "check_form" ["sizes", "form"] (spD K g_check_form))
    (G_check_answer : Has P w K mg base k "check_answer" ["result"] (spD K g_check_answer)) : FnOk P w K mg base CX0 (k + 1) f fd ["sizes", "form", "result"] (spD K g_p_check_form_and_answer) := fn_d F sc_p_check_form_and_answer fun cdv A outer s H E hr =>
  (dss_cons (ds_expr (xc G_check_sizes hr (by rfl) (xa_cons (de_v 0) xa_nil)))
  (dss_cons (ds_expr (xc G_check_form hr (by rfl) (xa_cons (de_v 0) (xa_cons (de_v 1) xa_nil))))
  (dss_one (ds_expr (xc G_check_answer hr (by rfl) (xa_cons (de_v 2) xa_nil))))))
theorem t_p_check_form_and_answer {P : Program} {w : World} {K : PySem.W.Frag} {mg : Str → Option Value} {base : Heap} {f : Addr} {fd : FuncData} {k : Nat} (F : Fun K "_check_form_and_answer" "_check_form_and_answer" s_p_check_form_and_answer f fd) (hb : Binds K fd ["sizes", "form", "result"] []) (hm : mg "_check_form_and_answer" = some (.ref f))
    (G_check_sizes : Has P w K mg base k "check_sizes" ["sizes"] (spD K g_check_sizes))
    (G_check_form : Has P w K mg base k "check_form" ["sizes", "form"] (spD K g_check_form))
    (G_check_answer : Has P w K mg base k "check_answer" ["result"] (spD K g_check_answer)) : Has P w K mg base (k + 1) "_check_form_and_answer" ["sizes", "form", "result"] (spD K g_p_check_form_and_answer) := ⟨f, fd, f_p_check_form_and_answer F hb hm G_check_sizes G_check_form G_check_answer, hb, hm, F.kp⟩
abbrev s_prime_rules : Stmt := top 50
theorem sc_prime_rules : FnScope ["sizes", "form", "result"] ["sizes", "form", "result"] (defScope s_prime_rules) := ⟨rfl, rfl, rfl, by decide +kernel, rfl, by decide +kernel, by decide +kernel⟩
theorem f_prime_rules {P : Program} {w : World} {K : PySem.W.Frag} {mg : Str → Option Value} {base : Heap} {f : Addr} {fd : FuncData} {k : Nat} (F : Fun K "prime_rules" "prime_rules" s_prime_rules f fd) (hb : Binds K fd ["sizes", "form", "result"] []) (hm : mg "prime_rules" = some (.ref f))
    (G_check_small : Has P w K mg base k "check_small" ["sizes"] (spD K g_check_small))
    (G_find_prime_rules : Has P w K mg base k "find_prime_rules" ["sizes", "form", "result"] (spD K g_find_prime_rules))
    (G_p_check_form_and_answer : Has P w K mg base k "_check_form_and_answer" ["sizes", "form", "result"] (spD K g_p_check_form_and_answer)) : FnOk P w K mg base CX0 (k + 1) f fd ["sizes", "form", "result"] (spD K g_prime_rules) := fn_d F sc_prime_rules fun cdv A outer s H E hr =>
  (dss_cons (ds_expr (xc G_p_check_form_and_answer hr (by rfl) (xa_cons (de_v 0) (xa_cons (de_v 1) (xa_cons (de_v 2) xa_nil)))))
  (dss_cons (ds_expr (xc G_check_small hr (by rfl) (xa_cons (de_v 0) xa_nil)))
  (dss_one (ds_ret (xc G_find_prime_rules hr (by rfl) (xa_cons (de_v 0) (xa_cons (de_v 1) (xa_cons (de_v 2) xa_nil))))))))
theorem t_prime_rules {P : Program} {w : World} {K : PySem.W.Frag} {mg : Str → Option Value} {base : Heap} {f : Addr} {fd : FuncData} {k : Nat} (F : Fun K "prime_rules" "prime_rules" s_prime_rules f fd) (hb : Binds K fd ["sizes", "form", "result"] []) (hm : mg "prime_rules" = some (.ref f))
    (G_check_small : Has P w K mg base k "check_small" ["sizes"] (spD K g_check_small))
    (G_find_prime_rules : Has P w K mg base k "find_prime_rules" ["sizes", "form", "result"] (spD K g_find_prime_rules))
    (G_p_check_form_and_answer : Has P w K mg base k "_check_form_and_answer" ["sizes", "form", "result"] (spD K g_p_check_form_and_answer)) : Has P w K mg base (k + 1) "prime_rules" ["sizes", "form", "result"] (spD K g_prime_rules) := ⟨f, fd, f_prime_rules F hb hm G_check_small G_find_prime_rules G_p_check_form_and_answer, hb, hm, F.kp⟩
abbrev s_law_cell_98eb9 : Stmt := top 56
theorem sc_law_cell_98eb9 : FnScope ["script", "k"] ["script", "k"] (defScope s_law_cell_98eb9) := ⟨rfl, rfl, rfl, by decide +kernel, rfl, by decide +kernel, by decide +kernel⟩
theorem f_law_cell_98eb9 {P : Program} {w : World} {K : PySem.W.Frag} {mg : Str → Option Value} {base : Heap} {f : Addr} {fd : FuncData} {k : Nat} (F : Fun K "_law_cell" "_law_cell" s_law_cell_98eb9 f fd) (hb : Binds K fd ["script", "k"] []) (hm : mg "_law_cell" = some (.ref f))
    (y_len : mg "len" = none) : FnOk P w K mg base CX0 (k + 1) f fd ["script", "k"] (spD K g_law_cell_98eb9) := fn_d F sc_law_cell_98eb9 fun cdv A outer s H E hr =>
  (dss_cons (ds_if (xt_cmp opd_lt (de_v 1) (xcB cd_len (by rfl) y_len (by decide +kernel) (xa_cons (de_v 0) xa_nil)) (nomark _))
    (dss_one (ds_ret (xe_ix (de_v 0) (de_v 1) (fun _ _ => rfl))))
    dss_nil)
  (dss_one (ds_ret de_int)))
theorem t_law_cell_98eb9 {P : Program} {w : World} {K : PySem.W.Frag} {mg : Str → Option Value} {base : Heap} {f : Addr} {fd : FuncData} {k : Nat} (F : Fun K "_law_cell" "_law_cell" s_law_cell_98eb9 f fd) (hb : Binds K fd ["script", "k"] []) (hm : mg "_law_cell" = some (.ref f))
    (y_len : mg "len" = none) : Has P w K mg base (k + 1) "_law_cell" ["script", "k"] (spD K g_law_cell_98eb9) := ⟨f, fd, f_law_cell_98eb9 F hb hm y_len, hb, hm, F.kp⟩
abbrev s_law_draw_48e0b : Stmt := top 57
theorem sc_law_draw_48e0b : FnScope ["cell", "k", "limit", "seed", "first", "second", "third"] ["cell", "k", "limit"] (defScope s_law_draw_48e0b) := ⟨rfl, rfl, rfl, by decide +kernel, rfl, by decide +kernel, by decide +kernel⟩
theorem f_law_draw_48e0b {P : Program} {w : World} {K : PySem.W.Frag} {mg : Str → Option Value} {base : Heap} {f : Addr} {fd : FuncData} {k : Nat} (F : Fun K "_law_draw" "_law_draw" s_law_draw_48e0b f fd) (hb : Binds K fd ["cell", "k", "limit"] []) (hm : mg "_law_draw" = some (.ref f))
    (y_int : mg "int" = none) : FnOk P w K mg base CX0 (k + 1) f fd ["cell", "k", "limit"] (spD K g_law_draw_48e0b) := fn_d F sc_law_draw_48e0b fun cdv A outer s H E hr =>
  (dss_cons (ds_if (xt_cmp opd_ge (de_v 0) (xe_op opd_pow de_int de_int) (nomark _))
    (dss_one (ds_ret (xe_op opd_mod (xe_op opd_mod (xcT cd_int (by rfl) y_int (by decide +kernel) (xa_cons (xe_op opd_shr (de_v 0) (xe_op opd_mul de_int (de_v 1))) xa_nil)) de_int) (de_v 2))))
    dss_nil)
  (dss_cons (ds_set (i := 3) sc_law_draw_48e0b.nd rfl (by first | exact Or.inl rfl | exact Or.inr rfl) (xe_op opd_mod (xcT cd_int (by rfl) y_int (by decide +kernel) (xa_cons (xe_op opd_add (xe_op opd_add (xe_op opd_mul (de_v 0) de_int) (xe_op opd_mul (xe_op opd_mul de_int (de_v 1)) (de_v 1))) de_int) xa_nil)) de_int))
  (dss_cons (ds_set (i := 4) sc_law_draw_48e0b.nd rfl (by first | exact Or.inl rfl | exact Or.inr rfl) (xe_op opd_mod (xcT cd_int (by rfl) y_int (by decide +kernel) (xa_cons (xe_op opd_add (xe_op opd_mul (de_v 3) (de_v 3)) (xe_op opd_mul de_int (de_v 1))) xa_nil)) de_int))
  (dss_cons (ds_set (i := 5) sc_law_draw_48e0b.nd rfl (by first | exact Or.inl rfl | exact Or.inr rfl) (xe_op opd_mod (xcT cd_int (by rfl) y_int (by decide +kernel) (xa_cons (xe_op opd_add (xe_op opd_mul (de_v 4) (de_v 4)) (de_v 3)) xa_nil)) de_int))
  (dss_cons (ds_set (i := 6) sc_law_draw_48e0b.nd rfl (by first | exact Or.inl rfl | exact Or.inr rfl) (xe_op opd_mod (xcT cd_int (by rfl) y_int (by decide +kernel) (xa_cons (xe_op opd_add (xe_op opd_mul (de_v 5) (de_v 5)) (de_v 4)) xa_nil)) de_int))
  (dss_one (ds_ret (xe_op opd_mod (xcT cd_int (by rfl) y_int (by decide +kernel) (xa_cons (xe_op opd_div (de_v 6) de_int) xa_nil)) (de_v 2)))))))))
theorem t_law_draw_48e0b {P : Program} {w : World} {K : PySem.W.Frag} {mg : Str → Option Value} {base : Heap} {f : Addr} {fd : FuncData} {k : Nat} (F : Fun K "_law_draw" "_law_draw" s_law_draw_48e0b f fd) (hb : Binds K fd ["cell", "k", "limit"] []) (hm : mg "_law_draw" = some (.ref f))
    (y_int : mg "int" = none) : Has P w K mg base (k + 1) "_law_draw" ["cell", "k", "limit"] (spD K g_law_draw_48e0b) := ⟨f, fd, f_law_draw_48e0b F hb hm y_int, hb, hm, F.kp⟩
abbrev s_law_sizes_48d55 : Stmt := top 58
theorem sc_law_sizes_48d55 : FnScope ["cell", "more", "most", "top", "sizes", "many", "k", "size"] ["cell", "more", "most"] (defScope s_law_sizes_48d55) := ⟨rfl, rfl, rfl, by decide +kernel, rfl, by decide +kernel, by decide +kernel⟩
theorem f_law_sizes_48d55 {P : Program} {w : World} {K : PySem.W.Frag} {mg : Str → Option Value} {base : Heap} {f : Addr} {fd : FuncData} {k : Nat} (F : Fun K "_law_sizes" "_law_sizes" s_law_sizes_48d55 f fd) (hb : Binds K fd ["cell", "more", "most"] []) (hm : mg "_law_sizes" = some (.ref f))
    (y_range : mg "range" = none)
    (G_law_draw_48e0b : Has P w K mg base k "_law_draw" ["cell", "k", "limit"] (spD K g_law_draw_48e0b)) : FnOk P w K mg base CX0 (k + 1) f fd ["cell", "more", "most"] (spD K g_law_sizes_48d55) := fn_d F sc_law_sizes_48d55 fun cdv A outer s H E hr =>
  (dss_cons (ds_set (i := 3) sc_law_sizes_48d55.nd rfl (by first | exact Or.inl rfl | exact Or.inr rfl) (xe_ix (xe_tup (xa_cons de_int (xa_cons de_int (xa_cons de_int xa_nil)))) (xc G_law_draw_48e0b hr (by rfl) (xa_cons (de_v 0) (xa_cons de_int (xa_cons de_int xa_nil)))) (fun _ _ => rfl)))
  (dss_cons (ds_own (i := 4) sc_law_sizes_48d55.nd rfl (by first | exact Or.inl rfl | exact Or.inr rfl) (xf_lst xa_nil))
  (dss_cons (ds_set (i := 5) sc_law_sizes_48d55.nd rfl (by first | exact Or.inl rfl | exact Or.inr rfl) de_int)
  (dss_cons (ds_for PassesOwn.never rfl (xi_range1 (by rfl) y_range (xa_cons (xc G_law_draw_48e0b hr (by rfl) (xa_cons (de_v 0) (xa_cons de_int (xa_cons de_int xa_nil)))) xa_nil)) (dg_name 6 sc_law_sizes_48d55.nd rfl (by first | exact Or.inl rfl | exact Or.inr rfl))
    (dss_cons (ds_set (i := 7) sc_law_sizes_48d55.nd rfl (by first | exact Or.inl rfl | exact Or.inr rfl) (xe_op opd_add de_int (xc G_law_draw_48e0b hr (by rfl) (xa_cons (de_v 0) (xa_cons (xe_op opd_add de_int (de_v 6)) (xa_cons (de_v 3) xa_nil))))))
  (dss_one (ds_if (xt_cmp opd_le (xe_op opd_mul (de_v 5) (xe_op opd_add (de_v 7) (de_v 1))) (de_v 2) (nomark _))
    (dss_cons (ds_app 4 (te := _) (fun _ _ _ _ h => h) (ps_expr (pe_bm PySem.F.plainAttrs_list PySem.F.slot_list_append PySem.F.type_list_append mt_append (pv 4) (pa_cons ((show DE _ _ _ _ _ from (de_v 7)).pe rfl) pa_nil))))
  (dss_one (ds_set (i := 5) sc_law_sizes_48d55.nd rfl (by first | exact Or.inl rfl | exact Or.inr rfl) (xe_op opd_mul (de_v 5) (xe_op opd_add (de_v 7) (de_v 1))))))
    dss_nil))))
  (dss_one (ds_frz 4 (ds_ret (de_v 4))))))))
theorem t_law_sizes_48d55 {P : Program} {w : World} {K : PySem.W.Frag} {mg : Str → Option Value} {base : Heap} {f : Addr} {fd : FuncData} {k : Nat} (F : Fun K "_law_sizes" "_law_sizes" s_law_sizes_48d55 f fd) (hb : Binds K fd ["cell", "more", "most"] []) (hm : mg "_law_sizes" = some (.ref f))
    (y_range : mg "range" = none)
    (G_law_draw_48e0b : Has P w K mg base k "_law_draw" ["cell", "k", "limit"] (spD K g_law_draw_48e0b)) : Has P w K mg base (k + 1) "_law_sizes" ["cell", "more", "most"] (spD K g_law_sizes_48d55) := ⟨f, fd, f_law_sizes_48d55 F hb hm y_range G_law_draw_48e0b, hb, hm, F.kp⟩
abbrev s_law_values_1b941 : Stmt := top 60
theorem sc_law_values_1b941 : FnScope ["cell", "k", "size", "part"] ["cell", "k", "size"] (defScope s_law_values_1b941) := ⟨rfl, rfl, rfl, by decide +kernel, rfl, by decide +kernel, by decide +kernel⟩
theorem f_law_values_1b941 {P : Program} {w : World} {K : PySem.W.Frag} {mg : Str → Option Value} {base : Heap} {f : Addr} {fd : FuncData} {k : Nat} (F : Fun K "_law_values" "_law_values" s_law_values_1b941 f fd) (hb : Binds K fd ["cell", "k", "size"] []) (hm : mg "_law_values" = some (.ref f))
    (y_range : mg "range" = none)
    (y_tuple : mg "tuple" = none)
    (G_law_draw_48e0b : Has P w K mg base k "_law_draw" ["cell", "k", "limit"] (spD K g_law_draw_48e0b)) : FnOk P w K mg base CX0 (k + 1) f fd ["cell", "k", "size"] (spD K g_law_values_1b941) := fn_d F sc_law_values_1b941 fun cdv A outer s H E hr =>
  (dss_one (ds_ret (xcT cd_tuple (by rfl) y_tuple (by decide +kernel) (xa_cons (xe_fr (df_lc (own := [("part", 3)]) rfl sc_law_values_1b941.nd (xi_range1 (by rfl) y_range (xa_cons (de_v 2) xa_nil)) (blkOk_by (by kernel_rfl)) (fun _ _ _ _ _ => (dg_name 3 sc_law_values_1b941.nd rfl (by first | exact Or.inl rfl | exact Or.inr rfl))) (fun _ _ _ _ _ => (dts_one (xt_cmp (opd_eq hr) (xc G_law_draw_48e0b hr (by rfl) (xa_cons (de_v 0) (xa_cons (xe_op opd_add (de_v 1) (de_v 3)) (xa_cons de_int xa_nil)))) de_int (nomark _)))) (fun _ _ _ _ _ => (de_v 3)))) xa_nil))))
theorem t_law_values_1b941 {P : Program} {w : World} {K : PySem.W.Frag} {mg : Str → Option Value} {base : Heap} {f : Addr} {fd : FuncData} {k : Nat} (F : Fun K "_law_values" "_law_values" s_law_values_1b941 f fd) (hb : Binds K fd ["cell", "k", "size"] []) (hm : mg "_law_values" = some (.ref f))
    (y_range : mg "range" = none)
    (y_tuple : mg "tuple" = none)
    (G_law_draw_48e0b : Has P w K mg base k "_law_draw" ["cell", "k", "limit"] (spD K g_law_draw_48e0b)) : Has P w K mg base (k + 1) "_law_values" ["cell", "k", "size"] (spD K g_law_values_1b941) := ⟨f, fd, f_law_values_1b941 F hb hm y_range y_tuple G_law_draw_48e0b, hb, hm, F.kp⟩
abbrev s_law_conditions_05f1f : Stmt := top 61
theorem sc_law_conditions_05f1f : FnScope ["sizes", "cell", "single", "found", "field", "values"] ["sizes", "cell"] (defScope s_law_conditions_05f1f) := ⟨rfl, rfl, rfl, by decide +kernel, rfl, by decide +kernel, by decide +kernel⟩
theorem f_law_conditions_05f1f {P : Program} {w : World} {K : PySem.W.Frag} {mg : Str → Option Value} {base : Heap} {f : Addr} {fd : FuncData} {k : Nat} (F : Fun K "_law_conditions" "_law_conditions" s_law_conditions_05f1f f fd) (hb : Binds K fd ["sizes", "cell"] []) (hm : mg "_law_conditions" = some (.ref f))
    (y_len : mg "len" = none)
    (y_range : mg "range" = none)
    (y_tuple : mg "tuple" = none)
    (G_law_draw_48e0b : Has P w K mg base k "_law_draw" ["cell", "k", "limit"] (spD K g_law_draw_48e0b))
    (G_law_values_1b941 : Has P w K mg base k "_law_values" ["cell", "k", "size"] (spD K g_law_values_1b941)) : FnOk P w K mg base CX0 (k + 1) f fd ["sizes", "cell"] (spD K g_law_conditions_05f1f) := fn_d F sc_law_conditions_05f1f fun cdv A outer s H E hr =>
  (dss_cons (ds_set (i := 2) sc_law_conditions_05f1f.nd rfl (by first | exact Or.inl rfl | exact Or.inr rfl) (xe_cmp (opd_eq hr) (xc G_law_draw_48e0b hr (by rfl) (xa_cons (de_v 1) (xa_cons de_int (xa_cons de_int xa_nil)))) de_int (nomark _)))
  (dss_cons (ds_own (i := 3) sc_law_conditions_05f1f.nd rfl (by first | exact Or.inl rfl | exact Or.inr rfl) (xf_lst xa_nil))
  (dss_cons (ds_for PassesOwn.never rfl (xi_range1 (by rfl) y_range (xa_cons (xcB cd_len (by rfl) y_len (by decide +kernel) (xa_cons (de_v 0) xa_nil)) xa_nil)) (dg_name 4 sc_law_conditions_05f1f.nd rfl (by first | exact Or.inl rfl | exact Or.inr rfl))
    (dss_one (ds_if (DW.pt (dw_and (xt_cmp opd_lt (de_lenO 3 (by rfl) y_len) de_int (nomark _)) (dw_and1 (xt_cmp (opd_eq hr) (xc G_law_draw_48e0b hr (by rfl) (xa_cons (de_v 1) (xa_cons (xe_op opd_add (xe_op opd_mul de_int (de_v 4)) de_int) (xa_cons de_int xa_nil)))) de_int (nomark _)))))
    (dss_cons (ds_set (i := 5) sc_law_conditions_05f1f.nd rfl (by first | exact Or.inl rfl | exact Or.inr rfl) (xc G_law_values_1b941 hr (by rfl) (xa_cons (de_v 1) (xa_cons (xe_op opd_add (xe_op opd_mul de_int (de_v 4)) de_int) (xa_cons (xe_ix (de_v 0) (de_v 4) (fun _ _ => rfl)) xa_nil)))))
  (dss_cons (ds_if (xt_tru (de_v 2))
    (dss_one (ds_set (i := 5) sc_law_conditions_05f1f.nd rfl (by first | exact Or.inl rfl | exact Or.inr rfl) (xe_tup (xa_cons (xc G_law_draw_48e0b hr (by rfl) (xa_cons (de_v 1) (xa_cons (xe_op opd_add (xe_op opd_mul de_int (de_v 4)) de_int) (xa_cons (xe_ix (de_v 0) (de_v 4) (fun _ _ => rfl)) xa_nil)))) xa_nil))))
    dss_nil)
  (dss_one (ds_app 3 (te := _) (fun _ _ _ _ h => h) (ps_expr (pe_bm PySem.F.plainAttrs_list PySem.F.slot_list_append PySem.F.type_list_append mt_append (pv 3) (pa_cons ((show DE _ _ _ _ _ from (xe_tup (xa_cons (de_v 4) (xa_cons (de_v 5) xa_nil)))).pe rfl) pa_nil)))))))
    dss_nil)))
  (dss_one (ds_frz 3 (ds_ret (xcT cd_tuple (by rfl) y_tuple (by decide +kernel) (xa_cons (de_v 3) xa_nil))))))))
theorem t_law_conditions_05f1f {P : Program} {w : World} {K : PySem.W.Frag} {mg : Str → Option Value} {base : Heap} {f : Addr} {fd : FuncData} {k : Nat} (F : Fun K "_law_conditions" "_law_conditions" s_law_conditions_05f1f f fd) (hb : Binds K fd ["sizes", "cell"] []) (hm : mg "_law_conditions" = some (.ref f))
    (y_len : mg "len" = none)
    (y_range : mg "range" = none)
    (y_tuple : mg "tuple" = none)
    (G_law_draw_48e0b : Has P w K mg base k "_law_draw" ["cell", "k", "limit"] (spD K g_law_draw_48e0b))
    (G_law_values_1b941 : Has P w K mg base k "_law_values" ["cell", "k", "size"] (spD K g_law_values_1b941)) : Has P w K mg base (k + 1) "_law_conditions" ["sizes", "cell"] (spD K g_law_conditions_05f1f) := ⟨f, fd, f_law_conditions_05f1f F hb hm y_len y_range y_tuple G_law_draw_48e0b G_law_values_1b941, hb, hm, F.kp⟩
abbrev s_law_card_4ab7e : Stmt := top 62
theorem sc_law_card_4ab7e : FnScope ["sizes", "cell", "spread", "weights", "total", "field", "row", "part"] ["sizes", "cell"] (defScope s_law_card_4ab7e) := ⟨rfl, rfl, rfl, by decide +kernel, rfl, by decide +kernel, by decide +kernel⟩
theorem f_law_card_4ab7e {P : Program} {w : World} {K : PySem.W.Frag} {mg : Str → Option Value} {base : Heap} {f : Addr} {fd : FuncData} {k : Nat} (F : Fun K "_law_card" "_law_card" s_law_card_4ab7e f fd) (hb : Binds K fd ["sizes", "cell"] []) (hm : mg "_law_card" = some (.ref f))
    (y_len : mg "len" = none)
    (y_range : mg "range" = none)
    (y_tuple : mg "tuple" = none)
    (G_law_draw_48e0b : Has P w K mg base k "_law_draw" ["cell", "k", "limit"] (spD K g_law_draw_48e0b)) : FnOk P w K mg base CX0 (k + 1) f fd ["sizes", "cell"] (spD K g_law_card_4ab7e) := fn_d F sc_law_card_4ab7e fun cdv A outer s H E hr =>
  (dss_cons (ds_set (i := 2) sc_law_card_4ab7e.nd rfl (by first | exact Or.inl rfl | exact Or.inr rfl) (xe_ix (xe_tup (xa_cons de_int (xa_cons de_int (xa_cons de_int xa_nil)))) (xc G_law_draw_48e0b hr (by rfl) (xa_cons (de_v 1) (xa_cons de_int (xa_cons de_int xa_nil)))) (fun _ _ => rfl)))
  (dss_cons (ds_own (i := 3) sc_law_card_4ab7e.nd rfl (by first | exact Or.inl rfl | exact Or.inr rfl) (xf_lst xa_nil))
  (dss_cons (ds_set (i := 4) sc_law_card_4ab7e.nd rfl (by first | exact Or.inl rfl | exact Or.inr rfl) (xe_op opd_sub (xc G_law_draw_48e0b hr (by rfl) (xa_cons (de_v 1) (xa_cons de_int (xa_cons de_int xa_nil)))) de_int))
  (dss_cons (ds_for PassesOwn.never rfl (xi_range1 (by rfl) y_range (xa_cons (xcB cd_len (by rfl) y_len (by decide +kernel) (xa_cons (de_v 0) xa_nil)) xa_nil)) (dg_name 5 sc_law_card_4ab7e.nd rfl (by first | exact Or.inl rfl | exact Or.inr rfl))
    (dss_cons (ds_setLc (i := 6) (own := [("part", 7)]) rfl sc_law_card_4ab7e.nd rfl rfl (sw_true rfl rfl rfl (by decide +kernel)) (xi_range1 (by rfl) y_range (xa_cons (xe_ix (de_v 0) (de_v 5) (fun _ _ => rfl)) xa_nil)) (blkOk_by (by kernel_rfl)) (fun _ _ _ _ _ => (dg_name 7 sc_law_card_4ab7e.nd rfl (by first | exact Or.inl rfl | exact Or.inr rfl))) (fun _ _ _ _ _ => dts_nil) (fun _ _ _ _ _ => (xe_op opd_sub (xc G_law_draw_48e0b hr (by rfl) (xa_cons (de_v 1) (xa_cons (xe_op opd_add (xe_op opd_add (xe_op opd_mul de_int (de_v 5)) (de_v 7)) de_int) (xa_cons (de_v 2) xa_nil)))) (xe_op opd_div (de_v 2) de_int))))
  (dss_cons (ds_app 3 (te := _) (fun _ _ _ _ h => h) (ps_expr (pe_bm PySem.F.plainAttrs_list PySem.F.slot_list_append PySem.F.type_list_append mt_append (pv 3) (pa_cons ((show DE _ _ _ _ _ from (xcT cd_tuple (by rfl) y_tuple (by decide +kernel) (xa_cons (de_v 6) xa_nil))).pe rfl) pa_nil))))
  (dss_one (ds_set (i := 4) sc_law_card_4ab7e.nd rfl (by first | exact Or.inl rfl | exact Or.inr rfl) (xe_op opd_add (de_v 4) (xe_ix (de_v 6) (xc G_law_draw_48e0b hr (by rfl) (xa_cons (de_v 1) (xa_cons (xe_op opd_add de_int (de_v 5)) (xa_cons (xe_ix (de_v 0) (de_v 5) (fun _ _ => rfl)) xa_nil)))) (fun _ _ => rfl))))))))
  (dss_one (ds_frz 3 (ds_ret (xe_tup (xa_cons de_str (xa_cons (xcT cd_tuple (by rfl) y_tuple (by decide +kernel) (xa_cons (de_v 3) xa_nil)) (xa_cons (de_v 4) xa_nil)))))))))))
theorem t_law_card_4ab7e {P : Program} {w : World} {K : PySem.W.Frag} {mg : Str → Option Value} {base : Heap} {f : Addr} {fd : FuncData} {k : Nat} (F : Fun K "_law_card" "_law_card" s_law_card_4ab7e f fd) (hb : Binds K fd ["sizes", "cell"] []) (hm : mg "_law_card" = some (.ref f))
    (y_len : mg "len" = none)
    (y_range : mg "range" = none)
    (y_tuple : mg "tuple" = none)
    (G_law_draw_48e0b : Has P w K mg base k "_law_draw" ["cell", "k", "limit"] (spD K g_law_draw_48e0b)) : Has P w K mg base (k + 1) "_law_card" ["sizes", "cell"] (spD K g_law_card_4ab7e) := ⟨f, fd, f_law_card_4ab7e F hb hm y_len y_range y_tuple G_law_draw_48e0b, hb, hm, F.kp⟩
abbrev s_law_leaf_52ac9 : Stmt := top 63
theorem sc_law_leaf_52ac9 : FnScope ["sizes", "cell", "word", "many", "size", "field", "part", "at"] ["sizes", "cell"] (defScope s_law_leaf_52ac9) := ⟨rfl, rfl, rfl, by decide +kernel, rfl, by decide +kernel, by decide +kernel⟩
theorem f_law_leaf_52ac9 {P : Program} {w : World} {K : PySem.W.Frag} {mg : Str → Option Value} {base : Heap} {f : Addr} {fd : FuncData} {k : Nat} (F : Fun K "_law_leaf" "_law_leaf" s_law_leaf_52ac9 f fd) (hb : Binds K fd ["sizes", "cell"] []) (hm : mg "_law_leaf" = some (.ref f))
    (y_int : mg "int" = none)
    (y_len : mg "len" = none)
    (y_range : mg "range" = none)
    (y_tuple : mg "tuple" = none)
    (G_law_draw_48e0b : Has P w K mg base k "_law_draw" ["cell", "k", "limit"] (spD K g_law_draw_48e0b))
    (G_law_values_1b941 : Has P w K mg base k "_law_values" ["cell", "k", "size"] (spD K g_law_values_1b941))
    (G_law_conditions_05f1f : Has P w K mg base k "_law_conditions" ["sizes", "cell"] (spD K g_law_conditions_05f1f))
    (G_law_card_4ab7e : Has P w K mg base k "_law_card" ["sizes", "cell"] (spD K g_law_card_4ab7e)) : FnOk P w K mg base CX0 (k + 1) f fd ["sizes", "cell"] (spD K g_law_leaf_52ac9) := fn_d F sc_law_leaf_52ac9 fun cdv A outer s H E hr =>
  (dss_cons (ds_set (i := 2) sc_law_leaf_52ac9.nd rfl (by first | exact Or.inl rfl | exact Or.inr rfl) (xc G_law_draw_48e0b hr (by rfl) (xa_cons (de_v 1) (xa_cons de_int (xa_cons de_int xa_nil)))))
  (dss_cons (ds_set (i := 3) sc_law_leaf_52ac9.nd rfl (by first | exact Or.inl rfl | exact Or.inr rfl) de_int)
  (dss_cons (ds_for PassesOwn.never rfl (xi_seq (de_v 0)) (dg_name 4 sc_law_leaf_52ac9.nd rfl (by first | exact Or.inl rfl | exact Or.inr rfl))
    (dss_one (ds_set (i := 3) sc_law_leaf_52ac9.nd rfl (by first | exact Or.inl rfl | exact Or.inr rfl) (xe_op opd_mul (de_v 3) (de_v 4)))))
  (dss_cons (ds_if (DW.pt (dw_or (xt_cmp (opd_eq hr) (de_v 2) de_int (nomark _)) (dw_or1 (DW.pt (dw_and (xt_cmp (opd_eq hr) (de_v 2) de_int (nomark _)) (dw_and1 (xt_cmp opd_gt (de_v 3) de_int (nomark _))))))))
    (dss_one (ds_ret (xc G_law_card_4ab7e hr (by rfl) (xa_cons (de_v 0) (xa_cons (de_v 1) xa_nil)))))
    dss_nil)
  (dss_cons (ds_if (xt_cmp (opd_eq hr) (de_v 2) de_int (nomark _))
    (dss_one (ds_ret (xe_tup (xa_cons de_str (xa_cons (xcT cd_tuple (by rfl) y_tuple (by decide +kernel) (xa_cons (xe_fr (df_lc (own := [("at", 7)]) rfl sc_law_leaf_52ac9.nd (xi_range1 (by rfl) y_range (xa_cons (de_v 3) xa_nil)) (blkOk_by (by kernel_rfl)) (fun _ _ _ _ _ => (dg_name 7 sc_law_leaf_52ac9.nd rfl (by first | exact Or.inl rfl | exact Or.inr rfl))) (fun _ _ _ _ _ => dts_nil) (fun _ _ _ _ _ => (xe_cmp (opd_eq hr) (xc G_law_draw_48e0b hr (by rfl) (xa_cons (de_v 1) (xa_cons (xe_op opd_add (xe_op opd_mod (xcT cd_int (by rfl) y_int (by decide +kernel) (xa_cons (de_v 7) xa_nil)) de_int) de_int) (xa_cons de_int xa_nil)))) de_int (nomark _))))) xa_nil)) xa_nil)))))
    dss_nil)
  (dss_cons (ds_if (xt_cmp (opd_eq hr) (de_v 2) de_int (nomark _))
    (dss_one (ds_ret (xe_tup (xa_cons de_str (xa_cons (xe_tup (xa_cons (xe_tup (xa_cons (xc G_law_conditions_05f1f hr (by rfl) (xa_cons (de_v 0) (xa_cons (de_v 1) xa_nil))) (xa_cons (xe_cmp (opd_eq hr) (xc G_law_draw_48e0b hr (by rfl) (xa_cons (de_v 1) (xa_cons de_int (xa_cons de_int xa_nil)))) de_int (nomark _)) xa_nil))) xa_nil)) (xa_cons (xe_cmp (opd_eq hr) (xc G_law_draw_48e0b hr (by rfl) (xa_cons (de_v 1) (xa_cons de_int (xa_cons de_int xa_nil)))) de_int (nomark _)) xa_nil))))))
    dss_nil)
  (dss_cons (ds_if (DW.pt (dw_or (xt_cmp (opd_eq hr) (de_v 2) de_int (nomark _)) (dw_or1 (xt_cmp (opd_eq hr) (de_v 0) (xe_fr (xf_lst xa_nil)) (nomark _)))))
    (dss_one (ds_ret (xe_tup (xa_cons de_str (xa_cons (xe_cmp (opd_eq hr) (xc G_law_draw_48e0b hr (by rfl) (xa_cons (de_v 1) (xa_cons de_int (xa_cons de_int xa_nil)))) de_int (nomark _)) xa_nil)))))
    dss_nil)
  (dss_cons (ds_set (i := 5) sc_law_leaf_52ac9.nd rfl (by first | exact Or.inl rfl | exact Or.inr rfl) (xc G_law_draw_48e0b hr (by rfl) (xa_cons (de_v 1) (xa_cons de_int (xa_cons (xcB cd_len (by rfl) y_len (by decide +kernel) (xa_cons (de_v 0) xa_nil)) xa_nil)))))
  (dss_cons (ds_if (xt_cmp (opd_eq hr) (de_v 2) de_int (nomark _))
    (dss_one (ds_ret (xe_tup (xa_cons de_str (xa_cons (de_v 5) (xa_cons (xc G_law_values_1b941 hr (by rfl) (xa_cons (de_v 1) (xa_cons de_int (xa_cons (xe_ix (de_v 0) (de_v 5) (fun _ _ => rfl)) xa_nil)))) xa_nil))))))
    dss_nil)
  (dss_one (ds_ret (xe_tup (xa_cons de_str (xa_cons (de_v 5) (xa_cons (xcT cd_tuple (by rfl) y_tuple (by decide +kernel) (xa_cons (xe_fr (df_lc (own := [("part", 6)]) rfl sc_law_leaf_52ac9.nd (xi_range1 (by rfl) y_range (xa_cons (xe_ix (de_v 0) (de_v 5) (fun _ _ => rfl)) xa_nil)) (blkOk_by (by kernel_rfl)) (fun _ _ _ _ _ => (dg_name 6 sc_law_leaf_52ac9.nd rfl (by first | exact Or.inl rfl | exact Or.inr rfl))) (fun _ _ _ _ _ => dts_nil) (fun _ _ _ _ _ => (xe_tup (xa_cons de_str (xa_cons (xe_cmp (opd_eq hr) (xc G_law_draw_48e0b hr (by rfl) (xa_cons (de_v 1) (xa_cons (xe_op opd_add de_int (de_v 6)) (xa_cons de_int xa_nil)))) de_int (nomark _)) xa_nil)))))) xa_nil)) xa_nil)))))))))))))))
theorem t_law_leaf_52ac9 {P : Program} {w : World} {K : PySem.W.Frag} {mg : Str → Option Value} {base : Heap} {f : Addr} {fd : FuncData} {k : Nat} (F : Fun K "_law_leaf" "_law_leaf" s_law_leaf_52ac9 f fd) (hb : Binds K fd ["sizes", "cell"] []) (hm : mg "_law_leaf" = some (.ref f))
    (y_int : mg "int" = none)
    (y_len : mg "len" = none)
    (y_range : mg "range" = none)
    (y_tuple : mg "tuple" = none)
    (G_law_draw_48e0b : Has P w K mg base k "_law_draw" ["cell", "k", "limit"] (spD K g_law_draw_48e0b))
    (G_law_values_1b941 : Has P w K mg base k "_law_values" ["cell", "k", "size"] (spD K g_law_values_1b941))
    (G_law_conditions_05f1f : Has P w K mg base k "_law_conditions" ["sizes", "cell"] (spD K g_law_conditions_05f1f))
    (G_law_card_4ab7e : Has P w K mg base k "_law_card" ["sizes", "cell"] (spD K g_law_card_4ab7e)) : Has P w K mg base (k + 1) "_law_leaf" ["sizes", "cell"] (spD K g_law_leaf_52ac9) := ⟨f, fd, f_law_leaf_52ac9 F hb hm y_int y_len y_range y_tuple G_law_draw_48e0b G_law_values_1b941 G_law_conditions_05f1f G_law_card_4ab7e, hb, hm, F.kp⟩
abbrev s_law_part_518aa : Stmt := top 64
theorem sc_law_part_518aa : FnScope ["sizes", "cell", "leaf"] ["sizes", "cell"] (defScope s_law_part_518aa) := ⟨rfl, rfl, rfl, by decide +kernel, rfl, by decide +kernel, by decide +kernel⟩
theorem f_law_part_518aa {P : Program} {w : World} {K : PySem.W.Frag} {mg : Str → Option Value} {base : Heap} {f : Addr} {fd : FuncData} {k : Nat} (F : Fun K "_law_part" "_law_part" s_law_part_518aa f fd) (hb : Binds K fd ["sizes", "cell"] []) (hm : mg "_law_part" = some (.ref f))
    (G_law_draw_48e0b : Has P w K mg base k "_law_draw" ["cell", "k", "limit"] (spD K g_law_draw_48e0b))
    (G_law_leaf_52ac9 : Has P w K mg base k "_law_leaf" ["sizes", "cell"] (spD K g_law_leaf_52ac9)) : FnOk P w K mg base CX0 (k + 1) f fd ["sizes", "cell"] (spD K g_law_part_518aa) := fn_d F sc_law_part_518aa fun cdv A outer s H E hr =>
  (dss_cons (ds_set (i := 2) sc_law_part_518aa.nd rfl (by first | exact Or.inl rfl | exact Or.inr rfl) (xc G_law_leaf_52ac9 hr (by rfl) (xa_cons (de_v 0) (xa_cons (de_v 1) xa_nil))))
  (dss_cons (ds_if (xt_cmp (opd_eq hr) (xc G_law_draw_48e0b hr (by rfl) (xa_cons (de_v 1) (xa_cons de_int (xa_cons de_int xa_nil)))) de_int (nomark _))
    (dss_one (ds_ret (xe_tup (xa_cons de_str (xa_cons (de_v 2) xa_nil)))))
    dss_nil)
  (dss_one (ds_ret (de_v 2)))))
theorem t_law_part_518aa {P : Program} {w : World} {K : PySem.W.Frag} {mg : Str → Option Value} {base : Heap} {f : Addr} {fd : FuncData} {k : Nat} (F : Fun K "_law_part" "_law_part" s_law_part_518aa f fd) (hb : Binds K fd ["sizes", "cell"] []) (hm : mg "_law_part" = some (.ref f))
    (G_law_draw_48e0b : Has P w K mg base k "_law_draw" ["cell", "k", "limit"] (spD K g_law_draw_48e0b))
    (G_law_leaf_52ac9 : Has P w K mg base k "_law_leaf" ["sizes", "cell"] (spD K g_law_leaf_52ac9)) : Has P w K mg base (k + 1) "_law_part" ["sizes", "cell"] (spD K g_law_part_518aa) := ⟨f, fd, f_law_part_518aa F hb hm G_law_draw_48e0b G_law_leaf_52ac9, hb, hm, F.kp⟩
abbrev s_law_form_06328 : Stmt := top 65
theorem sc_law_form_06328 : FnScope ["sizes", "cells", "cell", "word", "rest", "listed", "field", "one", "k"] ["sizes", "cells"] (defScope s_law_form_06328) := ⟨rfl, rfl, rfl, by decide +kernel, rfl, by decide +kernel, by decide +kernel⟩
theorem f_law_form_06328 {P : Program} {w : World} {K : PySem.W.Frag} {mg : Str → Option Value} {base : Heap} {f : Addr} {fd : FuncData} {k : Nat} (F : Fun K "_law_form" "_law_form" s_law_form_06328 f fd) (hb : Binds K fd ["sizes", "cells"] []) (hm : mg "_law_form" = some (.ref f))
    (y_int : mg "int" = none)
    (y_len : mg "len" = none)
    (y_range : mg "range" = none)
    (y_tuple : mg "tuple" = none)
    (G_law_draw_48e0b : Has P w K mg base k "_law_draw" ["cell", "k", "limit"] (spD K g_law_draw_48e0b))
    (G_law_conditions_05f1f : Has P w K mg base k "_law_conditions" ["sizes", "cell"] (spD K g_law_conditions_05f1f))
    (G_law_leaf_52ac9 : Has P w K mg base k "_law_leaf" ["sizes", "cell"] (spD K g_law_leaf_52ac9))
    (G_law_part_518aa : Has P w K mg base k "_law_part" ["sizes", "cell"] (spD K g_law_part_518aa)) : FnOk P w K mg base CX0 (k + 1) f fd ["sizes", "cells"] (spD K g_law_form_06328) := fn_d F sc_law_form_06328 fun cdv A outer s H E hr =>
  (dss_cons (ds_set (i := 2) sc_law_form_06328.nd rfl (by first | exact Or.inl rfl | exact Or.inr rfl) (xe_ix (xe_op opd_add (de_v 1) (xe_fr (xf_lst (xa_cons de_int xa_nil)))) de_int (fun _ _ => rfl)))
  (dss_cons (ds_set (i := 3) sc_law_form_06328.nd rfl (by first | exact Or.inl rfl | exact Or.inr rfl) (xc G_law_draw_48e0b hr (by rfl) (xa_cons (de_v 2) (xa_cons de_int (xa_cons de_int xa_nil)))))
  (dss_cons (ds_set (i := 4) sc_law_form_06328.nd rfl (by first | exact Or.inl rfl | exact Or.inr rfl) (xe_fr (xf_slice (de_v 1) (xo_some de_int) (xo_some de_int))))
  (dss_cons (ds_if (xt_cmp (opd_eq hr) (de_v 3) de_int (nomark _))
    (dss_cons (ds_setLc (i := 5) (own := [("one", 7)]) rfl sc_law_form_06328.nd rfl rfl (sw_true rfl rfl rfl (by decide +kernel)) (xi_seq (xe_fr (xf_slice (de_v 1) (xo_some de_int) (xo_some de_int)))) (blkOk_by (by kernel_rfl)) (fun _ _ _ _ _ => (dg_name 7 sc_law_form_06328.nd rfl (by first | exact Or.inl rfl | exact Or.inr rfl))) (fun _ _ _ _ _ => dts_nil) (fun _ _ _ _ _ => (xe_tup (xa_cons (xc G_law_conditions_05f1f hr (by rfl) (xa_cons (de_v 0) (xa_cons (de_v 7) xa_nil))) (xa_cons (xe_cmp (opd_eq hr) (xc G_law_draw_48e0b hr (by rfl) (xa_cons (de_v 7) (xa_cons de_int (xa_cons de_int xa_nil)))) de_int (nomark _)) xa_nil)))))
  (dss_one (ds_ret (xe_tup (xa_cons de_str (xa_cons (xcT cd_tuple (by rfl) y_tuple (by decide +kernel) (xa_cons (de_v 5) xa_nil)) (xa_cons (xe_cmp (opd_eq hr) (xc G_law_draw_48e0b hr (by rfl) (xa_cons (de_v 2) (xa_cons de_int (xa_cons de_int xa_nil)))) de_int (nomark _)) xa_nil)))))))
    dss_nil)
  (dss_cons (ds_if (xt_cmp opd_lt (de_v 3) de_int (nomark _))
    (dss_one (ds_ret (xe_tup (xa_cons (xe_ix (xe_fr (xf_lst (xa_cons de_str (xa_cons de_str (xa_cons de_str xa_nil))))) (xe_op opd_sub (de_v 3) de_int) (fun _ _ => rfl)) (xa_cons (xcT cd_tuple (by rfl) y_tuple (by decide +kernel) (xa_cons (xe_fr (df_lc (own := [("one", 7)]) rfl sc_law_form_06328.nd (xi_seq (de_v 4)) (blkOk_by (by kernel_rfl)) (fun _ _ _ _ _ => (dg_name 7 sc_law_form_06328.nd rfl (by first | exact Or.inl rfl | exact Or.inr rfl))) (fun _ _ _ _ _ => dts_nil) (fun _ _ _ _ _ => (xc G_law_part_518aa hr (by rfl) (xa_cons (de_v 0) (xa_cons (de_v 7) xa_nil)))))) xa_nil)) xa_nil)))))
    dss_nil)
  (dss_cons (ds_if (DW.pt (dw_and (xt_cmp (opd_eq hr) (de_v 3) de_int (nomark _)) (dw_and (xt_cmp (opd_ne hr) (de_v 0) (xe_fr (xf_lst xa_nil)) (nomark _)) (dw_and1 (xt_cmp (opd_ne hr) (de_v 4) (xe_fr (xf_lst xa_nil)) (nomark _))))))
    (dss_cons (ds_set (i := 6) sc_law_form_06328.nd rfl (by first | exact Or.inl rfl | exact Or.inr rfl) (xc G_law_draw_48e0b hr (by rfl) (xa_cons (de_v 2) (xa_cons de_int (xa_cons (xcB cd_len (by rfl) y_len (by decide +kernel) (xa_cons (de_v 0) xa_nil)) xa_nil)))))
  (dss_one (ds_ret (xe_tup (xa_cons de_str (xa_cons (de_v 6) (xa_cons (xcT cd_tuple (by rfl) y_tuple (by decide +kernel) (xa_cons (xe_fr (df_lc (own := [("k", 8)]) rfl sc_law_form_06328.nd (xi_range1 (by rfl) y_range (xa_cons (xe_ix (de_v 0) (de_v 6) (fun _ _ => rfl)) xa_nil)) (blkOk_by (by kernel_rfl)) (fun _ _ _ _ _ => (dg_name 8 sc_law_form_06328.nd rfl (by first | exact Or.inl rfl | exact Or.inr rfl))) (fun _ _ _ _ _ => dts_nil) (fun _ _ _ _ _ => (xc G_law_part_518aa hr (by rfl) (xa_cons (de_v 0) (xa_cons (xe_ix (de_v 4) (xe_op opd_mod (xcT cd_int (by rfl) y_int (by decide +kernel) (xa_cons (de_v 8) xa_nil)) (xcB cd_len (by rfl) y_len (by decide +kernel) (xa_cons (de_v 4) xa_nil))) (fun _ _ => rfl)) xa_nil)))))) xa_nil)) xa_nil)))))))
    dss_nil)
  (dss_one (ds_ret (xc G_law_leaf_52ac9 hr (by rfl) (xa_cons (de_v 0) (xa_cons (de_v 2) xa_nil)))))))))))
theorem t_law_form_06328 {P : Program} {w : World} {K : PySem.W.Frag} {mg : Str → Option Value} {base : Heap} {f : Addr} {fd : FuncData} {k : Nat} (F : Fun K "_law_form" "_law_form" s_law_form_06328 f fd) (hb : Binds K fd ["sizes", "cells"] []) (hm : mg "_law_form" = some (.ref f))
    (y_int : mg "int" = none)
    (y_len : mg "len" = none)
    (y_range : mg "range" = none)
    (y_tuple : mg "tuple" = none)
    (G_law_draw_48e0b : Has P w K mg base k "_law_draw" ["cell", "k", "limit"] (spD K g_law_draw_48e0b))
    (G_law_conditions_05f1f : Has P w K mg base k "_law_conditions" ["sizes", "cell"] (spD K g_law_conditions_05f1f))
    (G_law_leaf_52ac9 : Has P w K mg base k "_law_leaf" ["sizes", "cell"] (spD K g_law_leaf_52ac9))
    (G_law_part_518aa : Has P w K mg base k "_law_part" ["sizes", "cell"] (spD K g_law_part_518aa)) : Has P w K mg base (k + 1) "_law_form" ["sizes", "cells"] (spD K g_law_form_06328) := ⟨f, fd, f_law_form_06328 F hb hm y_int y_len y_range y_tuple G_law_draw_48e0b G_law_conditions_05f1f G_law_leaf_52ac9 G_law_part_518aa, hb, hm, F.kp⟩
abbrev s_law_many_bf8ac : Stmt := top 66
theorem sc_law_many_bf8ac : FnScope ["form", "part"] ["form"] (defScope s_law_many_bf8ac) := ⟨rfl, rfl, rfl, by decide +kernel, rfl, by decide +kernel, by decide +kernel⟩
theorem t_law_many_bf8ac {P : Program} {w : World} {K : PySem.W.Frag} {mg : Str → Option Value} {base : Heap} {f : Addr} {fd : FuncData} {k : Nat} (F : Fun K "_law_many" "_law_many" s_law_many_bf8ac f fd) (hb : Binds K fd ["form"] []) (hm : mg "_law_many" = some (.ref f))
    (y_sum : mg "sum" = none) : ∀ n, Has P w K mg base (k + n) "_law_many" ["form"] (spD K (g_law_many_bf8ac n))
  | 0 => has_none F hb hm
  | n + 1 => by
    have G_self : Has P w K mg base (k + n) "_law_many" ["form"] (spD K (g_law_many_bf8ac n)) := t_law_many_bf8ac (k := k) F hb hm y_sum n
    skip
    exact def_d F sc_law_many_bf8ac hb hm fun cdv A outer s H E hr =>
  (dss_cons (ds_if (xt_cmp (opd_eq hr) (xe_ix (de_v 0) de_int (fun _ _ => rfl)) de_str (nomark _))
    (dss_one (ds_ret (xe_op opd_add de_int (xcB (cd_sum rfl) (by rfl) y_sum (by decide +kernel) (xa_cons (xe_fr (df_lc (own := [("part", 1)]) rfl sc_law_many_bf8ac.nd (xi_seq (xe_ix (de_v 0) de_int (fun _ _ => rfl))) (blkOk_by (by kernel_rfl)) (fun _ _ _ _ _ => (dg_name 1 sc_law_many_bf8ac.nd rfl (by first | exact Or.inl rfl | exact Or.inr rfl))) (fun _ _ _ _ _ => dts_nil) (fun _ _ _ _ _ => (xc G_self hr (by rfl) (xa_cons (de_v 1) xa_nil))))) xa_nil)))))
    dss_nil)
  (dss_cons (ds_if (xt_cmp (opd_eq hr) (xe_ix (de_v 0) de_int (fun _ _ => rfl)) de_str (nomark _))
    (dss_one (ds_ret (xe_op opd_add de_int (xc G_self hr (by rfl) (xa_cons (xe_ix (de_v 0) de_int (fun _ _ => rfl)) xa_nil)))))
    dss_nil)
  (dss_cons (ds_if (xt_cmp (opd_in hr) (xe_ix (de_v 0) de_int (fun _ _ => rfl)) (xe_tup (xa_cons de_str (xa_cons de_str (xa_cons de_str xa_nil)))) (by rfl))
    (dss_one (ds_ret (xe_op opd_add de_int (xcB (cd_sum rfl) (by rfl) y_sum (by decide +kernel) (xa_cons (xe_fr (df_lc (own := [("part", 1)]) rfl sc_law_many_bf8ac.nd (xi_seq (xe_ix (de_v 0) de_int (fun _ _ => rfl))) (blkOk_by (by kernel_rfl)) (fun _ _ _ _ _ => (dg_name 1 sc_law_many_bf8ac.nd rfl (by first | exact Or.inl rfl | exact Or.inr rfl))) (fun _ _ _ _ _ => dts_nil) (fun _ _ _ _ _ => (xc G_self hr (by rfl) (xa_cons (de_v 1) xa_nil))))) xa_nil)))))
    dss_nil)
  (dss_one (ds_ret de_int)))))
abbrev s_law_brief_4e244 : Stmt := top 67
theorem sc_law_brief_4e244 : FnScope ["sizes", "cells", "form"] ["sizes", "cells"] (defScope s_law_brief_4e244) := ⟨rfl, rfl, rfl, by decide +kernel, rfl, by decide +kernel, by decide +kernel⟩
theorem f_law_brief_4e244 {P : Program} {w : World} {K : PySem.W.Frag} {mg : Str → Option Value} {base : Heap} {f : Addr} {fd : FuncData} {k : Nat} (F : Fun K "_law_brief" "_law_brief" s_law_brief_4e244 f fd) (hb : Binds K fd ["sizes", "cells"] []) (hm : mg "_law_brief" = some (.ref f))
    (G_law_form_06328 : Has P w K mg base k "_law_form" ["sizes", "cells"] (spD K g_law_form_06328))
    (G_law_many_bf8ac : Has P w K mg base k "_law_many" ["form"] (spD K (g_law_many_bf8ac FU))) : FnOk P w K mg base CX0 (k + 1) f fd ["sizes", "cells"] (spD K g_law_brief_4e244) := fn_d F sc_law_brief_4e244 fun cdv A outer s H E hr =>
  (dss_cons (ds_set (i := 2) sc_law_brief_4e244.nd rfl (by first | exact Or.inl rfl | exact Or.inr rfl) (xc G_law_form_06328 hr (by rfl) (xa_cons (de_v 0) (xa_cons (de_v 1) xa_nil))))
  (dss_cons (ds_if (xt_cmp opd_gt (xc G_law_many_bf8ac hr (by rfl) (xa_cons (de_v 2) xa_nil)) de_int (nomark _))
    (dss_one (ds_set (i := 2) sc_law_brief_4e244.nd rfl (by first | exact Or.inl rfl | exact Or.inr rfl) (xc G_law_form_06328 hr (by rfl) (xa_cons (de_v 0) (xa_cons (xe_fr (xf_slice (de_v 1) xo_none (xo_some de_int))) xa_nil)))))
    dss_nil)
  (dss_cons (ds_if (xt_cmp opd_gt (xc G_law_many_bf8ac hr (by rfl) (xa_cons (de_v 2) xa_nil)) de_int (nomark _))
    (dss_one (ds_ret (xe_ix (xe_ix (de_v 2) de_int (fun _ _ => rfl)) de_int (fun _ _ => rfl))))
    dss_nil)
  (dss_one (ds_ret (de_v 2))))))
theorem t_law_brief_4e244 {P : Program} {w : World} {K : PySem.W.Frag} {mg : Str → Option Value} {base : Heap} {f : Addr} {fd : FuncData} {k : Nat} (F : Fun K "_law_brief" "_law_brief" s_law_brief_4e244 f fd) (hb : Binds K fd ["sizes", "cells"] []) (hm : mg "_law_brief" = some (.ref f))
    (G_law_form_06328 : Has P w K mg base k "_law_form" ["sizes", "cells"] (spD K g_law_form_06328))
    (G_law_many_bf8ac : Has P w K mg base k "_law_many" ["form"] (spD K (g_law_many_bf8ac FU))) : Has P w K mg base (k + 1) "_law_brief" ["sizes", "cells"] (spD K g_law_brief_4e244) := ⟨f, fd, f_law_brief_4e244 F hb hm G_law_form_06328 G_law_many_bf8ac, hb, hm, F.kp⟩
abbrev s_law_joined_f4720 : Stmt := top 68
theorem sc_law_joined_f4720 : FnScope ["one", "other", "found", "pair"] ["one", "other"] (defScope s_law_joined_f4720) := ⟨rfl, rfl, rfl, by decide +kernel, rfl, by decide +kernel, by decide +kernel⟩
theorem f_law_joined_f4720 {P : Program} {w : World} {K : PySem.W.Frag} {mg : Str → Option Value} {base : Heap} {f : Addr} {fd : FuncData} {k : Nat} (F : Fun K "_law_joined" "_law_joined" s_law_joined_f4720 f fd) (hb : Binds K fd ["one", "other"] []) (hm : mg "_law_joined" = some (.ref f))
    (y_len : mg "len" = none)
    (y_list : mg "list" = none)
    (y_set : mg "set" = none)
    (y_sorted : mg "sorted" = none)
    (y_tuple : mg "tuple" = none) : FnOk P w K mg base CX0 (k + 1) f fd ["one", "other"] (spD K g_law_joined_f4720) := fn_d F sc_law_joined_f4720 fun cdv A outer s H E hr =>
  (dss_cons (ds_set (i := 2) sc_law_joined_f4720.nd rfl (by first | exact Or.inl rfl | exact Or.inr rfl) (xe_fr (df_sortN hr rfl (by rfl) y_sorted (by rfl) y_set (xe_op opd_add (xe_fr (xcTF cf_list (by rfl) y_list (by decide +kernel) (xa_cons (de_v 0) xa_nil))) (xe_fr (xcTF cf_list (by rfl) y_list (by decide +kernel) (xa_cons (de_v 1) xa_nil)))))))
  (dss_cons (ds_if (xt_cmp opd_lt (de_lenSetU rfl (by rfl) y_len (by rfl) y_set (xe_fr (df_lc (own := [("pair", 3)]) rfl sc_law_joined_f4720.nd (xi_seq (de_v 2)) (blkOk_by (by kernel_rfl)) (fun _ _ _ _ _ => (dg_name 3 sc_law_joined_f4720.nd rfl (by first | exact Or.inl rfl | exact Or.inr rfl))) (fun _ _ _ _ _ => dts_nil) (fun _ _ _ _ _ => (xe_ix (de_v 3) de_int (fun _ _ => rfl)))))) (xcB cd_len (by rfl) y_len (by decide +kernel) (xa_cons (de_v 2) xa_nil)) (nomark _))
    (dss_one (ds_ret de_non))
    dss_nil)
  (dss_one (ds_ret (xcT cd_tuple (by rfl) y_tuple (by decide +kernel) (xa_cons (de_v 2) xa_nil))))))
theorem t_law_joined_f4720 {P : Program} {w : World} {K : PySem.W.Frag} {mg : Str → Option Value} {base : Heap} {f : Addr} {fd : FuncData} {k : Nat} (F : Fun K "_law_joined" "_law_joined" s_law_joined_f4720 f fd) (hb : Binds K fd ["one", "other"] []) (hm : mg "_law_joined" = some (.ref f))
    (y_len : mg "len" = none)
    (y_list : mg "list" = none)
    (y_set : mg "set" = none)
    (y_sorted : mg "sorted" = none)
    (y_tuple : mg "tuple" = none) : Has P w K mg base (k + 1) "_law_joined" ["one", "other"] (spD K g_law_joined_f4720) := ⟨f, fd, f_law_joined_f4720 F hb hm y_len y_list y_set y_sorted y_tuple, hb, hm, F.kp⟩
abbrev s_law_least_64473 : Stmt := top 69
theorem sc_law_least_64473 : FnScope ["rows", "found", "row", "pair", "one"] ["rows"] (defScope s_law_least_64473) := ⟨rfl, rfl, rfl, by decide +kernel, rfl, by decide +kernel, by decide +kernel⟩
theorem f_law_least_64473 {P : Program} {w : World} {K : PySem.W.Frag} {mg : Str → Option Value} {base : Heap} {f : Addr} {fd : FuncData} {k : Nat} (F : Fun K "_law_least" "_law_least" s_law_least_64473 f fd) (hb : Binds K fd ["rows"] []) (hm : mg "_law_least" = some (.ref f))
    (y_all : mg "all" = none)
    (y_any : mg "any" = none)
    (y_len : mg "len" = none)
    (y_set : mg "set" = none)
    (y_sorted : mg "sorted" = none) : FnOk P w K mg base CX0 (k + 1) f fd ["rows"] (spD K g_law_least_64473) := fn_d F sc_law_least_64473 fun cdv A outer s H E hr =>
  (dss_cons (ds_own (i := 1) sc_law_least_64473.nd rfl (by first | exact Or.inl rfl | exact Or.inr rfl) (xf_lst xa_nil))
  (dss_cons (ds_for PassesOwn.never rfl (xi_seq (de_v 0)) (dg_name 2 sc_law_least_64473.nd rfl (by first | exact Or.inl rfl | exact Or.inr rfl))
    (dss_one (ds_if (xt_not (xt_tru (xcB (cd_any rfl) (by rfl) y_any (by decide +kernel) (xa_cons (xe_fr (df_lc (own := [("one", 4)]) rfl sc_law_least_64473.nd (xi_seq (de_v 0)) (blkOk_by (by kernel_rfl)) (fun _ _ _ _ _ => (dg_name 4 sc_law_least_64473.nd rfl (by first | exact Or.inl rfl | exact Or.inr rfl))) (fun _ _ _ _ _ => dts_nil) (fun _ _ _ _ _ => (de_and (xe_cmp opd_lt (xcB cd_len (by rfl) y_len (by decide +kernel) (xa_cons (de_v 4) xa_nil)) (xcB cd_len (by rfl) y_len (by decide +kernel) (xa_cons (de_v 2) xa_nil)) (nomark _)) (de_one (xcB (cd_all rfl) (by rfl) y_all (by decide +kernel) (xa_cons (xe_fr (df_lc (own := [("pair", 3)]) rfl sc_law_least_64473.nd (xi_seq (de_v 4)) (blkOk_by (by kernel_rfl)) (fun _ _ _ _ _ => (dg_name 3 sc_law_least_64473.nd rfl (by first | exact Or.inl rfl | exact Or.inr rfl))) (fun _ _ _ _ _ => dts_nil) (fun _ _ _ _ _ => (xe_cmp (opd_in hr) (de_v 3) (de_v 2) (by rfl))))) xa_nil))))))) xa_nil))))
    (dss_one (ds_app 1 (te := _) (fun _ _ _ _ h => h) (ps_expr (pe_bm PySem.F.plainAttrs_list PySem.F.slot_list_append PySem.F.type_list_append mt_append (pv 1) (pa_cons ((show DE _ _ _ _ _ from (xe_tup (xa_cons (xcB cd_len (by rfl) y_len (by decide +kernel) (xa_cons (de_v 2) xa_nil)) (xa_cons (de_v 2) xa_nil)))).pe rfl) pa_nil)))))
    dss_nil)))
  (dss_one (ds_frz 1 (ds_ret (xe_fr (df_lc (own := [("pair", 3)]) rfl sc_law_least_64473.nd (xi_seq (xe_fr (df_sortN hr rfl (by rfl) y_sorted (by rfl) y_set (de_v 1)))) (blkOk_by (by kernel_rfl)) (fun _ _ _ _ _ => (dg_name 3 sc_law_least_64473.nd rfl (by first | exact Or.inl rfl | exact Or.inr rfl))) (fun _ _ _ _ _ => dts_nil) (fun _ _ _ _ _ => (xe_ix (de_v 3) de_int (fun _ _ => rfl))))))))))
theorem t_law_least_64473 {P : Program} {w : World} {K : PySem.W.Frag} {mg : Str → Option Value} {base : Heap} {f : Addr} {fd : FuncData} {k : Nat} (F : Fun K "_law_least" "_law_least" s_law_least_64473 f fd) (hb : Binds K fd ["rows"] []) (hm : mg "_law_least" = some (.ref f))
    (y_all : mg "all" = none)
    (y_any : mg "any" = none)
    (y_len : mg "len" = none)
    (y_set : mg "set" = none)
    (y_sorted : mg "sorted" = none) : Has P w K mg base (k + 1) "_law_least" ["rows"] (spD K g_law_least_64473) := ⟨f, fd, f_law_least_64473 F hb hm y_all y_any y_len y_set y_sorted, hb, hm, F.kp⟩
abbrev s_law_joins_cd054 : Stmt := top 70
theorem sc_law_joins_cd054 : FnScope ["ours", "theirs", "found", "one", "other", "row"] ["ours", "theirs"] (defScope s_law_joins_cd054) := ⟨rfl, rfl, rfl, by decide +kernel, rfl, by decide +kernel, by decide +kernel⟩
theorem f_law_joins_cd054 {P : Program} {w : World} {K : PySem.W.Frag} {mg : Str → Option Value} {base : Heap} {f : Addr} {fd : FuncData} {k : Nat} (F : Fun K "_law_joins" "_law_joins" s_law_joins_cd054 f fd) (hb : Binds K fd ["ours", "theirs"] []) (hm : mg "_law_joins" = some (.ref f))
    (G_law_joined_f4720 : Has P w K mg base k "_law_joined" ["one", "other"] (spD K g_law_joined_f4720))
    (G_law_least_64473 : Has P w K mg base k "_law_least" ["rows"] (spD K g_law_least_64473)) : FnOk P w K mg base CX0 (k + 1) f fd ["ours", "theirs"] (spD K g_law_joins_cd054) := fn_d F sc_law_joins_cd054 fun cdv A outer s H E hr =>
  (dss_cons (ds_own (i := 2) sc_law_joins_cd054.nd rfl (by first | exact Or.inl rfl | exact Or.inr rfl) (xf_lst xa_nil))
  (dss_cons (ds_for PassesOwn.never rfl (xi_seq (de_v 0)) (dg_name 3 sc_law_joins_cd054.nd rfl (by first | exact Or.inl rfl | exact Or.inr rfl))
    (dss_one (ds_for PassesOwn.never rfl (xi_seq (de_v 1)) (dg_name 4 sc_law_joins_cd054.nd rfl (by first | exact Or.inl rfl | exact Or.inr rfl))
    (dss_cons (ds_set (i := 5) sc_law_joins_cd054.nd rfl (by first | exact Or.inl rfl | exact Or.inr rfl) (xc G_law_joined_f4720 hr (by rfl) (xa_cons (de_v 3) (xa_cons (de_v 4) xa_nil))))
  (dss_one (ds_if (dt_peek (DW.pt (dw_and (xt_cmp opd_isNot (de_v 5) de_non (nomark _)) (dw_and1 (xt_cmp (opd_notIn hr) (de_v 5) (de_v 2) (by rfl))))))
    (dss_one (ds_app 2 (te := _) (fun _ _ _ _ h => h) (ps_expr (pe_bm PySem.F.plainAttrs_list PySem.F.slot_list_append PySem.F.type_list_append mt_append (pv 2) (pa_cons ((show DE _ _ _ _ _ from (de_v 5)).pe rfl) pa_nil)))))
    dss_nil))))))
  (dss_one (ds_frz 2 (ds_ret (xc G_law_least_64473 hr (by rfl) (xa_cons (de_v 2) xa_nil)))))))
theorem t_law_joins_cd054 {P : Program} {w : World} {K : PySem.W.Frag} {mg : Str → Option Value} {base : Heap} {f : Addr} {fd : FuncData} {k : Nat} (F : Fun K "_law_joins" "_law_joins" s_law_joins_cd054 f fd) (hb : Binds K fd ["ours", "theirs"] []) (hm : mg "_law_joins" = some (.ref f))
    (G_law_joined_f4720 : Has P w K mg base k "_law_joined" ["one", "other"] (spD K g_law_joined_f4720))
    (G_law_least_64473 : Has P w K mg base k "_law_least" ["rows"] (spD K g_law_least_64473)) : Has P w K mg base (k + 1) "_law_joins" ["ours", "theirs"] (spD K g_law_joins_cd054) := ⟨f, fd, f_law_joins_cd054 F hb hm G_law_joined_f4720 G_law_least_64473, hb, hm, F.kp⟩
abbrev s_law_k95 : Stmt := top 71
theorem sc_law_k95 : FnScope ["script", "cell", "sizes", "one", "other", "yes", "no", "result"] ["script"] (defScope s_law_k95) := ⟨rfl, rfl, rfl, by decide +kernel, rfl, by decide +kernel, by decide +kernel⟩
theorem f_law_k95 {P : Program} {w : World} {K : PySem.W.Frag} {mg : Str → Option Value} {base : Heap} {f : Addr} {fd : FuncData} {k : Nat} (F : Fun K "law" "law" s_law_k95 f fd) (hb : Binds K fd ["script"] []) (hm : mg "law" = some (.ref f))
    (y_list : mg "list" = none)
    (G_prime_rules : Has P w K mg base k "prime_rules" ["sizes", "form", "result"] (spD K g_prime_rules))
    (G_law_cell_98eb9 : Has P w K mg base k "_law_cell" ["script", "k"] (spD K g_law_cell_98eb9))
    (G_law_draw_48e0b : Has P w K mg base k "_law_draw" ["cell", "k", "limit"] (spD K g_law_draw_48e0b))
    (G_law_sizes_48d55 : Has P w K mg base k "_law_sizes" ["cell", "more", "most"] (spD K g_law_sizes_48d55))
    (G_law_brief_4e244 : Has P w K mg base k "_law_brief" ["sizes", "cells"] (spD K g_law_brief_4e244))
    (G_law_joins_cd054 : Has P w K mg base k "_law_joins" ["ours", "theirs"] (spD K g_law_joins_cd054)) : FnOk P w K mg base CX0 (k + 1) f fd ["script"] (spD K g_law_k95) := fn_d F sc_law_k95 fun cdv A outer s H E hr =>
  (dss_cons (ds_set (i := 1) sc_law_k95.nd rfl (by first | exact Or.inl rfl | exact Or.inr rfl) (xc G_law_cell_98eb9 hr (by rfl) (xa_cons (de_v 0) (xa_cons de_int xa_nil))))
  (dss_cons (ds_set (i := 2) sc_law_k95.nd rfl (by first | exact Or.inl rfl | exact Or.inr rfl) (xc G_law_sizes_48d55 hr (by rfl) (xa_cons (de_v 1) (xa_cons de_int (xa_cons de_int xa_nil)))))
  (dss_cons (ds_set (i := 3) sc_law_k95.nd rfl (by first | exact Or.inl rfl | exact Or.inr rfl) (xc G_law_brief_4e244 hr (by rfl) (xa_cons (de_v 2) (xa_cons (xe_fr (xf_slice (de_v 0) (xo_some de_int) (xo_some de_int))) xa_nil))))
  (dss_cons (ds_set (i := 4) sc_law_k95.nd rfl (by first | exact Or.inl rfl | exact Or.inr rfl) (xc G_law_brief_4e244 hr (by rfl) (xa_cons (de_v 2) (xa_cons (xe_fr (xf_slice (de_v 0) (xo_some de_int) (xo_some de_int))) xa_nil))))
  (dss_cons (ds_if (xt_cmp (opd_eq hr) (xc G_law_draw_48e0b hr (by rfl) (xa_cons (de_v 1) (xa_cons de_int (xa_cons de_int xa_nil)))) de_int (nomark _))
    (dss_one (ds_set (i := 4) sc_law_k95.nd rfl (by first | exact Or.inl rfl | exact Or.inr rfl) (xe_tup (xa_cons de_str (xa_cons (xe_tup (xa_cons (de_v 3) (xa_cons (xe_tup (xa_cons de_str (xa_cons (de_v 4) xa_nil))) xa_nil))) xa_nil)))))
    dss_nil)
  (dss_cons (ds_set (i := 5) sc_law_k95.nd rfl (by first | exact Or.inl rfl | exact Or.inr rfl) (xc G_law_joins_cd054 hr (by rfl) (xa_cons (xc G_prime_rules hr (by rfl) (xa_cons (xe_fr (xcTF cf_list (by rfl) y_list (by decide +kernel) (xa_cons (de_v 2) xa_nil))) (xa_cons (de_v 3) (xa_cons de_bl xa_nil)))) (xa_cons (xc G_prime_rules hr (by rfl) (xa_cons (xe_fr (xcTF cf_list (by rfl) y_list (by decide +kernel) (xa_cons (de_v 2) xa_nil))) (xa_cons (de_v 4) (xa_cons de_bl xa_nil)))) xa_nil))))
  (dss_cons (ds_if (xt_cmp (opd_ne hr) (xc G_prime_rules hr (by rfl) (xa_cons (xe_fr (xcTF cf_list (by rfl) y_list (by decide +kernel) (xa_cons (de_v 2) xa_nil))) (xa_cons (xe_tup (xa_cons de_str (xa_cons (xe_tup (xa_cons (de_v 3) (xa_cons (de_v 4) xa_nil))) xa_nil))) (xa_cons de_bl xa_nil)))) (de_v 5) (nomark _))
    (dss_one (ds_ret de_bl))
    dss_nil)
  (dss_cons (ds_set (i := 6) sc_law_k95.nd rfl (by first | exact Or.inl rfl | exact Or.inr rfl) (xc G_law_joins_cd054 hr (by rfl) (xa_cons (xc G_prime_rules hr (by rfl) (xa_cons (xe_fr (xcTF cf_list (by rfl) y_list (by decide +kernel) (xa_cons (de_v 2) xa_nil))) (xa_cons (de_v 3) (xa_cons de_bl xa_nil)))) (xa_cons (xc G_prime_rules hr (by rfl) (xa_cons (xe_fr (xcTF cf_list (by rfl) y_list (by decide +kernel) (xa_cons (de_v 2) xa_nil))) (xa_cons (de_v 4) (xa_cons de_bl xa_nil)))) xa_nil))))
  (dss_cons (ds_if (xt_cmp (opd_ne hr) (xc G_prime_rules hr (by rfl) (xa_cons (xe_fr (xcTF cf_list (by rfl) y_list (by decide +kernel) (xa_cons (de_v 2) xa_nil))) (xa_cons (xe_tup (xa_cons de_str (xa_cons (xe_tup (xa_cons (de_v 4) (xa_cons (de_v 3) xa_nil))) xa_nil))) (xa_cons de_bl xa_nil)))) (de_v 6) (nomark _))
    (dss_one (ds_ret de_bl))
    dss_nil)
  (dss_cons (ds_for PassesOwn.never rfl (xi_seq (xe_fr (xf_lst (xa_cons de_bl (xa_cons de_bl xa_nil))))) (dg_name 7 sc_law_k95.nd rfl (by first | exact Or.inl rfl | exact Or.inr rfl))
    (dss_one (ds_if (xt_cmp (opd_ne hr) (xc G_prime_rules hr (by rfl) (xa_cons (xe_fr (xcTF cf_list (by rfl) y_list (by decide +kernel) (xa_cons (de_v 2) xa_nil))) (xa_cons (xe_tup (xa_cons de_str (xa_cons (de_v 4) xa_nil))) (xa_cons (de_v 7) xa_nil)))) (xc G_prime_rules hr (by rfl) (xa_cons (xe_fr (xcTF cf_list (by rfl) y_list (by decide +kernel) (xa_cons (de_v 2) xa_nil))) (xa_cons (de_v 4) (xa_cons (xe_not (de_v 7)) xa_nil)))) (nomark _))
    (dss_one (ds_ret de_bl))
    dss_nil)))
  (dss_one (ds_ret de_bl))))))))))))
end DL
namespace DL
open PySem PySem.Spec PyProof.Rows L2 Lk
section
variable {α β : Type} {r r' : En} {m : M α} {k : α → M β} {a : α} {d e z : PyData} {ds es : List PyData} {i : Nat} {ma mb mc : M PyData} {ml : M (List PyData)} {mt mu : M Bool}
@[simp] theorem e_bind : M.bind m k r = (match m r with
  | some (.ok a r') => k a r'
  | some (.ex c p) => some (.ex c p)
  | none => none) := rfl
@[simp] theorem e_ret : (M.ret a : M α) r = some (.ok a r) := rfl
@[simp] theorem e_lift_some : (M.lift (some a) : M α) r = some (.ok a r) := rfl
@[simp] theorem e_lift_none : (M.lift none : M α) r = none := rfl
@[simp] theorem e_map {f : α → β} : M.map f m r = M.bind m (fun a => M.ret (f a)) r := rfl
@[simp] theorem e_V : mV i r = (match r[i]? with
  | some (.pl d) => some (.ok d r)
  | _ => none) := rfl
@[simp] theorem e_op2 {g : PyData → PyData → Option PyData} : mOp2 g ma mb r = M.bind ma (fun d => mb.bind fun e => M.lift (g d e)) r := rfl
@[simp] theorem e_opT {g : PyData → PyData → Option PyData} : mOpT g ma mb r = M.bind ma (fun d => mb.bind fun e => M.lift ((g d e).bind asBool)) r := rfl
@[simp] theorem e_cons : mCons ma ml r = M.bind ma (fun d => ml.bind fun ds => M.ret (d :: ds)) r := rfl
@[simp] theorem e_nil : mNil r = some (.ok [] r) := rfl
@[simp] theorem e_call {g : List PyData → Option PyData} : mCall g ml r = M.bind ml (fun ds => M.lift (g ds)) r := rfl
@[simp] theorem e_callK {gD : List PyData → List PyData} {g : List PyData → Option PyData} : mCallK gD g ml r = M.bind ml (fun ds => M.lift (g (gD ds))) r := rfl
@[simp] theorem e_callF {g : List PyData → Option (List PyData)} : mCallF g ml r = M.bind ml (fun ds => M.lift (g ds)) r := rfl
@[simp] theorem e_tup : mTup ml r = M.bind ml (fun ds => M.lift (tupM ds)) r := rfl
@[simp] theorem e_lst : mLst ml r = M.bind ml (fun ds => M.lift (lstM ds)) r := rfl
@[simp] theorem e_new : mNew ml r = M.bind ml (fun ds => M.ret (.list ds)) r := rfl
@[simp] theorem e_val : mVal ma r = M.bind ma (fun d => M.lift (asBool d)) r := rfl
@[simp] theorem e_tru : mTru ma r = M.bind ma (fun d => M.lift (truD d)) r := rfl
@[simp] theorem e_notT : mNotT mt r = M.bind mt (fun b => M.ret (!b)) r := rfl
@[simp] theorem e_notV : mNotV ma r = M.bind ma (fun d => (M.lift (asBool d)).bind fun b => M.ret (.bool (!b))) r := rfl
@[simp] theorem e_isi {n : String} : mIsi n ma r = M.bind ma (fun d => M.ret (.bool (isTy n d))) r := rfl
@[simp] theorem e_neg : mNeg ma r = M.bind ma (fun d => M.lift (negM d)) r := rfl
@[simp] theorem e_seqI : mSeq ma r = M.bind ma (fun d => M.lift (asSeq d)) r := rfl
@[simp] theorem e_rng1 : mRng1 ml r = (match ml r with
  | some (.ok [d] r') => M.lift (rngM [d]) r'
  | some (.ok _ _) => none
  | some (.ex c p) => some (.ex c p)
  | none => none) := by
  unfold mRng1 M.bind
  cases ml r with
  | none => rfl
  | some o =>
    cases o with
    | ex c p => rfl
    | ok ds r' =>
      dsimp only
      match ds with
      | [] => rfl
      | [d] => rw [if_pos (show [d].length = 1 from rfl)]
      | _ :: _ :: _ => rw [if_neg (by simp)]; rfl
@[simp] theorem e_rng2 : mRng2 ml r = (match ml r with
  | some (.ok [d, e] r') => M.lift (rngM [d, e]) r'
  | some (.ok _ _) => none
  | some (.ex c p) => some (.ex c p)
  | none => none) := by
  unfold mRng2 M.bind
  cases ml r with
  | none => rfl
  | some o =>
    cases o with
    | ex c p => rfl
    | ok ds r' =>
      dsimp only
      match ds with
      | [] => rfl
      | [_] => rw [if_neg (by simp)]; rfl
      | [d, e] => rw [if_pos (show [d, e].length = 2 from rfl)]
      | _ :: _ :: _ :: _ => rw [if_neg (by simp)]; rfl
@[simp] theorem e_part : mPart ma r = M.bind ma (fun d => M.lift ((asInt d).map some)) r := rfl
@[simp] theorem e_nopart : mNoPart r = some (.ok none r) := rfl
@[simp] theorem e_slice {mlo mhi : M (Option Int)} : mSlice ma mlo mhi r = M.bind ma (fun d => mlo.bind fun l => mhi.bind fun h => M.lift ((asList d).map fun ds => cutD ds l h)) r := rfl
@[simp] theorem e_star : mStar ma ml r = M.bind ma (fun d => (M.lift (asSeq d)).bind fun xs => ml.bind fun ds => M.ret (xs ++ ds)) r := rfl
@[simp] theorem e_rep : mRep ml mb r = M.bind ml (fun xs => mb.bind fun d => M.lift (repM xs d)) r := rfl
@[simp] theorem e_and : mAnd mt mu r = M.bind mt (fun b => if b then mu else M.ret false) r := rfl
@[simp] theorem e_or : mOr mt mu r = M.bind mt (fun b => if b then M.ret true else mu) r := rfl
@[simp] theorem e_andV : mAndV ma mb r = M.bind ma (fun d => (M.lift (asBool d)).bind fun b => if b then mb else M.ret (.bool false)) r := rfl
@[simp] theorem e_orV : mOrV ma mb r = M.bind ma (fun d => (M.lift (asBool d)).bind fun b => if b then M.ret (.bool true) else mb) r := rfl
@[simp] theorem e_if {m n : M α} : mIf mt m n r = M.bind mt (fun b => if b then m else n) r := rfl
@[simp] theorem e_chain {f g : PyData → PyData → Option PyData} : mChain f g ma mb mc r = M.bind ma (fun d => mb.bind fun e => (M.lift ((f d e).bind asBool)).bind fun k => if k then mc.bind fun h => M.lift ((g e h).bind fun z => (asBool z).map PyData.bool) else M.ret (.bool false)) r := rfl
@[simp] theorem e_mt {T : String} {g : PyData → List PyData → Option PyData} : mMt T g ma ml r = M.bind ma (fun d => if hasT T d then ml.bind fun ds => M.lift (g d ds) else fun _ => none) r := rfl
@[simp] theorem e_lrng1 : mLRng1 ma r = M.bind ma (fun d => M.lift ((asInt d).bind fun n => if n.natAbs ≤ 1000000 then some (rngL 0 n.toNat) else none)) r := rfl
@[simp] theorem e_lenO : mLenO i r = (match ownOf r[i]? with
  | some ds => some (.ok (.int ds.length) r)
  | none => none) := rfl
@[simp] theorem e_ixO : mIxO i ma r = if (ownOf r[i]?).isSome then (ma.bind fun d r => match ownOf r[i]?, asInt d with
  | some ds, some j => (atI ds j).map fun z => .ok z r
  | _, _ => none) r else none := rfl
@[simp] theorem e_truO : mTruO i r = (match ownOf r[i]? with
  | some ds => some (.ok (!ds.isEmpty) r)
  | none => none) := rfl
@[simp] theorem e_pop : mPop i r = (match ownOf r[i]? with
  | some ds => (ds[ds.length - 1]?).map fun z => .ok z (upO i ds.dropLast r)
  | none => none) := rfl
@[simp] theorem e_own_ow : ownOf (some (.ow ds)) = some ds := rfl
@[simp] theorem e_own_io : ownOf (some (.io ds)) = some ds := rfl
@[simp] theorem e_asBool {b : Bool} : asBool (.bool b) = some b := rfl
@[simp] theorem e_asInt {b : Int} : asInt (.int b) = some b := rfl
@[simp] theorem e_asList : asList (.list ds) = some ds := rfl
@[simp] theorem e_asTup : asTup (.tuple ds) = some ds := rfl
@[simp] theorem e_asSeqL : asSeq (.list ds) = some ds := rfl
@[simp] theorem e_asSeqT : asSeq (.tuple ds) = some ds := rfl
@[simp] theorem e_truB {b : Bool} : truD (.bool b) = some b := rfl
@[simp] theorem e_truL : truD (.list ds) = some (!ds.isEmpty) := rfl
@[simp] theorem e_truT : truD (.tuple ds) = some (!ds.isEmpty) := rfl
@[simp] theorem e_addI {a b : Int} : addM (.int a) (.int b) = some (.int (a + b)) := rfl
@[simp] theorem e_subI {a b : Int} : subM (.int a) (.int b) = some (.int (a - b)) := rfl
@[simp] theorem e_ltI {a b : Int} : ltM (.int a) (.int b) = some (.bool (decide (a < b))) := rfl
@[simp] theorem e_leI {a b : Int} : leM (.int a) (.int b) = some (.bool (decide (a ≤ b))) := rfl
@[simp] theorem e_gtI {a b : Int} : gtM (.int a) (.int b) = some (.bool (decide (b < a))) := rfl
@[simp] theorem e_geI {a b : Int} : geM (.int a) (.int b) = some (.bool (decide (b ≤ a))) := rfl
@[simp] theorem e_eqI {a b : Int} : eqM (.int a) (.int b) = some (.bool (a == b)) := rfl
@[simp] theorem e_neI {a b : Int} : neM (.int a) (.int b) = some (.bool (!(a == b))) := rfl
@[simp] theorem e_eqB {a b : Bool} : eqM (.bool a) (.bool b) = some (.bool (a == b)) := rfl
@[simp] theorem e_neB {a b : Bool} : neM (.bool a) (.bool b) = some (.bool (!(a == b))) := rfl
@[simp] theorem e_isN : isM d .none = some (.bool (isNone d)) := rfl
@[simp] theorem e_isNotN : isNotM d .none = some (.bool (!isNone d)) := rfl
@[simp] theorem e_isNone : isNone .none = true := rfl
@[simp] theorem e_isNoneI {a : Int} : isNone (.int a) = false := rfl
@[simp] theorem e_isNoneB {a : Bool} : isNone (.bool a) = false := rfl
@[simp] theorem e_isNoneT : isNone (.tuple ds) = false := rfl
@[simp] theorem e_isNoneL : isNone (.list ds) = false := rfl
@[simp] theorem e_lenL : lenM [.list ds] = some (.int ds.length) := rfl
@[simp] theorem e_lenT : lenM [.tuple ds] = some (.int ds.length) := rfl
@[simp] theorem e_intI {a : Int} : intM [.int a] = some (.int a) := rfl
@[simp] theorem e_intB {b : Bool} : intM [.bool b] = some (.int (if b then 1 else 0)) := rfl
@[simp] theorem e_tupleL : tupleM [.list ds] = some (.tuple ds) := rfl
@[simp] theorem e_tupleT : tupleM [.tuple ds] = some (.tuple ds) := rfl
@[simp] theorem e_listL : listM [.list ds] = some ds := rfl
@[simp] theorem e_listT : listM [.tuple ds] = some ds := rfl
@[simp] theorem e_negI {a : Int} : negM (.int a) = some (.int (-a)) := rfl
@[simp] theorem e_tup0 : tupM [] = some (.tuple []) := rfl
@[simp] theorem e_tup1 : tupM [d] = some (.tuple [d]) := rfl
@[simp] theorem e_tup2 : tupM [d, e] = some (.tuple [d, e]) := rfl
@[simp] theorem e_tup3 : tupM [d, e, z] = some (.tuple [d, e, z]) := rfl
@[simp] theorem e_tup4 {y : PyData} : tupM [d, e, z, y] = some (.tuple [d, e, z, y]) := rfl
@[simp] theorem e_lst0 : lstM [] = some [] := rfl
@[simp] theorem e_lst1 : lstM [d] = some [d] := rfl
@[simp] theorem e_lst2 : lstM [d, e] = some [d, e] := rfl
@[simp] theorem e_lst3 : lstM [d, e, z] = some [d, e, z] := rfl
@[simp] theorem e_ixL {j : Int} : ixM (.list ds) (.int j) = atI ds j := rfl
@[simp] theorem e_ixT {j : Int} : ixM (.tuple ds) (.int j) = atI ds j := rfl
@[simp] theorem e_isTyInt {a : Int} : isTy "int" (.int a) = true := rfl
@[simp] theorem e_isTyIntB {a : Bool} : isTy "int" (.bool a) = true := rfl
@[simp] theorem e_isTyBoolI {a : Int} : isTy "bool" (.int a) = false := rfl
@[simp] theorem e_isTyBool {a : Bool} : isTy "bool" (.bool a) = true := rfl
@[simp] theorem e_isTyList : isTy "list" (.list ds) = true := rfl
@[simp] theorem e_isTyListT : isTy "list" (.tuple ds) = false := rfl
@[simp] theorem e_isTyTuple : isTy "tuple" (.tuple ds) = true := rfl
@[simp] theorem e_isTyStr {x : Str} : isTy "str" (.str x) = true := rfl
@[simp] theorem e_isTyIntN : isTy "int" .none = false := rfl
@[simp] theorem e_isTyBoolN : isTy "bool" .none = false := rfl
@[simp] theorem e_hasTL : hasT "list" (.list ds) = true := rfl
@[simp] theorem e_asBoolMap {b : Bool} : (asBool (.bool b)).map PyData.bool = some (.bool b) := rfl
theorem e_mulI {a b : Int} (ha : a.natAbs < 2 ^ 1000) (hb : b.natAbs < 2 ^ 1000) : mulM (.int a) (.int b) = some (.int (a * b)) := by
  have h1 := PySem.Flt.log2_lt_of (by decide : 0 < 1000) ha
  have h2 := PySem.Flt.log2_lt_of (by decide : 0 < 1000) hb
  show (if _ then _ else _) = _
  rw [if_pos (by omega)]
theorem e_divI {a b : Int} (h : 0 < b) (hb : b.natAbs < 2 ^ 1000) : divM (.int a) (.int b) = some (.int (a / b)) := by
  have h2 := PySem.Flt.log2_lt_of (by decide : 0 < 1000) hb
  show (if _ then _ else _) = _
  rw [if_pos ⟨h, by omega⟩]
theorem e_modI {a b : Int} (h : 0 < b) : modM (.int a) (.int b) = some (.int (a % b)) := by
  show (if _ then _ else _) = _
  rw [if_pos h]
theorem e_shrI {a b : Int} (h : 0 ≤ b) : shrM (.int a) (.int b) = some (.int (a / 2 ^ b.toNat)) := by
  show (if _ then _ else _) = _
  rw [if_pos h]
theorem e_addL (h : ds.length + es.length ≤ 1000000) : addM (.list ds) (.list es) = some (.list (ds ++ es)) := by
  show (if _ then _ else _) = _
  rw [if_pos h]
theorem e_at {xs : List α} {j : Nat} {v : α} (h : xs[j]? = some v) : atI xs (j : Int) = some v := atI_nat h
@[simp] theorem e_at0 {x : α} {xs : List α} : atI (x :: xs) 0 = some x := atI_nat (j := 0) rfl
@[simp] theorem e_at1 {x y : α} {xs : List α} : atI (x :: y :: xs) 1 = some y := atI_nat (j := 1) rfl
@[simp] theorem e_at2 {x y w : α} {xs : List α} : atI (x :: y :: w :: xs) 2 = some w := atI_nat (j := 2) rfl
@[simp] theorem e_asum {ns : List Int} : sumM [.list (ns.map PyData.int)] = some (.int ns.sum) := by
  show (intsOf _).map _ = _
  rw [intsOf_map]
  rfl
@[simp] theorem e_all {bs : List Bool} : allM [.list (bs.map PyData.bool)] = some (.bool (bs.all id)) := by
  show (boolsOf _).map _ = _
  rw [boolsOf_map]
  rfl
@[simp] theorem e_any {bs : List Bool} : anyM [.list (bs.map PyData.bool)] = some (.bool (bs.any id)) := by
  show (boolsOf _).map _ = _
  rw [boolsOf_map]
  rfl
end
section
variable {α : Type} {r r' : En} {m : M α} {k : α → SM} {a b : SM} {mc : M Bool} {ma mb : M PyData} {ml : M (List PyData)} {i j : Nat} {d : PyData} {ds : List PyData}
@[simp] theorem s_bind : sBind m k r = (match m r with
  | some (.ok a r') => k a r'
  | some (.ex c p) => some (.ex c p)
  | none => none) := rfl
@[simp] theorem s_nil : sNil r = some (.nx r) := rfl
@[simp] theorem s_seq : sSeq a b r = (match a r with
  | some (.nx r') => b r'
  | o => o) := rfl
@[simp] theorem s_expr : sExpr ma r = sBind ma (fun _ => sNil) r := rfl
@[simp] theorem s_ret : sRet ma r = sBind ma (fun d r => some (.rt d r)) r := rfl
@[simp] theorem s_retN : sRetN r = some (.rt .none r) := rfl
@[simp] theorem s_if : sIf mc a b r = sBind mc (fun k => if k then a else b) r := rfl
@[simp] theorem s_put : sPut i d r = (match r[i]? with
  | some (.io _) => none
  | some _ => some (.nx (r.set i (.pl d)))
  | none => none) := rfl
@[simp] theorem s_set : sSet i ma r = sBind ma (sPut i) r := rfl
@[simp] theorem s_putO : sPutO i ds r = (match r[i]? with
  | some (.io _) => none
  | some _ => some (.nx (r.set i (.ow ds)))
  | none => none) := rfl
@[simp] theorem s_own : sOwn i ml r = sBind ml (sPutO i) r := rfl
@[simp] theorem s_frz : sFrz i a r = (match r[i]? with
  | some (.ow ds) => a (r.set i (.pl (.list ds)))
  | _ => a r) := rfl
@[simp] theorem s_app : sApp i ma r = if (ownOf r[i]?).isSome then sBind ma (fun d r => match ownOf r[i]? with
  | some ds => if ds.length ≤ 1000000 then some (.nx (upO i (ds ++ [d]) r)) else none
  | none => none) r else none := rfl
@[simp] theorem s_putIx : sPutIx i ma mb r = sBind mb (fun d r1 => if (ownOf r1[i]?).isSome then sBind ma (fun j r => match ownOf r[i]?, asInt j with
  | some ds, some j => (ixN ds.length j).map fun n => .nx (upO i (ds.set n d) r)
  | _, _ => none) r1 else none) r := rfl
@[simp] theorem s_par : sPar i j ml r = sBind ml (fun ds r => match ds with
  | [d, e] => sSeq (sPut i d) (sPut j e) r
  | _ => none) r := rfl
@[simp] theorem s_asg {g : PyData → En → Option En} : sAsg ma g r = sBind ma (fun d r => (g d r).map .nx) r := rfl
@[simp] theorem s_ext : sExt i ma r = if (ownOf r[i]?).isSome then sBind ma (fun d r => match ownOf r[i]?, asTup d with
  | some ds, some es => if ds.length + es.length ≤ 1000000 then some (.nx (upO i (ds ++ es) r)) else none
  | _, _ => none) r else none := rfl
@[simp] theorem s_no : sNo r = none := rfl
@[simp] theorem s_brk : sBrk r = some (.bk r) := rfl
@[simp] theorem s_cont : sCont r = some (.ct r) := rfl
@[simp] theorem s_upO : upO i ds r = (match r[i]? with
  | some c => r.set i (reOwn ds c)
  | none => r) := rfl
@[simp] theorem s_re_ow {es : List PyData} : reOwn ds (.ow es) = .ow ds := rfl
@[simp] theorem s_re_io {es : List PyData} : reOwn ds (.io es) = .io ds := rfl
@[simp] theorem o_rt : outD (some (.rt d r)) = some d := rfl
@[simp] theorem o_nx : outD (some (.nx r)) = some .none := rfl
@[simp] theorem s_gN : gN i d r = (match r[i]? with
  | some c => if c.own then none else some (r.set i (.pl d))
  | none => none) := rfl
@[simp] theorem s_ownU : Cel.own .un = false := rfl
@[simp] theorem s_ownP : Cel.own (.pl d) = false := rfl
@[simp] theorem s_gTup {n : Nat} {g : List PyData → En → Option En} {es : List PyData} : gTupD n g (.tuple es) r = if es.length = n then g es r else none := rfl
@[simp] theorem s_gCons {g : PyData → En → Option En} {h : List PyData → En → Option En} {es : List PyData} : gConsD g h (d :: es) r = (g d r).bind (h es) := rfl
@[simp] theorem s_gNil : gNilD [] r = some r := rfl
@[simp] theorem s_wipe0 : wipeE r [] = r := rfl
@[simp] theorem s_wipeS {vs : List Nat} : wipeE r (i :: vs) = (wipeE r vs).set i .un := rfl
end
theorem restE_wipe {r : En} : ∀ {vs : List Nat} {r' : En}, r'.length = r.length → (∀ j, j ∉ vs → r'[j]? = r[j]?) → restE r r' vs = r
  | [], r', hl, h => List.ext_getElem? fun j => h j (by simp)
  | v :: vs, r', hl, h => by
    show (restE r (r'.set v .un) vs).set v ((r[v]?).getD .un) = r
    by_cases hv : v < r.length
    · have e : r[v]? = some r[v] := List.getElem?_eq_getElem hv
      -- the slot v first restored, then the others
      have key : ∀ {vs : List Nat} {r' : En}, r'.length = r.length → (∀ j, j ∉ vs → j ≠ v → r'[j]? = r[j]?) → (restE r r' vs).set v r[v] = r := by
        intro vs
        induction vs with
        | nil =>
          intro r' hl h
          show r'.set v r[v] = r
          refine List.ext_getElem? fun j => ?_
          by_cases z : v = j
          · subst z
            rw [List.getElem?_set_self (by omega), e]
          · rw [List.getElem?_set_ne z]
            exact h j (by simp) (Ne.symm z)
        | cons w ws ih =>
          intro r' hl h
          show ((restE r (r'.set w .un) ws).set w ((r[w]?).getD .un)).set v r[v] = r
          have step : (restE r (r'.set w .un) ws).set v r[v] = r ∨ w ∉ ws := by
            by_cases hw : w ∈ ws
            · exact .inl (ih (by rw [List.length_set]; exact hl) fun j hj hjv => by
                rw [List.getElem?_set_ne fun z => hj (by rw [← z]; exact hw)]
                exact h j (by
                  rw [List.mem_cons, not_or]
                  exact ⟨fun z => hj (by rw [z]; exact hw), hj⟩) hjv)
            · exact .inr hw
          have lenR : ∀ {vs : List Nat} {r' : En}, (restE r r' vs).length = r'.length := by
            intro vs
            induction vs with
            | nil => intro r'; rfl
            | cons a l ih => intro r'; show ((restE r (r'.set a .un) l).set a _).length = _; rw [List.length_set, ih, List.length_set]
          have outR : ∀ {vs : List Nat} {r' : En} {j : Nat}, j ∉ vs → (restE r r' vs)[j]? = r'[j]? := by
            intro vs
            induction vs with
            | nil => intro r' j _; rfl
            | cons a l ih =>
              intro r' j hj
              rw [List.mem_cons, not_or] at hj
              show ((restE r (r'.set a .un) l).set a _)[j]? = _
              rw [List.getElem?_set_ne (Ne.symm hj.1), ih hj.2, List.getElem?_set_ne (Ne.symm hj.1)]
          have inR : ∀ {vs : List Nat} {r' : En} {j : Nat}, r'.length = r.length → j ∈ vs → (restE r r' vs)[j]? = r[j]? := by
            intro vs
            induction vs with
            | nil => intro r' j _ hj; cases hj
            | cons a l ih =>
              intro r' j hl hj
              show ((restE r (r'.set a .un) l).set a ((r[a]?).getD .un))[j]? = _
              by_cases z : a = j
              · subst z
                by_cases hb : a < r.length
                · rw [List.getElem?_set_self (by rw [lenR, List.length_set, hl]; exact hb), List.getElem?_eq_getElem hb]
                  rfl
                · rw [List.getElem?_eq_none (by rw [List.length_set, lenR, List.length_set, hl]; omega), List.getElem?_eq_none (by omega)]
              · rw [List.getElem?_set_ne z]
                exact ih (by rw [List.length_set]; exact hl) ((List.mem_cons.mp hj).resolve_left (Ne.symm z))
          refine List.ext_getElem? fun j => ?_
          by_cases z : v = j
          · subst z
            rw [List.getElem?_set_self (by rw [List.length_set, lenR, List.length_set, hl]; exact hv), e]
          · rw [List.getElem?_set_ne z]
            by_cases hj : j ∈ w :: ws
            · exact inR (vs := w :: ws) hl hj
            · show (restE r r' (w :: ws))[j]? = _
              rw [outR hj]
              exact h j hj (Ne.symm z)
      rw [e]
      exact key (by rw [List.length_set]; exact hl) fun j hj hjv => by
        rw [List.getElem?_set_ne (Ne.symm hjv)]
        exact h j (by rw [List.mem_cons, not_or]; exact ⟨hjv, hj⟩)
    · rw [List.set_eq_of_length_le]
      · have hv' : r'.set v .un = r' := List.set_eq_of_length_le (by omega)
        rw [hv']
        refine restE_wipe hl fun j hj => ?_
        by_cases z : j = v
        · subst z
          rw [List.getElem?_eq_none (by omega), List.getElem?_eq_none (by omega)]
        · exact h j (by rw [List.mem_cons, not_or]; exact ⟨z, hj⟩)
      · have lenR : ∀ {vs : List Nat} {r' : En}, (restE r r' vs).length = r'.length := by
          intro vs
          induction vs with
          | nil => intro r'; rfl
          | cons a l ih => intro r'; show ((restE r (r'.set a .un) l).set a _).length = _; rw [List.length_set, ih, List.length_set]
        rw [lenR, List.length_set]
        omega
theorem wipeE_length {r : En} : ∀ {vs : List Nat}, (wipeE r vs).length = r.length
  | [] => rfl
  | v :: vs => by rw [s_wipeS, List.length_set, wipeE_length]
theorem wipeE_out {r : En} {j : Nat} : ∀ {vs : List Nat}, j ∉ vs → (wipeE r vs)[j]? = r[j]?
  | [], _ => rfl
  | v :: vs, h => by
    rw [List.mem_cons, not_or] at h
    rw [s_wipeS, List.getElem?_set_ne (Ne.symm h.1), wipeE_out h.2]
theorem filter_true {α : Type} {l : List α} : l.filter (fun _ => true) = l := List.filter_eq_self.mpr fun _ _ => rfl
theorem forGo_cons {g : PyData → En → Option En} {b : SM} {r : En} {x : PyData} {xs : List PyData} : forGo g b (x :: xs) r = (g x r).bind fun r1 => match b r1 with
    | some (.nx r2) => forGo g b xs r2
    | some (.ct r2) => forGo g b xs r2
    | some (.bk r2) => some (.nx r2)
    | o => o := rfl
theorem whGo_step {c : M Bool} {b : SM} {n : Nat} {r r1 : En} {k : Bool} (h : c r = some (.ok k r1)) : whGo c b (n + 1) r = if k then (match b r1 with
    | some (.nx r2) => whGo c b n r2
    | some (.ct r2) => whGo c b n r2
    | some (.bk r2) => some (.nx r2)
    | o => o) else some (.nx r1) := by
  rw [whGo, sBind, h]
  cases k <;> rfl
@[simp] theorem s_for {mi : M (List PyData)} {g : PyData → En → Option En} {b : SM} {r : En} : sFor mi g b r = sBind mi (fun items => forGo g b items) r := rfl
end DL
namespace DL
open PySem PySem.Spec PyProof.Rows L2 Lk
section
variable {α β : Type} {vs : List Nat} {mi : M (List PyData)} {g : PyData → En → Option En} {mt : M Bool} {me : M PyData} {r0 r : En}
theorem lcGo_m {f : α → PyData} {p : α → Bool} {F : α → PyData} {e : α → En} : ∀ {xs : List α} {r : En}, (∀ x ∈ xs, g (f x) (wipeE r vs) = some (e x)) → (∀ x ∈ xs, wipeE (e x) vs = wipeE r vs) →
    (∀ x ∈ xs, mt (e x) = some (.ok (p x) (e x))) → (∀ x ∈ xs, p x = true → me (e x) = some (.ok (F x) (e x))) → lcGo vs g mt me (xs.map f) r = some ((xs.filter p).map F, wipeE r vs)
  | [], _, _, _, _, _ => rfl
  | x :: xs, r, hg, hw, ht, he => by
    have h1 := hg x (List.mem_cons_self ..)
    have h2 := ht x (List.mem_cons_self ..)
    have h3 := hw x (List.mem_cons_self ..)
    have ih := lcGo_m (f := f) (p := p) (F := F) (e := e) (xs := xs) (r := e x) (fun y hy => by rw [h3]; exact hg y (List.mem_cons_of_mem _ hy)) (fun y hy => by rw [h3]; exact hw y (List.mem_cons_of_mem _ hy))
      (fun y hy => ht y (List.mem_cons_of_mem _ hy)) fun y hy => he y (List.mem_cons_of_mem _ hy)
    rw [List.map_cons, lcGo, h1]
    dsimp only [Option.bind]
    rw [h2]
    cases hp : p x with
    | false =>
      dsimp only
      rw [ih, h3, List.filter_cons, if_neg (by rw [hp]; exact Bool.false_ne_true)]
    | true =>
      have h4 := he x (List.mem_cons_self ..) hp
      dsimp only
      rw [h4]
      dsimp only
      rw [ih, h3, List.filter_cons, if_pos hp]
      rfl
/-- [F x for x in xs if p x], the names as they were -/
theorem lc_m (f : α → PyData) (p : α → Bool) (F : α → PyData) (e : α → En) {xs : List α} (hi : mi r0 = some (.ok (xs.map f) r)) (hf : freeAt r vs = true) (hl : xs.length ≤ 1000000)
    (hg : ∀ x ∈ xs, g (f x) (wipeE r vs) = some (e x)) (hw : ∀ x ∈ xs, wipeE (e x) vs = wipeE r vs) (ht : ∀ x ∈ xs, mt (e x) = some (.ok (p x) (e x))) (he : ∀ x ∈ xs, p x = true → me (e x) = some (.ok (F x) (e x))) :
    mLc vs mi g mt me r0 = some (.ok ((xs.filter p).map F) r) := by
  unfold mLc M.bind
  rw [hi]
  dsimp only
  rw [hf, decide_eq_true (by rw [List.length_map]; exact hl), lcGo_m hg hw ht he]
  show some (Out.ok _ (restE r (wipeE r vs) vs)) = _
  rw [restE_wipe wipeE_length fun j hj => wipeE_out hj]
/-- [F x for x in xs] -/
theorem lc_y (f : α → PyData) (F : α → PyData) (e : α → En) {xs : List α} (hi : mi r0 = some (.ok (xs.map f) r)) (hf : freeAt r vs = true) (hl : xs.length ≤ 1000000)
    (hg : ∀ x ∈ xs, g (f x) (wipeE r vs) = some (e x)) (hw : ∀ x ∈ xs, wipeE (e x) vs = wipeE r vs) (he : ∀ x ∈ xs, me (e x) = some (.ok (F x) (e x))) :
    mLc vs mi g mYes me r0 = some (.ok (xs.map F) r) := by
  have := lc_m (mt := mYes) f (fun _ => true) F e hi hf hl hg hw (fun _ _ => rfl) fun x hx _ => he x hx
  rw [filter_true] at this
  exact this
theorem for_m {b : SM} (f : α → PyData) (enc : β → En) (step : β → α → β) (I : β → List α → Prop) : ∀ {xs : List α} {s : β}, I s xs → (∀ s x xs, I s (x :: xs) → ∃ r1, g (f x) (enc s) = some r1 ∧ (b r1 = some (.nx (enc (step s x))) ∨ b r1 = some (.ct (enc (step s x)))) ∧ I (step s x) xs) →
    forGo g b (xs.map f) (enc s) = some (.nx (enc (xs.foldl step s)))
  | [], _, _, _ => rfl
  | x :: xs, s, h0, h => by
    obtain ⟨r1, h1, h2, h3⟩ := h s x xs h0
    rw [List.map_cons, forGo_cons, h1]
    dsimp only [Option.bind]
    rcases h2 with h2 | h2
    · rw [h2]
      exact for_m f enc step I h3 h
    · rw [h2]
      exact for_m f enc step I h3 h
end
theorem lc2Go_m {α β : Type} {vs vs1 : List Nat} {g g1 : PyData → En → Option En} {mt mt1 : M Bool} {mi1 : M (List PyData)} {me : M PyData} {f : α → PyData} {f1 : β → PyData} {ys : α → List β} {F : α → β → PyData} {e : α → En} {e1 : α → β → En} {p : α → Bool} {p1 : α → β → Bool} : ∀ {xs : List α} {r : En},
    (∀ x ∈ xs, g (f x) (wipeE r vs) = some (e x)) → (∀ x ∈ xs, mt (e x) = some (.ok (p x) (e x))) → (∀ x ∈ xs, p x = true → mi1 (e x) = some (.ok ((ys x).map f1) (e x))) →
    (∀ x ∈ xs, p x = true → ∀ y ∈ ys x, g1 (f1 y) (wipeE (e x) vs1) = some (e1 x y)) → (∀ x ∈ xs, p x = true → ∀ y ∈ ys x, wipeE (e1 x y) vs1 = wipeE (e x) vs1) → (∀ x ∈ xs, p x = true → ∀ y ∈ ys x, mt1 (e1 x y) = some (.ok (p1 x y) (e1 x y))) →
    (∀ x ∈ xs, p x = true → ∀ y ∈ ys x, p1 x y = true → me (e1 x y) = some (.ok (F x y) (e1 x y))) → (∀ x ∈ xs, wipeE (e x) vs = wipeE r vs) → (∀ x ∈ xs, wipeE (wipeE (e x) vs1) vs = wipeE r vs) →
    lc2Go vs vs1 g mt mi1 g1 mt1 me (xs.map f) r = some ((xs.filter p).flatMap (fun x => ((ys x).filter (p1 x)).map (F x)), wipeE r vs)
  | [], _, _, _, _, _, _, _, _, _, _ => rfl
  | x :: xs, r, h1, h2, h3, h4, h5, h6, h7, h8, h9 => by
    have m0 : x ∈ x :: xs := List.mem_cons_self ..
    rw [List.map_cons, lc2Go, h1 x m0]
    dsimp only [Option.bind]
    rw [h2 x m0]
    cases hp : p x with
    | false =>
      dsimp only
      have ih := lc2Go_m (vs := vs) (vs1 := vs1) (g := g) (g1 := g1) (mt := mt) (mt1 := mt1) (mi1 := mi1) (me := me) (f := f) (f1 := f1) (ys := ys) (F := F) (e := e) (e1 := e1) (p := p) (p1 := p1) (xs := xs) (r := e x)
        (fun y hy => by rw [h8 x m0]; exact h1 y (List.mem_cons_of_mem _ hy)) (fun y hy => h2 y (List.mem_cons_of_mem _ hy)) (fun y hy => h3 y (List.mem_cons_of_mem _ hy)) (fun y hy => h4 y (List.mem_cons_of_mem _ hy)) (fun y hy => h5 y (List.mem_cons_of_mem _ hy)) (fun y hy => h6 y (List.mem_cons_of_mem _ hy)) (fun y hy => h7 y (List.mem_cons_of_mem _ hy))
        (fun y hy => by rw [h8 x m0]; exact h8 y (List.mem_cons_of_mem _ hy)) fun y hy => by rw [h8 x m0]; exact h9 y (List.mem_cons_of_mem _ hy)
      rw [ih, h8 x m0, List.filter_cons, if_neg (by rw [hp]; exact Bool.false_ne_true)]
    | true =>
      dsimp only
      rw [h3 x m0 hp]
      dsimp only
      rw [lcGo_m (h4 x m0 hp) (h5 x m0 hp) (h6 x m0 hp) (h7 x m0 hp)]
      dsimp only
      have w := h9 x m0
      have ih := lc2Go_m (vs := vs) (vs1 := vs1) (g := g) (g1 := g1) (mt := mt) (mt1 := mt1) (mi1 := mi1) (me := me) (f := f) (f1 := f1) (ys := ys) (F := F) (e := e) (e1 := e1) (p := p) (p1 := p1) (xs := xs) (r := wipeE (e x) vs1)
        (fun y hy => by rw [w]; exact h1 y (List.mem_cons_of_mem _ hy)) (fun y hy => h2 y (List.mem_cons_of_mem _ hy)) (fun y hy => h3 y (List.mem_cons_of_mem _ hy)) (fun y hy => h4 y (List.mem_cons_of_mem _ hy)) (fun y hy => h5 y (List.mem_cons_of_mem _ hy)) (fun y hy => h6 y (List.mem_cons_of_mem _ hy)) (fun y hy => h7 y (List.mem_cons_of_mem _ hy))
        (fun y hy => by rw [w]; exact h8 y (List.mem_cons_of_mem _ hy)) fun y hy => by rw [w]; exact h9 y (List.mem_cons_of_mem _ hy)
      rw [ih, w, List.filter_cons, if_pos hp, List.flatMap_cons]
      rfl
theorem lc2_m {α β : Type} {vs vs1 : List Nat} {mi : M (List PyData)} {g g1 : PyData → En → Option En} {mt mt1 : M Bool} {mi1 : M (List PyData)} {me : M PyData} {r0 r : En} (f : α → PyData) (f1 : β → PyData) (ys : α → List β) (p : α → Bool) (p1 : α → β → Bool) (F : α → β → PyData) (e : α → En) (e1 : α → β → En) {xs : List α}
    (hi : mi r0 = some (.ok (xs.map f) r)) (hf : freeAt r vs = true) (hl : ((xs.filter p).flatMap (fun x => ((ys x).filter (p1 x)).map (F x))).length ≤ 1000000)
    (h1 : ∀ x ∈ xs, g (f x) (wipeE r vs) = some (e x)) (h2 : ∀ x ∈ xs, mt (e x) = some (.ok (p x) (e x))) (h3 : ∀ x ∈ xs, p x = true → mi1 (e x) = some (.ok ((ys x).map f1) (e x)))
    (h4 : ∀ x ∈ xs, p x = true → ∀ y ∈ ys x, g1 (f1 y) (wipeE (e x) vs1) = some (e1 x y)) (h5 : ∀ x ∈ xs, p x = true → ∀ y ∈ ys x, wipeE (e1 x y) vs1 = wipeE (e x) vs1) (h6 : ∀ x ∈ xs, p x = true → ∀ y ∈ ys x, mt1 (e1 x y) = some (.ok (p1 x y) (e1 x y)))
    (h7 : ∀ x ∈ xs, p x = true → ∀ y ∈ ys x, p1 x y = true → me (e1 x y) = some (.ok (F x y) (e1 x y))) (h8 : ∀ x ∈ xs, wipeE (e x) vs = wipeE r vs) (h9 : ∀ x ∈ xs, wipeE (wipeE (e x) vs1) vs = wipeE r vs) :
    mLc2 vs vs1 mi g mt mi1 g1 mt1 me r0 = some (.ok ((xs.filter p).flatMap (fun x => ((ys x).filter (p1 x)).map (F x))) r) := by
  unfold mLc2 M.bind
  rw [hi]
  dsimp only
  rw [hf, lc2Go_m h1 h2 h3 h4 h5 h6 h7 h8 h9]
  dsimp only [Option.bind]
  rw [if_pos rfl, if_pos hl, restE_wipe wipeE_length fun j hj => wipeE_out hj]
theorem for_i {α : Type} {g : PyData → En → Option En} {b : SM} (f : α → PyData) (I : List α → En → Prop) : ∀ {xs : List α} {r : En}, I xs r → (∀ x xs r, I (x :: xs) r → ∃ r1 r2, g (f x) r = some r1 ∧ b r1 = some (.nx r2) ∧ I xs r2) →
    ∃ r2, forGo g b (xs.map f) r = some (.nx r2) ∧ I [] r2
  | [], r, h0, _ => ⟨r, rfl, h0⟩
  | x :: xs, r, h0, h => by
    obtain ⟨r1, r2, h1, h2, h3⟩ := h x xs r h0
    rw [List.map_cons, forGo_cons, h1]
    dsimp only [Option.bind]
    rw [h2]
    exact for_i f I h3 h
end DL
namespace DL
open PySem PySem.Spec PyProof.Rows L2 Lk
def nD (n : Nat) : PyData := .int (n : Int)
abbrev nsD (ns : List Nat) : PyData := .list (ns.map nD)
abbrev isD (ns : List Int) : PyData := .list (ns.map PyData.int)
@[simp] theorem e_lt_n {a b : Nat} : ltM (nD a) (nD b) = some (.bool (decide (a < b))) := by
  show some (PyData.bool (decide ((a : Int) < b))) = _
  simp
@[simp] theorem e_eq_n {a b : Nat} : eqM (nD a) (nD b) = some (.bool (a == b)) := by
  show some (PyData.bool ((a : Int) == b)) = _
  have : ((a : Int) == b) = (a == b) := by rw [Bool.eq_iff_iff, beq_iff_eq, beq_iff_eq]; omega
  rw [this]
@[simp] theorem e_ne_n {a b : Nat} : neM (nD a) (nD b) = some (.bool (!(a == b))) := by
  show some (PyData.bool (!((a : Int) == b))) = _
  have : ((a : Int) == b) = (a == b) := by rw [Bool.eq_iff_iff, beq_iff_eq, beq_iff_eq]; omega
  rw [this]
theorem nD0 : PyData.int 0 = nD 0 := rfl
@[simp] theorem e_isNone_n {a : Nat} : isNone (nD a) = false := rfl
theorem g_is_integer_int (i : Int) : g_is_integer [.int i] = some (.bool true) := by
  rw [r_is_integer]; simp [v_is_integer]
theorem g_below (i l : Int) : g_is_integer_below [.int i, .int l] = some (.bool (decide (0 ≤ i ∧ i < l))) := by
  rw [r_is_integer_below]
  by_cases h : 0 ≤ i <;> simp [v_is_integer_below, g_is_integer_int, h]
theorem g_below_n (i l : Nat) : g_is_integer_below [nD i, nD l] = some (.bool (decide (i < l))) := by
  have := g_below i l
  simpa [nD] using this
def AscFrom : Nat → Nat → List Nat → Prop
  | _, _, [] => True
  | lo, lim, v :: vs => lo ≤ v ∧ v < lim ∧ AscFrom (v + 1) lim vs
theorem g_asc {d : PyData} {vs : List Nat} {lim : Nat} (hd : asSeq d = some (vs.map nD)) (h : AscFrom 0 lim vs) : g_are_ascending_below [d, nD lim] = some (.bool true) := by
  rw [r_are_ascending_below]
  have L := for_m (b := sSeq (sIf (mOr (mNotT (mTru (mCall g_is_integer_below (mCons (mV 3) (mCons (mV 1) mNil))))) (mOpT ltM (mV 3) (mV 2))) (sRet (M.ret (.bool false))) sNil) (sSet 2 (mOp2 addM (mV 3) (M.ret (.int 1)))))
    (g := gN 3) nD (fun (s : Nat × Cel) => [.pl d, .pl (nD lim), .pl (nD s.1), s.2]) (fun s v => (v + 1, .pl (nD v))) (fun s xs => AscFrom s.1 lim xs ∧ s.2.own = false) (xs := vs) (s := (0, .un)) ⟨h, rfl⟩
    (by
      rintro ⟨lo, c⟩ v xs ⟨⟨h1, h2, h3⟩, hc⟩
      have nlt : ¬ v < lo := by omega
      simp only at hc h1
      refine ⟨[.pl d, .pl (nD lim), .pl (nD lo), .pl (nD v)], by simp [hc], .inl ?_, h3, rfl⟩
      simp [g_below_n, h2, nlt]
      rfl)
  simp only [nD0] at *
  simp [v_are_ascending_below, hd, nD0]
  rw [L]
  rfl
def Sz (ns : List Nat) : Prop := ns.length ≤ 24 ∧ ∀ n ∈ ns, 2 ≤ n ∧ n ≤ 6
theorem g_is_sizes_ok {ns : List Nat} (h : Sz ns) : g_is_sizes [nsD ns] = some (.bool true) := by
  rw [r_is_sizes]
  have lc := lc_y (vs := [1]) (mi := mSeq (mV 0)) (g := gN 1) (me := mAndV (mCall g_is_integer (mCons (mV 1) mNil)) (mChain leM leM (M.ret (.int 2)) (mV 1) (M.ret (.int 6)))) (r0 := [.pl (nsD ns), .un]) (r := [.pl (nsD ns), .un]) nD (fun _ => .bool true) (fun x => [.pl (nsD ns), .pl (nD x)]) (xs := ns)
    (by simp) (by simp [freeAt]) (by have := h.1; omega) (by simp) (by simp) (by
      intro x hx
      have := h.2 x hx
      have a1 : (2 : Int) ≤ x := by omega
      have a2 : (x : Int) ≤ 6 := by omega
      simp [g_is_integer_int, nD, a1, a2])
  have hl : ¬ (24 : Int) < (ns.length : Int) := by have := h.1; omega
  simp [v_is_sizes, hl, lc]
  have := e_all (bs := ns.map fun _ => true)
  rw [List.map_map] at this
  rw [show (List.map (fun _ => PyData.bool true) ns) = List.map (PyData.bool ∘ fun _ => true) ns from rfl, this]
  simp
theorem g_check_sizes_ok {ns : List Nat} (h : Sz ns) : g_check_sizes [nsD ns] = some .none := by
  rw [r_check_sizes]
  simp [v_check_sizes, g_is_sizes_ok h]
def prod : List Nat → Nat
  | [] => 1
  | n :: ns => n * prod ns
theorem foldl_mul : ∀ (ns : List Nat) (a : Nat), ns.foldl (· * ·) a = a * prod ns
  | [], a => by show a = a * 1; omega
  | n :: ns, a => by
    show ns.foldl (· * ·) (a * n) = _
    rw [foldl_mul ns, prod, Nat.mul_assoc]
theorem prod_le : ∀ {ns : List Nat}, (∀ n ∈ ns, n ≤ 6) → prod ns ≤ 6 ^ ns.length
  | [], _ => by decide
  | n :: ns, h => by
    have h1 := h n (List.mem_cons_self ..)
    have h2 := prod_le (ns := ns) fun m hm => h m (List.mem_cons_of_mem _ hm)
    rw [prod, List.length_cons, Nat.pow_succ, Nat.mul_comm (6 ^ _)]
    exact Nat.mul_le_mul h1 h2
theorem prod_small {ns : List Nat} (h : Sz ns) : prod ns ≤ 6 ^ 24 := Nat.le_trans (prod_le fun n hn => (h.2 n hn).2) (Nat.pow_le_pow_right (by decide) h.1)
theorem prod_pos : ∀ {ns : List Nat}, (∀ n ∈ ns, 0 < n) → 0 < prod ns
  | [], _ => by decide
  | n :: ns, h => Nat.mul_pos (h n (List.mem_cons_self ..)) (prod_pos fun m hm => h m (List.mem_cons_of_mem _ hm))
theorem e_mul_n {a b : Nat} (ha : a < 2 ^ 1000) (hb : b < 2 ^ 1000) : mulM (nD a) (nD b) = some (nD (a * b)) := by
  have := e_mulI (a := a) (b := b) (by simpa using ha) (by simpa using hb)
  unfold nD
  rw [this, Int.natCast_mul]
theorem lt_big {a k : Nat} (h : a ≤ k) (hk : k < 2 ^ 1000 := by decide) : a < 2 ^ 1000 := Nat.lt_of_le_of_lt h hk
theorem g_number_ok {ns : List Nat} (h : Sz ns) : g_number_of_cases [nsD ns] = some (nD (prod ns)) := by
  rw [r_number_of_cases]
  have L := for_m (b := sSet 1 (mOp2 mulM (mV 1) (mV 2))) (g := gN 2) nD (fun (s : Nat × Cel) => [.pl (nsD ns), .pl (nD s.1), s.2]) (fun s v => (s.1 * v, .pl (nD v))) (fun s xs => s.1 * prod xs ≤ 6 ^ 24 ∧ (∀ x ∈ xs, 2 ≤ x ∧ x ≤ 6) ∧ s.2.own = false) (xs := ns) (s := (1, .un))
    ⟨by have := prod_small h; omega, h.2, rfl⟩ (by
      rintro ⟨a, c⟩ v xs ⟨h1, h2, hc⟩
      simp only at hc h1
      have b := h2 v (List.mem_cons_self ..)
      have pp : 0 < prod xs := prod_pos fun m hm => by have := h2 m (List.mem_cons_of_mem _ hm); omega
      rw [prod, ← Nat.mul_assoc] at h1
      have a1 : a * v ≤ 6 ^ 24 := Nat.le_trans (Nat.le_mul_of_pos_right _ pp) h1
      have a2 : a ≤ 6 ^ 24 := Nat.le_trans (Nat.le_mul_of_pos_right _ (by omega)) a1
      refine ⟨[.pl (nsD ns), .pl (nD a), .pl (nD v)], by simp [hc], .inl ?_, h1, fun x hx => h2 x (List.mem_cons_of_mem _ hx), rfl⟩
      simp [e_mul_n (lt_big a2) (lt_big b.2)])
  have e1 : PyData.int 1 = nD 1 := rfl
  simp [v_number_of_cases, e1]
  rw [L]
  have key : ∀ (xs : List Nat) (s : Nat × Cel), (xs.foldl (fun (s : Nat × Cel) (v : Nat) => (s.1 * v, Cel.pl (nD v))) s).1 = xs.foldl (· * ·) s.1 := fun xs => by
    induction xs with
    | nil => intro s; rfl
    | cons x xs ih => intro s; exact ih _
  simp [key, foldl_mul]
theorem g_is_small_ok {ns : List Nat} (h : Sz ns) : g_is_small_sheet [nsD ns] = some (.bool (decide (prod ns ≤ 1024))) := by
  rw [r_is_small_sheet]
  simp [v_is_small_sheet, g_number_ok h, nD]
  omega
theorem g_check_small_ok {ns : List Nat} (h : Sz ns) (hs : prod ns ≤ 1024) : g_check_small [nsD ns] = some .none := by
  rw [r_check_small]
  simp [v_check_small, g_is_small_ok h, hs]
end DL
namespace DL
open PySem PySem.Spec PyProof.Rows L2 Lk
def oD : Option Nat → PyData
  | none => .none
  | some v => nD v
abbrev halfD (hs : List (Option Nat)) : PyData := .list (hs.map oD)
def Half (ns : List Nat) (hs : List (Option Nat)) : Prop := hs.length = ns.length ∧ ∀ (i n v : Nat), ns[i]? = some n → hs[i]? = some (some v) → v < n
def Case (ns cs : List Nat) : Prop := cs.length = ns.length ∧ ∀ (i n c : Nat), ns[i]? = some n → cs[i]? = some c → c < n
theorem rng_nat (n : Nat) : rngL 0 n = (List.range n).map nD := by
  unfold rngL nD
  refine List.map_congr_left fun i _ => ?_
  rw [Int.zero_add]
theorem at_n {α : Type} {xs : List α} {i : Nat} {v : α} (h : xs[i]? = some v) : atI xs (i : Int) = some v := atI_nat h
@[simp] theorem e_ix_n {f : Nat → PyData} {xs : List Nat} {i : Nat} : ixM (.list (xs.map f)) (nD i) = (xs[i]?).map f := by
  show atI _ _ = _
  cases h : xs[i]? with
  | none =>
    have : xs.length ≤ i := List.getElem?_eq_none_iff.mp h
    unfold atI ixN
    rw [List.length_map]
    rw [if_pos (by omega), if_neg (by omega)]
    rfl
  | some v => exact at_n (by rw [List.getElem?_map, h]; rfl)
theorem e_ix_l {α : Type} {f : α → PyData} {xs : List α} {i : Nat} : ixM (.list (xs.map f)) (nD i) = (xs[i]?).map f := by
  show atI _ _ = _
  cases h : xs[i]? with
  | none =>
    have : xs.length ≤ i := List.getElem?_eq_none_iff.mp h
    unfold atI ixN
    rw [List.length_map]
    rw [if_pos (by omega), if_neg (by omega)]
    rfl
  | some v => exact at_n (by rw [List.getElem?_map, h]; rfl)
theorem e_ix_t {α : Type} {f : α → PyData} {xs : List α} {i : Nat} : ixM (.tuple (xs.map f)) (nD i) = (xs[i]?).map f := by
  show atI _ _ = _
  cases h : xs[i]? with
  | none =>
    have : xs.length ≤ i := List.getElem?_eq_none_iff.mp h
    unfold atI ixN
    rw [List.length_map]
    rw [if_pos (by omega), if_neg (by omega)]
    rfl
  | some v => exact at_n (by rw [List.getElem?_map, h]; rfl)
/-- range(n) as it is walked -/
theorem e_rng (n : Nat) (h : n ≤ 1000000) : rngM [.int (n : Int)] = some ((List.range n).map nD) := by
  have : rngM [.int (n : Int)] = if (n : Int).natAbs ≤ 1000000 then some (rngL 0 (n : Int).toNat) else none := by rw [rngM]
  rw [this, if_pos (by omega), Int.toNat_natCast, rng_nat]
theorem lstM_ok {ds : List PyData} (h : ds.length ≤ 1000000) : lstM ds = some ds := by
  unfold lstM
  rw [if_pos h]
@[simp] theorem asInt_n {n : Nat} : asInt (nD n) = some (n : Int) := rfl
theorem e_rng_n (n : Nat) (h : n ≤ 1000000) : rngM [nD n] = some ((List.range n).map nD) := e_rng n h
theorem e_allT {α : Type} {xs : List α} {f : α → Bool} : allM [.list (xs.map fun x => PyData.bool (f x))] = some (.bool (xs.all f)) := by
  have := e_all (bs := xs.map f)
  rw [List.map_map] at this
  rw [show List.map (fun x => PyData.bool (f x)) xs = List.map (PyData.bool ∘ f) xs from rfl, this, List.all_map]
  rfl
@[simp] theorem isNone_oD {o : Option Nat} : isNone (oD o) = o.isNone := by cases o <;> rfl
def cart : List (List Nat) → List (List Nat)
  | [] => [[]]
  | c :: cs => c.flatMap fun v => (cart cs).map (v :: ·)
def grow (acc : List (List Nat)) (ch : List Nat) : List (List Nat) := acc.flatMap fun b => ch.map fun v => b ++ [v]
theorem fold_grow : ∀ (chs : List (List Nat)) (acc : List (List Nat)), chs.foldl grow acc = acc.flatMap fun b => (cart chs).map (b ++ ·)
  | [], acc => by
    show acc = acc.flatMap fun b => [b ++ []]
    induction acc with
    | nil => rfl
    | cons a l ih => rw [List.flatMap_cons, ← ih, List.append_nil]; rfl
  | c :: cs, acc => by
    show cs.foldl grow (grow acc c) = _
    rw [fold_grow cs, grow, List.flatMap_assoc]
    congr 1
    funext b
    rw [cart, List.map_flatMap, List.flatMap_map]
    congr 1
    funext v
    rw [List.map_map]
    refine List.map_congr_left fun x _ => ?_
    show (b ++ [v]) ++ x = b ++ (v :: x)
    rw [List.append_assoc]
    rfl
theorem fold_grow1 (chs : List (List Nat)) : chs.foldl grow [[]] = cart chs := by
  rw [fold_grow]
  show ((cart chs).map ([] ++ ·)) ++ [] = _
  rw [List.append_nil]
  exact List.map_id' _
theorem grow_length {acc : List (List Nat)} {ch : List Nat} : (grow acc ch).length = acc.length * ch.length := by
  unfold grow
  induction acc with
  | nil => rw [List.flatMap_nil, List.length_nil, Nat.zero_mul]
  | cons a l ih => rw [List.flatMap_cons, List.length_append, ih, List.length_map, List.length_cons, Nat.succ_mul, Nat.add_comm]
def choice (n : Nat) : Option Nat → List Nat
  | none => List.range n
  | some v => [v]
def choices : List Nat → List (Option Nat) → List (List Nat)
  | n :: ns, h :: hs => choice n h :: choices ns hs
  | _, _ => []
theorem choices_at : ∀ {ns : List Nat} {hs : List (Option Nat)} {i : Nat} {n : Nat} {h : Option Nat}, ns[i]? = some n → hs[i]? = some h → (choices ns hs)[i]? = some (choice n h)
  | [], _, _, _, _, e, _ => by simp at e
  | _ :: _, [], _, _, _, _, e => by simp at e
  | n :: ns, h :: hs, 0, _, _, e, e' => by cases e; cases e'; rfl
  | n :: ns, h :: hs, i + 1, _, _, e, e' => by
    show (choices ns hs)[i]? = _
    exact choices_at (by simpa using e) (by simpa using e')
theorem choices_length : ∀ {ns : List Nat} {hs : List (Option Nat)}, hs.length = ns.length → (choices ns hs).length = ns.length
  | [], [], _ => rfl
  | _ :: _, _ :: _, h => by
    show (choices _ _).length + 1 = _
    rw [choices_length (by simpa using h)]
    rfl
  | [], _ :: _, h => by simp at h
  | _ :: _, [], h => by simp at h
/-- the cases that complete a half case -/
def compl (ns : List Nat) (hs : List (Option Nat)) : List (List Nat) := cart (choices ns hs)
def lenP (chs : List (List Nat)) : Nat := prod (chs.map List.length)
theorem choices_prod : ∀ {ns : List Nat} {hs : List (Option Nat)}, (∀ n ∈ ns, 0 < n) → hs.length = ns.length → lenP (choices ns hs) ≤ prod ns
  | [], [], _, _ => Nat.le_refl _
  | n :: ns, h :: hs, hp, hl => by
    have ih := choices_prod (ns := ns) (hs := hs) (fun m hm => hp m (List.mem_cons_of_mem _ hm)) (by simpa using hl)
    have h1 := hp n (List.mem_cons_self ..)
    show (choice n h).length * lenP (choices ns hs) ≤ n * prod ns
    refine Nat.mul_le_mul ?_ ih
    cases h with
    | none => show (List.range n).length ≤ n; rw [List.length_range]; exact Nat.le_refl _
    | some v => exact h1
  | [], _ :: _, _, h => by simp at h
  | _ :: _, [], _, h => by simp at h
theorem foldl_range_at {α β : Type} (f : β → α → β) : ∀ (chs : List α) (s : β) (g : Nat → β → β), (∀ i c, chs[i]? = some c → ∀ s, g i s = f s c) → (List.range chs.length).foldl (fun s i => g i s) s = chs.foldl f s := fun chs => by
  induction chs with
  | nil => intro s g _; rfl
  | cons c cs ih =>
    intro s g h
    rw [List.length_cons, List.range_succ_eq_map, List.foldl_cons, List.foldl_map, List.foldl_cons, h 0 c rfl s]
    exact ih (f s c) (fun i s => g (i + 1) s) fun i d hd s => h (i + 1) d (by simpa using hd) s
abbrev casesD (l : List (List Nat)) : PyData := .list (l.map nsD)
theorem part_le {chs : List (List Nat)} (hne : ∀ c ∈ chs, 0 < c.length) (i : Nat) : ((chs.take i).foldl grow [[]]).length ≤ lenP chs := by
  have len : ∀ (l : List (List Nat)) (acc : List (List Nat)), (l.foldl grow acc).length = acc.length * lenP l := fun l => by
    induction l with
    | nil => intro acc; show acc.length = acc.length * 1; omega
    | cons c l ih =>
      intro acc
      rw [List.foldl_cons, ih, grow_length, Nat.mul_assoc]
      rfl
  rw [len]
  have split : ∀ (l : List (List Nat)) (i : Nat), (∀ c ∈ l, 0 < c.length) → lenP (l.take i) ≤ lenP l := fun l => by
    induction l with
    | nil => intro i _; simp
    | cons c l ih =>
      intro i h
      cases i with
      | zero =>
        show 1 ≤ _
        exact prod_pos fun n hn => by
          obtain ⟨c, hc, rfl⟩ := List.mem_map.mp hn
          exact h c hc
      | succ i =>
        show c.length * lenP (l.take i) ≤ c.length * lenP l
        exact Nat.mul_le_mul_left _ (ih i fun d hd => h d (List.mem_cons_of_mem _ hd))
  have := split chs i hne
  simpa using this
theorem choices_ne {ns : List Nat} {hs : List (Option Nat)} (hp : ∀ n ∈ ns, 0 < n) : ∀ c ∈ choices ns hs, 0 < c.length := by
  induction ns generalizing hs with
  | nil => intro c hc; cases hs <;> cases hc
  | cons n ns ih =>
    intro c hc
    cases hs with
    | nil => cases hc
    | cons h hs =>
      rcases List.mem_cons.mp hc with rfl | hc
      · cases h with
        | none => show 0 < (List.range n).length; rw [List.length_range]; exact hp n (List.mem_cons_self ..)
        | some v => exact Nat.one_pos
      · exact ih (fun m hm => hp m (List.mem_cons_of_mem _ hm)) c hc
theorem g_list_completing_ok {ns : List Nat} {hs : List (Option Nat)} (hn : Sz ns) (hsm : prod ns ≤ 1000000) (h : hs.length = ns.length) : g_list_completing [nsD ns, halfD hs] = some (casesD (compl ns hs)) := by
  rw [r_list_completing]
  have l24 := hn.1
  have hp : ∀ n ∈ ns, 0 < n := fun n hm => by have := hn.2 n hm; omega
  have hne := choices_ne (hs := hs) hp
  have hle := Nat.le_trans (choices_prod hp h) hsm
  have hcl := choices_length h
  have L := for_m (b := (sSeq (sSet 4 (mIf (mOpT isM (mOp2 ixM (mV 1) (mV 3)) (M.ret .none)) (mNew (mLRng1 (mOp2 ixM (mV 0) (mV 3)))) (mNew (mLst (mCons (mOp2 ixM (mV 1) (mV 3)) mNil)))))
  (sSet 2 (mNew (mLc2 [5, 6] [6] (mSeq (mV 2)) (gN 5) mYes (mSeq (mV 4)) (gN 6) mYes (mNew (mLst (mStar (mV 5) (mCons (mV 6) mNil)))))))))
    (g := gN 3) nD (fun (s : List (List Nat) × Cel × Cel) => [.pl (nsD ns), .pl (halfD hs), .pl (casesD s.1), s.2.1, s.2.2, .un, .un]) (fun s i => (grow s.1 ((choices ns hs).getD i []), .pl (nD i), .pl (nsD ((choices ns hs).getD i []))))
    (fun s xs => s.2.1.own = false ∧ s.2.2.own = false ∧ ∃ i, xs = (List.range ns.length).drop i ∧ s.1 = ((choices ns hs).take i).foldl grow [[]] ∧ ∀ b ∈ s.1, b.length = i) (xs := List.range ns.length) (s := ([[]], .un, .un))
    ⟨rfl, rfl, 0, rfl, rfl, by simp⟩ (by
      rintro ⟨acc, c3, c4⟩ i xs ⟨h3, h4, j, hj, hacc, hb⟩
      simp only at h3 h4 hacc hb
      have lj : j < ns.length := by
        have e := congrArg List.length hj
        rw [List.length_drop, List.length_range, List.length_cons] at e
        omega
      have hd : (List.range ns.length).drop j = j :: (List.range ns.length).drop (j + 1) := by
        rw [List.drop_eq_getElem_cons (by rw [List.length_range]; exact lj), List.getElem_range]
      rw [hd] at hj
      obtain ⟨rfl, rfl⟩ := List.cons.inj hj
      have e1 := List.getElem?_eq_getElem lj
      have lh : i < hs.length := by rw [h]; exact lj
      have e2 : hs[i]? = some hs[i] := List.getElem?_eq_getElem lh
      have ec := choices_at e1 e2
      have eg : (choices ns hs).getD i [] = choice ns[i] hs[i] := by rw [List.getD_eq_getElem?_getD, ec]; rfl
      rw [eg]
      have b6 := (hn.2 _ (List.getElem_mem lj)).2
      have stepacc : grow acc (choice ns[i] hs[i]) = ((choices ns hs).take (i + 1)).foldl grow [[]] := by
        rw [List.take_add_one, ec, List.foldl_append, ← hacc]
        rfl
      have lacc : (grow acc (choice ns[i] hs[i])).length ≤ 1000000 := by
        rw [stepacc]
        exact Nat.le_trans (part_le hne _) hle
      have lc := lc2_m (vs := [5, 6]) (vs1 := [6]) (mi := mSeq (mV 2)) (g := gN 5) (g1 := gN 6) (mt := mYes) (mt1 := mYes) (mi1 := mSeq (mV 4)) (me := mNew (mLst (mStar (mV 5) (mCons (mV 6) mNil))))
        (r0 := [.pl (nsD ns), .pl (halfD hs), .pl (casesD acc), .pl (nD i), .pl (nsD (choice ns[i] hs[i])), .un, .un]) (r := [.pl (nsD ns), .pl (halfD hs), .pl (casesD acc), .pl (nD i), .pl (nsD (choice ns[i] hs[i])), .un, .un])
        nsD nD (fun _ => choice ns[i] hs[i]) (fun _ => true) (fun _ _ => true) (fun b v => nsD (b ++ [v]))
        (fun b => [.pl (nsD ns), .pl (halfD hs), .pl (casesD acc), .pl (nD i), .pl (nsD (choice ns[i] hs[i])), .pl (nsD b), .un])
        (fun b v => [.pl (nsD ns), .pl (halfD hs), .pl (casesD acc), .pl (nD i), .pl (nsD (choice ns[i] hs[i])), .pl (nsD b), .pl (nD v)]) (xs := acc)
        (by simp) (by simp [freeAt]) (by
          rw [filter_true]
          simp only [filter_true]
          have := lacc
          unfold grow at this
          simpa [List.length_flatMap, Function.comp_def] using this)
        (by simp) (by simp) (by simp) (by simp) (by simp) (by simp) (by
          intro b hb' _ v _ _
          have lb : b.length ≤ 24 := by rw [hb b hb']; omega
          have e9 : lstM (b.map nD ++ [nD v]) = some (b.map nD ++ [nD v]) := lstM_ok (by simp; omega)
          simp [e9]) (by simp) (by simp)
      have lc' : mLc2 [5, 6] [6] (mSeq (mV 2)) (gN 5) mYes (mSeq (mV 4)) (gN 6) mYes (mNew (mLst (mStar (mV 5) (mCons (mV 6) mNil)))) [.pl (nsD ns), .pl (halfD hs), .pl (casesD acc), .pl (nD i), .pl (nsD (choice ns[i] hs[i])), .un, .un]
          = some (.ok ((grow acc (choice ns[i] hs[i])).map nsD) [.pl (nsD ns), .pl (halfD hs), .pl (casesD acc), .pl (nD i), .pl (nsD (choice ns[i] hs[i])), .un, .un]) := by
        rw [lc, filter_true]
        simp only [filter_true]
        unfold grow
        rw [List.map_flatMap]
        simp only [List.map_map]
        rfl
      refine ⟨[.pl (nsD ns), .pl (halfD hs), .pl (casesD acc), .pl (nD i), c4, .un, .un], by simp [h3], .inl ?_, rfl, rfl, i + 1, rfl, stepacc, ?_⟩
      · have s4 : sSet 4 (mIf (mOpT isM (mOp2 ixM (mV 1) (mV 3)) (M.ret .none)) (mNew (mLRng1 (mOp2 ixM (mV 0) (mV 3)))) (mNew (mLst (mCons (mOp2 ixM (mV 1) (mV 3)) mNil)))) [.pl (nsD ns), .pl (halfD hs), .pl (casesD acc), .pl (nD i), c4, .un, .un]
            = some (.nx [.pl (nsD ns), .pl (halfD hs), .pl (casesD acc), .pl (nD i), .pl (nsD (choice ns[i] hs[i])), .un, .un]) := by
          cases e3 : hs[i] with
          | none =>
            rw [e3] at e2
            have z : ns[i] ≤ 1000000 := by omega
            cases c4 with
            | un => simp [e_ix_l, e1, e2, z, rng_nat, choice]
            | pl d => simp [e_ix_l, e1, e2, z, rng_nat, choice]
            | ow d => cases h4
            | io d => cases h4
            | dk d => cases h4
          | some v =>
            rw [e3] at e2
            cases c4 with
            | un => simp [e_ix_l, e1, e2, oD, choice]
            | pl d => simp [e_ix_l, e1, e2, oD, choice]
            | ow d => cases h4
            | io d => cases h4
            | dk d => cases h4
        rw [s_seq, s4]
        dsimp only
        rw [s_set, s_bind, e_new, e_bind, lc']
        rfl
      · intro b hb'
        unfold grow at hb'
        obtain ⟨a, ha, hb'⟩ := List.mem_flatMap.mp hb'
        obtain ⟨v, _, rfl⟩ := List.mem_map.mp hb'
        rw [List.length_append, hb a ha]
        rfl)
  obtain ⟨o1, o2, e⟩ : ∃ c3 c4, ((List.range ns.length).foldl (fun (s : List (List Nat) × Cel × Cel) i => (grow s.1 ((choices ns hs).getD i []), Cel.pl (nD i), Cel.pl (nsD ((choices ns hs).getD i [])))) ([[]], Cel.un, Cel.un)) = (compl ns hs, c3, c4) := by
    have key : ∀ (xs : List Nat) (s : List (List Nat) × Cel × Cel), (xs.foldl (fun (s : List (List Nat) × Cel × Cel) i => (grow s.1 ((choices ns hs).getD i []), Cel.pl (nD i), Cel.pl (nsD ((choices ns hs).getD i [])))) s).1 = xs.foldl (fun a i => grow a ((choices ns hs).getD i [])) s.1 := fun xs => by
      induction xs with
      | nil => intro s; rfl
      | cons x xs ih => intro s; exact ih _
    refine ⟨_, _, Prod.ext ?_ (Prod.ext rfl rfl)⟩
    rw [key, ← hcl, foldl_range_at grow (choices ns hs) [[]] (fun i a => grow a ((choices ns hs).getD i [])) fun i c hc s => by rw [List.getD_eq_getElem?_getD, hc]; rfl, fold_grow1]
    rfl
  have e0 : PyData.list [PyData.list []] = casesD [[]] := rfl
  have er := e_rng ns.length (by omega)
  simp [v_list_completing, er]
  rw [e0, L, e]
  rfl
end DL
namespace DL
open PySem PySem.Spec PyProof.Rows L2 Lk
theorem shaped_of {d : PyData} (h1 : d.canLay0 = true) (h2 : d.depth ≤ 64) : SeqAt.shaped d = true := by
  unfold SeqAt.shaped
  rw [h1, decide_eq_true h2]
  rfl
theorem e_eqD {d e : PyData} (h1 : SeqAt.shaped d = true) (h2 : SeqAt.shaped e = true) : eqM d e = some (.bool (PyData.eqv d e)) := by
  unfold eqM
  rw [h1, h2]
  rfl
theorem e_neD {d e : PyData} (h1 : SeqAt.shaped d = true) (h2 : SeqAt.shaped e = true) : neM d e = some (.bool (!PyData.eqv d e)) := by
  unfold neM
  rw [h1, h2]
  rfl
theorem sh_str {a : Str} (h : PyData.strOk a = true) : SeqAt.shaped (.str a) = true := shaped_of (by rw [PyData.canLay0]; exact h) (by rw [PyData.depth]; omega)
theorem e_eqS {a b : Str} (ha : PyData.strOk a = true) (hb : PyData.strOk b = true) : eqM (.str a) (.str b) = some (.bool (a == b)) := by
  rw [e_eqD (sh_str ha) (sh_str hb), PyData.eqv]
theorem in_join {w : Str} : inM (.str w) c_JOINING_WORDS = some (.bool ((("and" : Str) == w) || ((("or" : Str) == w) || (("odd" : Str) == w)))) := by
  simp [inM, c_JOINING_WORDS, flatD, memD, PyData.eqv]
@[simp] theorem ws0 : eqM (.str "say") (.str "say") = some (.bool true) := (e_eqS (by decide +kernel) (by decide +kernel)).trans (congrArg (fun b => some (PyData.bool b)) (by decide +kernel))
@[simp] theorem ws1 : eqM (.str "say") (.str "is") = some (.bool false) := (e_eqS (by decide +kernel) (by decide +kernel)).trans (congrArg (fun b => some (PyData.bool b)) (by decide +kernel))
@[simp] theorem ws2 : eqM (.str "say") (.str "tree") = some (.bool false) := (e_eqS (by decide +kernel) (by decide +kernel)).trans (congrArg (fun b => some (PyData.bool b)) (by decide +kernel))
@[simp] theorem ws3 : eqM (.str "say") (.str "rules") = some (.bool false) := (e_eqS (by decide +kernel) (by decide +kernel)).trans (congrArg (fun b => some (PyData.bool b)) (by decide +kernel))
@[simp] theorem ws4 : eqM (.str "say") (.str "card") = some (.bool false) := (e_eqS (by decide +kernel) (by decide +kernel)).trans (congrArg (fun b => some (PyData.bool b)) (by decide +kernel))
@[simp] theorem ws5 : eqM (.str "say") (.str "table") = some (.bool false) := (e_eqS (by decide +kernel) (by decide +kernel)).trans (congrArg (fun b => some (PyData.bool b)) (by decide +kernel))
@[simp] theorem ws6 : eqM (.str "say") (.str "not") = some (.bool false) := (e_eqS (by decide +kernel) (by decide +kernel)).trans (congrArg (fun b => some (PyData.bool b)) (by decide +kernel))
@[simp] theorem ws7 : eqM (.str "say") (.str "and") = some (.bool false) := (e_eqS (by decide +kernel) (by decide +kernel)).trans (congrArg (fun b => some (PyData.bool b)) (by decide +kernel))
@[simp] theorem ws8 : eqM (.str "say") (.str "or") = some (.bool false) := (e_eqS (by decide +kernel) (by decide +kernel)).trans (congrArg (fun b => some (PyData.bool b)) (by decide +kernel))
@[simp] theorem ws9 : eqM (.str "say") (.str "odd") = some (.bool false) := (e_eqS (by decide +kernel) (by decide +kernel)).trans (congrArg (fun b => some (PyData.bool b)) (by decide +kernel))
@[simp] theorem wj10 : inM (.str "say") c_JOINING_WORDS = some (.bool false) := in_join.trans (congrArg (fun b => some (PyData.bool b)) (by decide +kernel))
@[simp] theorem wi10 : isTy "str" (.str "say") = true := rfl
@[simp] theorem ws10 : eqM (.str "is") (.str "say") = some (.bool false) := (e_eqS (by decide +kernel) (by decide +kernel)).trans (congrArg (fun b => some (PyData.bool b)) (by decide +kernel))
@[simp] theorem ws11 : eqM (.str "is") (.str "is") = some (.bool true) := (e_eqS (by decide +kernel) (by decide +kernel)).trans (congrArg (fun b => some (PyData.bool b)) (by decide +kernel))
@[simp] theorem ws12 : eqM (.str "is") (.str "tree") = some (.bool false) := (e_eqS (by decide +kernel) (by decide +kernel)).trans (congrArg (fun b => some (PyData.bool b)) (by decide +kernel))
@[simp] theorem ws13 : eqM (.str "is") (.str "rules") = some (.bool false) := (e_eqS (by decide +kernel) (by decide +kernel)).trans (congrArg (fun b => some (PyData.bool b)) (by decide +kernel))
@[simp] theorem ws14 : eqM (.str "is") (.str "card") = some (.bool false) := (e_eqS (by decide +kernel) (by decide +kernel)).trans (congrArg (fun b => some (PyData.bool b)) (by decide +kernel))
@[simp] theorem ws15 : eqM (.str "is") (.str "table") = some (.bool false) := (e_eqS (by decide +kernel) (by decide +kernel)).trans (congrArg (fun b => some (PyData.bool b)) (by decide +kernel))
@[simp] theorem ws16 : eqM (.str "is") (.str "not") = some (.bool false) := (e_eqS (by decide +kernel) (by decide +kernel)).trans (congrArg (fun b => some (PyData.bool b)) (by decide +kernel))
@[simp] theorem ws17 : eqM (.str "is") (.str "and") = some (.bool false) := (e_eqS (by decide +kernel) (by decide +kernel)).trans (congrArg (fun b => some (PyData.bool b)) (by decide +kernel))
@[simp] theorem ws18 : eqM (.str "is") (.str "or") = some (.bool false) := (e_eqS (by decide +kernel) (by decide +kernel)).trans (congrArg (fun b => some (PyData.bool b)) (by decide +kernel))
@[simp] theorem ws19 : eqM (.str "is") (.str "odd") = some (.bool false) := (e_eqS (by decide +kernel) (by decide +kernel)).trans (congrArg (fun b => some (PyData.bool b)) (by decide +kernel))
@[simp] theorem wj20 : inM (.str "is") c_JOINING_WORDS = some (.bool false) := in_join.trans (congrArg (fun b => some (PyData.bool b)) (by decide +kernel))
@[simp] theorem wi20 : isTy "str" (.str "is") = true := rfl
@[simp] theorem ws20 : eqM (.str "tree") (.str "say") = some (.bool false) := (e_eqS (by decide +kernel) (by decide +kernel)).trans (congrArg (fun b => some (PyData.bool b)) (by decide +kernel))
@[simp] theorem ws21 : eqM (.str "tree") (.str "is") = some (.bool false) := (e_eqS (by decide +kernel) (by decide +kernel)).trans (congrArg (fun b => some (PyData.bool b)) (by decide +kernel))
@[simp] theorem ws22 : eqM (.str "tree") (.str "tree") = some (.bool true) := (e_eqS (by decide +kernel) (by decide +kernel)).trans (congrArg (fun b => some (PyData.bool b)) (by decide +kernel))
@[simp] theorem ws23 : eqM (.str "tree") (.str "rules") = some (.bool false) := (e_eqS (by decide +kernel) (by decide +kernel)).trans (congrArg (fun b => some (PyData.bool b)) (by decide +kernel))
@[simp] theorem ws24 : eqM (.str "tree") (.str "card") = some (.bool false) := (e_eqS (by decide +kernel) (by decide +kernel)).trans (congrArg (fun b => some (PyData.bool b)) (by decide +kernel))
@[simp] theorem ws25 : eqM (.str "tree") (.str "table") = some (.bool false) := (e_eqS (by decide +kernel) (by decide +kernel)).trans (congrArg (fun b => some (PyData.bool b)) (by decide +kernel))
@[simp] theorem ws26 : eqM (.str "tree") (.str "not") = some (.bool false) := (e_eqS (by decide +kernel) (by decide +kernel)).trans (congrArg (fun b => some (PyData.bool b)) (by decide +kernel))
@[simp] theorem ws27 : eqM (.str "tree") (.str "and") = some (.bool false) := (e_eqS (by decide +kernel) (by decide +kernel)).trans (congrArg (fun b => some (PyData.bool b)) (by decide +kernel))
@[simp] theorem ws28 : eqM (.str "tree") (.str "or") = some (.bool false) := (e_eqS (by decide +kernel) (by decide +kernel)).trans (congrArg (fun b => some (PyData.bool b)) (by decide +kernel))
@[simp] theorem ws29 : eqM (.str "tree") (.str "odd") = some (.bool false) := (e_eqS (by decide +kernel) (by decide +kernel)).trans (congrArg (fun b => some (PyData.bool b)) (by decide +kernel))
@[simp] theorem wj30 : inM (.str "tree") c_JOINING_WORDS = some (.bool false) := in_join.trans (congrArg (fun b => some (PyData.bool b)) (by decide +kernel))
@[simp] theorem wi30 : isTy "str" (.str "tree") = true := rfl
@[simp] theorem ws30 : eqM (.str "rules") (.str "say") = some (.bool false) := (e_eqS (by decide +kernel) (by decide +kernel)).trans (congrArg (fun b => some (PyData.bool b)) (by decide +kernel))
@[simp] theorem ws31 : eqM (.str "rules") (.str "is") = some (.bool false) := (e_eqS (by decide +kernel) (by decide +kernel)).trans (congrArg (fun b => some (PyData.bool b)) (by decide +kernel))
@[simp] theorem ws32 : eqM (.str "rules") (.str "tree") = some (.bool false) := (e_eqS (by decide +kernel) (by decide +kernel)).trans (congrArg (fun b => some (PyData.bool b)) (by decide +kernel))
@[simp] theorem ws33 : eqM (.str "rules") (.str "rules") = some (.bool true) := (e_eqS (by decide +kernel) (by decide +kernel)).trans (congrArg (fun b => some (PyData.bool b)) (by decide +kernel))
@[simp] theorem ws34 : eqM (.str "rules") (.str "card") = some (.bool false) := (e_eqS (by decide +kernel) (by decide +kernel)).trans (congrArg (fun b => some (PyData.bool b)) (by decide +kernel))
@[simp] theorem ws35 : eqM (.str "rules") (.str "table") = some (.bool false) := (e_eqS (by decide +kernel) (by decide +kernel)).trans (congrArg (fun b => some (PyData.bool b)) (by decide +kernel))
@[simp] theorem ws36 : eqM (.str "rules") (.str "not") = some (.bool false) := (e_eqS (by decide +kernel) (by decide +kernel)).trans (congrArg (fun b => some (PyData.bool b)) (by decide +kernel))
@[simp] theorem ws37 : eqM (.str "rules") (.str "and") = some (.bool false) := (e_eqS (by decide +kernel) (by decide +kernel)).trans (congrArg (fun b => some (PyData.bool b)) (by decide +kernel))
@[simp] theorem ws38 : eqM (.str "rules") (.str "or") = some (.bool false) := (e_eqS (by decide +kernel) (by decide +kernel)).trans (congrArg (fun b => some (PyData.bool b)) (by decide +kernel))
@[simp] theorem ws39 : eqM (.str "rules") (.str "odd") = some (.bool false) := (e_eqS (by decide +kernel) (by decide +kernel)).trans (congrArg (fun b => some (PyData.bool b)) (by decide +kernel))
@[simp] theorem wj40 : inM (.str "rules") c_JOINING_WORDS = some (.bool false) := in_join.trans (congrArg (fun b => some (PyData.bool b)) (by decide +kernel))
@[simp] theorem wi40 : isTy "str" (.str "rules") = true := rfl
@[simp] theorem ws40 : eqM (.str "card") (.str "say") = some (.bool false) := (e_eqS (by decide +kernel) (by decide +kernel)).trans (congrArg (fun b => some (PyData.bool b)) (by decide +kernel))
@[simp] theorem ws41 : eqM (.str "card") (.str "is") = some (.bool false) := (e_eqS (by decide +kernel) (by decide +kernel)).trans (congrArg (fun b => some (PyData.bool b)) (by decide +kernel))
@[simp] theorem ws42 : eqM (.str "card") (.str "tree") = some (.bool false) := (e_eqS (by decide +kernel) (by decide +kernel)).trans (congrArg (fun b => some (PyData.bool b)) (by decide +kernel))
@[simp] theorem ws43 : eqM (.str "card") (.str "rules") = some (.bool false) := (e_eqS (by decide +kernel) (by decide +kernel)).trans (congrArg (fun b => some (PyData.bool b)) (by decide +kernel))
@[simp] theorem ws44 : eqM (.str "card") (.str "card") = some (.bool true) := (e_eqS (by decide +kernel) (by decide +kernel)).trans (congrArg (fun b => some (PyData.bool b)) (by decide +kernel))
@[simp] theorem ws45 : eqM (.str "card") (.str "table") = some (.bool false) := (e_eqS (by decide +kernel) (by decide +kernel)).trans (congrArg (fun b => some (PyData.bool b)) (by decide +kernel))
@[simp] theorem ws46 : eqM (.str "card") (.str "not") = some (.bool false) := (e_eqS (by decide +kernel) (by decide +kernel)).trans (congrArg (fun b => some (PyData.bool b)) (by decide +kernel))
@[simp] theorem ws47 : eqM (.str "card") (.str "and") = some (.bool false) := (e_eqS (by decide +kernel) (by decide +kernel)).trans (congrArg (fun b => some (PyData.bool b)) (by decide +kernel))
@[simp] theorem ws48 : eqM (.str "card") (.str "or") = some (.bool false) := (e_eqS (by decide +kernel) (by decide +kernel)).trans (congrArg (fun b => some (PyData.bool b)) (by decide +kernel))
@[simp] theorem ws49 : eqM (.str "card") (.str "odd") = some (.bool false) := (e_eqS (by decide +kernel) (by decide +kernel)).trans (congrArg (fun b => some (PyData.bool b)) (by decide +kernel))
@[simp] theorem wj50 : inM (.str "card") c_JOINING_WORDS = some (.bool false) := in_join.trans (congrArg (fun b => some (PyData.bool b)) (by decide +kernel))
@[simp] theorem wi50 : isTy "str" (.str "card") = true := rfl
@[simp] theorem ws50 : eqM (.str "table") (.str "say") = some (.bool false) := (e_eqS (by decide +kernel) (by decide +kernel)).trans (congrArg (fun b => some (PyData.bool b)) (by decide +kernel))
@[simp] theorem ws51 : eqM (.str "table") (.str "is") = some (.bool false) := (e_eqS (by decide +kernel) (by decide +kernel)).trans (congrArg (fun b => some (PyData.bool b)) (by decide +kernel))
@[simp] theorem ws52 : eqM (.str "table") (.str "tree") = some (.bool false) := (e_eqS (by decide +kernel) (by decide +kernel)).trans (congrArg (fun b => some (PyData.bool b)) (by decide +kernel))
@[simp] theorem ws53 : eqM (.str "table") (.str "rules") = some (.bool false) := (e_eqS (by decide +kernel) (by decide +kernel)).trans (congrArg (fun b => some (PyData.bool b)) (by decide +kernel))
@[simp] theorem ws54 : eqM (.str "table") (.str "card") = some (.bool false) := (e_eqS (by decide +kernel) (by decide +kernel)).trans (congrArg (fun b => some (PyData.bool b)) (by decide +kernel))
@[simp] theorem ws55 : eqM (.str "table") (.str "table") = some (.bool true) := (e_eqS (by decide +kernel) (by decide +kernel)).trans (congrArg (fun b => some (PyData.bool b)) (by decide +kernel))
@[simp] theorem ws56 : eqM (.str "table") (.str "not") = some (.bool false) := (e_eqS (by decide +kernel) (by decide +kernel)).trans (congrArg (fun b => some (PyData.bool b)) (by decide +kernel))
@[simp] theorem ws57 : eqM (.str "table") (.str "and") = some (.bool false) := (e_eqS (by decide +kernel) (by decide +kernel)).trans (congrArg (fun b => some (PyData.bool b)) (by decide +kernel))
@[simp] theorem ws58 : eqM (.str "table") (.str "or") = some (.bool false) := (e_eqS (by decide +kernel) (by decide +kernel)).trans (congrArg (fun b => some (PyData.bool b)) (by decide +kernel))
@[simp] theorem ws59 : eqM (.str "table") (.str "odd") = some (.bool false) := (e_eqS (by decide +kernel) (by decide +kernel)).trans (congrArg (fun b => some (PyData.bool b)) (by decide +kernel))
@[simp] theorem wj60 : inM (.str "table") c_JOINING_WORDS = some (.bool false) := in_join.trans (congrArg (fun b => some (PyData.bool b)) (by decide +kernel))
@[simp] theorem wi60 : isTy "str" (.str "table") = true := rfl
@[simp] theorem ws60 : eqM (.str "not") (.str "say") = some (.bool false) := (e_eqS (by decide +kernel) (by decide +kernel)).trans (congrArg (fun b => some (PyData.bool b)) (by decide +kernel))
@[simp] theorem ws61 : eqM (.str "not") (.str "is") = some (.bool false) := (e_eqS (by decide +kernel) (by decide +kernel)).trans (congrArg (fun b => some (PyData.bool b)) (by decide +kernel))
@[simp] theorem ws62 : eqM (.str "not") (.str "tree") = some (.bool false) := (e_eqS (by decide +kernel) (by decide +kernel)).trans (congrArg (fun b => some (PyData.bool b)) (by decide +kernel))
@[simp] theorem ws63 : eqM (.str "not") (.str "rules") = some (.bool false) := (e_eqS (by decide +kernel) (by decide +kernel)).trans (congrArg (fun b => some (PyData.bool b)) (by decide +kernel))
@[simp] theorem ws64 : eqM (.str "not") (.str "card") = some (.bool false) := (e_eqS (by decide +kernel) (by decide +kernel)).trans (congrArg (fun b => some (PyData.bool b)) (by decide +kernel))
@[simp] theorem ws65 : eqM (.str "not") (.str "table") = some (.bool false) := (e_eqS (by decide +kernel) (by decide +kernel)).trans (congrArg (fun b => some (PyData.bool b)) (by decide +kernel))
@[simp] theorem ws66 : eqM (.str "not") (.str "not") = some (.bool true) := (e_eqS (by decide +kernel) (by decide +kernel)).trans (congrArg (fun b => some (PyData.bool b)) (by decide +kernel))
@[simp] theorem ws67 : eqM (.str "not") (.str "and") = some (.bool false) := (e_eqS (by decide +kernel) (by decide +kernel)).trans (congrArg (fun b => some (PyData.bool b)) (by decide +kernel))
@[simp] theorem ws68 : eqM (.str "not") (.str "or") = some (.bool false) := (e_eqS (by decide +kernel) (by decide +kernel)).trans (congrArg (fun b => some (PyData.bool b)) (by decide +kernel))
@[simp] theorem ws69 : eqM (.str "not") (.str "odd") = some (.bool false) := (e_eqS (by decide +kernel) (by decide +kernel)).trans (congrArg (fun b => some (PyData.bool b)) (by decide +kernel))
@[simp] theorem wj70 : inM (.str "not") c_JOINING_WORDS = some (.bool false) := in_join.trans (congrArg (fun b => some (PyData.bool b)) (by decide +kernel))
@[simp] theorem wi70 : isTy "str" (.str "not") = true := rfl
@[simp] theorem ws70 : eqM (.str "and") (.str "say") = some (.bool false) := (e_eqS (by decide +kernel) (by decide +kernel)).trans (congrArg (fun b => some (PyData.bool b)) (by decide +kernel))
@[simp] theorem ws71 : eqM (.str "and") (.str "is") = some (.bool false) := (e_eqS (by decide +kernel) (by decide +kernel)).trans (congrArg (fun b => some (PyData.bool b)) (by decide +kernel))
@[simp] theorem ws72 : eqM (.str "and") (.str "tree") = some (.bool false) := (e_eqS (by decide +kernel) (by decide +kernel)).trans (congrArg (fun b => some (PyData.bool b)) (by decide +kernel))
@[simp] theorem ws73 : eqM (.str "and") (.str "rules") = some (.bool false) := (e_eqS (by decide +kernel) (by decide +kernel)).trans (congrArg (fun b => some (PyData.bool b)) (by decide +kernel))
@[simp] theorem ws74 : eqM (.str "and") (.str "card") = some (.bool false) := (e_eqS (by decide +kernel) (by decide +kernel)).trans (congrArg (fun b => some (PyData.bool b)) (by decide +kernel))
@[simp] theorem ws75 : eqM (.str "and") (.str "table") = some (.bool false) := (e_eqS (by decide +kernel) (by decide +kernel)).trans (congrArg (fun b => some (PyData.bool b)) (by decide +kernel))
@[simp] theorem ws76 : eqM (.str "and") (.str "not") = some (.bool false) := (e_eqS (by decide +kernel) (by decide +kernel)).trans (congrArg (fun b => some (PyData.bool b)) (by decide +kernel))
@[simp] theorem ws77 : eqM (.str "and") (.str "and") = some (.bool true) := (e_eqS (by decide +kernel) (by decide +kernel)).trans (congrArg (fun b => some (PyData.bool b)) (by decide +kernel))
@[simp] theorem ws78 : eqM (.str "and") (.str "or") = some (.bool false) := (e_eqS (by decide +kernel) (by decide +kernel)).trans (congrArg (fun b => some (PyData.bool b)) (by decide +kernel))
@[simp] theorem ws79 : eqM (.str "and") (.str "odd") = some (.bool false) := (e_eqS (by decide +kernel) (by decide +kernel)).trans (congrArg (fun b => some (PyData.bool b)) (by decide +kernel))
@[simp] theorem wj80 : inM (.str "and") c_JOINING_WORDS = some (.bool true) := in_join.trans (congrArg (fun b => some (PyData.bool b)) (by decide +kernel))
@[simp] theorem wi80 : isTy "str" (.str "and") = true := rfl
@[simp] theorem ws80 : eqM (.str "or") (.str "say") = some (.bool false) := (e_eqS (by decide +kernel) (by decide +kernel)).trans (congrArg (fun b => some (PyData.bool b)) (by decide +kernel))
@[simp] theorem ws81 : eqM (.str "or") (.str "is") = some (.bool false) := (e_eqS (by decide +kernel) (by decide +kernel)).trans (congrArg (fun b => some (PyData.bool b)) (by decide +kernel))
@[simp] theorem ws82 : eqM (.str "or") (.str "tree") = some (.bool false) := (e_eqS (by decide +kernel) (by decide +kernel)).trans (congrArg (fun b => some (PyData.bool b)) (by decide +kernel))
@[simp] theorem ws83 : eqM (.str "or") (.str "rules") = some (.bool false) := (e_eqS (by decide +kernel) (by decide +kernel)).trans (congrArg (fun b => some (PyData.bool b)) (by decide +kernel))
@[simp] theorem ws84 : eqM (.str "or") (.str "card") = some (.bool false) := (e_eqS (by decide +kernel) (by decide +kernel)).trans (congrArg (fun b => some (PyData.bool b)) (by decide +kernel))
@[simp] theorem ws85 : eqM (.str "or") (.str "table") = some (.bool false) := (e_eqS (by decide +kernel) (by decide +kernel)).trans (congrArg (fun b => some (PyData.bool b)) (by decide +kernel))
@[simp] theorem ws86 : eqM (.str "or") (.str "not") = some (.bool false) := (e_eqS (by decide +kernel) (by decide +kernel)).trans (congrArg (fun b => some (PyData.bool b)) (by decide +kernel))
@[simp] theorem ws87 : eqM (.str "or") (.str "and") = some (.bool false) := (e_eqS (by decide +kernel) (by decide +kernel)).trans (congrArg (fun b => some (PyData.bool b)) (by decide +kernel))
@[simp] theorem ws88 : eqM (.str "or") (.str "or") = some (.bool true) := (e_eqS (by decide +kernel) (by decide +kernel)).trans (congrArg (fun b => some (PyData.bool b)) (by decide +kernel))
@[simp] theorem ws89 : eqM (.str "or") (.str "odd") = some (.bool false) := (e_eqS (by decide +kernel) (by decide +kernel)).trans (congrArg (fun b => some (PyData.bool b)) (by decide +kernel))
@[simp] theorem wj90 : inM (.str "or") c_JOINING_WORDS = some (.bool true) := in_join.trans (congrArg (fun b => some (PyData.bool b)) (by decide +kernel))
@[simp] theorem wi90 : isTy "str" (.str "or") = true := rfl
@[simp] theorem ws90 : eqM (.str "odd") (.str "say") = some (.bool false) := (e_eqS (by decide +kernel) (by decide +kernel)).trans (congrArg (fun b => some (PyData.bool b)) (by decide +kernel))
@[simp] theorem ws91 : eqM (.str "odd") (.str "is") = some (.bool false) := (e_eqS (by decide +kernel) (by decide +kernel)).trans (congrArg (fun b => some (PyData.bool b)) (by decide +kernel))
@[simp] theorem ws92 : eqM (.str "odd") (.str "tree") = some (.bool false) := (e_eqS (by decide +kernel) (by decide +kernel)).trans (congrArg (fun b => some (PyData.bool b)) (by decide +kernel))
@[simp] theorem ws93 : eqM (.str "odd") (.str "rules") = some (.bool false) := (e_eqS (by decide +kernel) (by decide +kernel)).trans (congrArg (fun b => some (PyData.bool b)) (by decide +kernel))
@[simp] theorem ws94 : eqM (.str "odd") (.str "card") = some (.bool false) := (e_eqS (by decide +kernel) (by decide +kernel)).trans (congrArg (fun b => some (PyData.bool b)) (by decide +kernel))
@[simp] theorem ws95 : eqM (.str "odd") (.str "table") = some (.bool false) := (e_eqS (by decide +kernel) (by decide +kernel)).trans (congrArg (fun b => some (PyData.bool b)) (by decide +kernel))
@[simp] theorem ws96 : eqM (.str "odd") (.str "not") = some (.bool false) := (e_eqS (by decide +kernel) (by decide +kernel)).trans (congrArg (fun b => some (PyData.bool b)) (by decide +kernel))
@[simp] theorem ws97 : eqM (.str "odd") (.str "and") = some (.bool false) := (e_eqS (by decide +kernel) (by decide +kernel)).trans (congrArg (fun b => some (PyData.bool b)) (by decide +kernel))
@[simp] theorem ws98 : eqM (.str "odd") (.str "or") = some (.bool false) := (e_eqS (by decide +kernel) (by decide +kernel)).trans (congrArg (fun b => some (PyData.bool b)) (by decide +kernel))
@[simp] theorem ws99 : eqM (.str "odd") (.str "odd") = some (.bool true) := (e_eqS (by decide +kernel) (by decide +kernel)).trans (congrArg (fun b => some (PyData.bool b)) (by decide +kernel))
@[simp] theorem wj100 : inM (.str "odd") c_JOINING_WORDS = some (.bool true) := in_join.trans (congrArg (fun b => some (PyData.bool b)) (by decide +kernel))
@[simp] theorem wi100 : isTy "str" (.str "odd") = true := rfl
inductive Jw where
  | and | or | odd
def Jw.str : Jw → Str
  | .and => "and"
  | .or => "or"
  | .odd => "odd"
def Jw.ev : Jw → List Bool → Bool
  | .and, bs => bs.all id
  | .or, bs => bs.any id
  | .odd, bs => bs.countP id % 2 == 1
abbrev Cond := Nat × List Nat
abbrev Rule := List Cond × Bool
inductive Frm where
  | say (b : Bool)
  | test (f : Nat) (vs : List Nat)
  | tree (f : Nat) (bs : List Frm)
  | rules (rs : List Rule) (l : Bool)
  | card (ws : List (List Int)) (t : Int)
  | table (rs : List Bool)
  | neg (x : Frm)
  | join (w : Jw) (xs : List Frm)
def condD (c : Cond) : PyData := .tuple [nD c.1, .tuple (c.2.map nD)]
abbrev condsD (cs : List Cond) : PyData := .tuple (cs.map condD)
def ruleD (r : Rule) : PyData := .tuple [condsD r.1, .bool r.2]
def rowD (w : List Int) : PyData := .tuple (w.map .int)
mutual
def Frm.D : Frm → PyData
  | .say b => .tuple [.str "say", .bool b]
  | .test f vs => .tuple [.str "is", nD f, .tuple (vs.map nD)]
  | .tree f bs => .tuple [.str "tree", nD f, .tuple (Frm.Ds bs)]
  | .rules rs l => .tuple [.str "rules", .tuple (rs.map ruleD), .bool l]
  | .card ws t => .tuple [.str "card", .tuple (ws.map rowD), .int t]
  | .table rs => .tuple [.str "table", .tuple (rs.map .bool)]
  | .neg x => .tuple [.str "not", x.D]
  | .join w xs => .tuple [.str w.str, .tuple (Frm.Ds xs)]
def Frm.Ds : List Frm → List PyData
  | [] => []
  | x :: xs => x.D :: Frm.Ds xs
end
theorem Frm.Ds_eq : ∀ xs : List Frm, Frm.Ds xs = xs.map Frm.D
  | [] => by rw [Frm.Ds]; rfl
  | x :: xs => by rw [Frm.Ds, Frm.Ds_eq xs]; rfl
def fitsB (cs : List Nat) (r : List Cond) : Bool := r.all fun c => c.2.contains (cs.getD c.1 0)
def plc : Nat → List Nat → List Nat → Nat
  | a, n :: ns, c :: cs => plc (a * n + c) ns cs
  | a, _, _ => a
def wsum : List (List Int) → List Nat → Int
  | w :: ws, c :: cs => w.getD c 0 + wsum ws cs
  | _, _ => 0
mutual
def Frm.ev (ns cs : List Nat) : Frm → Bool
  | .say b => b
  | .test f vs => vs.contains (cs.getD f 0)
  | .tree f bs => (Frm.evs ns cs bs).getD (cs.getD f 0) false
  | .rules rs l => match rs.find? fun r => fitsB cs r.1 with
    | some r => r.2
    | none => l
  | .card ws t => decide (t ≤ wsum ws cs)
  | .table rs => rs.getD (plc 0 ns cs) false
  | .neg x => !x.ev ns cs
  | .join w xs => w.ev (Frm.evs ns cs xs)
def Frm.evs (ns cs : List Nat) : List Frm → List Bool
  | [] => []
  | x :: xs => x.ev ns cs :: Frm.evs ns cs xs
end
theorem Frm.evs_eq {ns cs : List Nat} : ∀ xs : List Frm, Frm.evs ns cs xs = xs.map (Frm.ev ns cs)
  | [] => by rw [Frm.evs]; rfl
  | x :: xs => by rw [Frm.evs, Frm.evs_eq xs]; rfl
def TestOk (ns : List Nat) (c : Cond) : Prop := ∃ n, ns[c.1]? = some n ∧ AscFrom 0 n c.2
def CondsOk (ns : List Nat) (cs : List Cond) : Prop := AscFrom 0 ns.length (cs.map Prod.fst) ∧ ∀ c ∈ cs, TestOk ns c
mutual
def Frm.Ok (ns : List Nat) : Frm → Prop
  | .say _ => True
  | .test f vs => TestOk ns (f, vs)
  | .tree f bs => ns[f]? = some bs.length ∧ Frm.Oks ns bs
  | .rules rs _ => rs.length ≤ 1000 ∧ ∀ r ∈ rs, CondsOk ns r.1
  | .card ws _ => ws.length = ns.length ∧ ∀ (i n : Nat) (w : List Int), ns[i]? = some n → ws[i]? = some w → w.length = n
  | .table rs => prod ns ≤ 1024 ∧ rs.length = prod ns
  | .neg x => x.Ok ns
  | .join _ xs => xs.length ≤ 1000 ∧ Frm.Oks ns xs
def Frm.Oks (ns : List Nat) : List Frm → Prop
  | [] => True
  | x :: xs => x.Ok ns ∧ Frm.Oks ns xs
end
theorem Frm.Oks_iff {ns : List Nat} : ∀ {xs : List Frm}, Frm.Oks ns xs ↔ ∀ x ∈ xs, x.Ok ns
  | [] => by rw [Frm.Oks]; simp
  | x :: xs => by rw [Frm.Oks, Frm.Oks_iff (xs := xs)]; simp
mutual
def Frm.dp : Frm → Nat
  | .tree _ bs => 1 + Frm.dps bs
  | .neg x => 1 + x.dp
  | .join _ xs => 1 + Frm.dps xs
  | _ => 0
def Frm.dps : List Frm → Nat
  | [] => 0
  | x :: xs => max x.dp (Frm.dps xs)
end
theorem Frm.dps_le : ∀ {xs : List Frm} {x : Frm}, x ∈ xs → x.dp ≤ Frm.dps xs
  | y :: ys, x, h => by
    rw [Frm.dps]
    rcases List.mem_cons.mp h with rfl | h
    · omega
    · have := Frm.dps_le h
      omega
theorem Frm.dps_of {n : Nat} : ∀ {xs : List Frm}, (∀ x ∈ xs, x.dp ≤ n) → Frm.dps xs ≤ n
  | [], _ => by rw [Frm.dps]; omega
  | y :: ys, h => by
    rw [Frm.dps]
    have h1 := h y (List.mem_cons_self ..)
    have h2 := Frm.dps_of (xs := ys) fun x hx => h x (List.mem_cons_of_mem _ hx)
    omega
mutual
def Frm.sz : Frm → Nat
  | .tree _ bs => 1 + Frm.szs bs
  | .neg x => 1 + x.sz
  | .join _ xs => 1 + Frm.szs xs
  | _ => 1
def Frm.szs : List Frm → Nat
  | [] => 0
  | x :: xs => x.sz + Frm.szs xs
end
theorem Frm.ind {P : Frm → Prop} (say : ∀ b, P (.say b)) (test : ∀ f vs, P (.test f vs)) (tree : ∀ f bs, (∀ b ∈ bs, P b) → P (.tree f bs)) (rules : ∀ rs l, P (.rules rs l)) (card : ∀ ws t, P (.card ws t)) (table : ∀ rs, P (.table rs)) (neg : ∀ x, P x → P (.neg x)) (join : ∀ w xs, (∀ b ∈ xs, P b) → P (.join w xs)) (x : Frm) : P x :=
  Frm.rec (motive_1 := P) (motive_2 := fun bs => ∀ b ∈ bs, P b) say test tree rules card table neg join (fun _ h => nomatch h) (fun _ _ h1 h2 b hb => (List.mem_cons.mp hb).elim (fun e => e ▸ h1) (h2 b)) x
section
variable {α : Type} {vs : List Nat} {mi : M (List PyData)} {g : PyData → En → Option En} {mt : M Bool} {me : M PyData} {r : En}
theorem lcy (f : α → PyData) (F : α → PyData) (e : α → En) {xs : List α} (hi : mi r = some (.ok (xs.map f) r)) (hf : freeAt r vs = true) (hl : xs.length ≤ 1000000)
    (hg : ∀ x ∈ xs, g (f x) (wipeE r vs) = some (e x)) (hw : ∀ x ∈ xs, wipeE (e x) vs = wipeE r vs) (he : ∀ x ∈ xs, me (e x) = some (.ok (F x) (e x))) :
    mLc vs mi g mYes me r = some (.ok (xs.map F) r) := lc_y f F e hi hf hl hg hw he
theorem lcm (f : α → PyData) (p : α → Bool) (F : α → PyData) (e : α → En) {xs : List α} (hi : mi r = some (.ok (xs.map f) r)) (hf : freeAt r vs = true) (hl : xs.length ≤ 1000000)
    (hg : ∀ x ∈ xs, g (f x) (wipeE r vs) = some (e x)) (hw : ∀ x ∈ xs, wipeE (e x) vs = wipeE r vs) (ht : ∀ x ∈ xs, mt (e x) = some (.ok (p x) (e x))) (he : ∀ x ∈ xs, p x = true → me (e x) = some (.ok (F x) (e x))) :
    mLc vs mi g mt me r = some (.ok ((xs.filter p).map F) r) := lc_m f p F e hi hf hl hg hw ht he
end
theorem getD_of {α : Type} {xs : List α} {i : Nat} {v d : α} (h : xs[i]? = some v) : xs.getD i d = v := by rw [List.getD_eq_getElem?_getD, h]; rfl
end DL
namespace DL
open PySem PySem.Spec PyProof.Rows L2 Lk
theorem canLay_map {α : Type} {f : α → PyData} : ∀ {xs : List α}, (∀ x ∈ xs, (f x).canLay0 = true) → PyData.canLayAll0 (xs.map f) = true
  | [], _ => rfl
  | x :: xs, h => by
    rw [List.map_cons, PyData.canLayAll0, h x (List.mem_cons_self ..), canLay_map fun y hy => h y (List.mem_cons_of_mem _ hy)]
    rfl
theorem depth_map {α : Type} {f : α → PyData} {n : Nat} : ∀ {xs : List α}, (∀ x ∈ xs, (f x).depth ≤ n) → PyData.depthAll (xs.map f) ≤ n
  | [], _ => by rw [List.map_nil, PyData.depthAll]; omega
  | x :: xs, h => by
    have h1 := h x (List.mem_cons_self ..)
    have h2 := depth_map (xs := xs) fun y hy => h y (List.mem_cons_of_mem _ hy)
    rw [List.map_cons, PyData.depthAll]
    omega
/-- plain data: may be compared, n levels deep at most -/
def Sh (n : Nat) (d : PyData) : Prop := d.canLay0 = true ∧ d.depth ≤ n
theorem Sh.int {i : Int} : Sh 0 (.int i) := ⟨by rw [PyData.canLay0], by rw [PyData.depth]; omega⟩
theorem Sh.n {i : Nat} : Sh 0 (nD i) := Sh.int
theorem Sh.bool {b : Bool} : Sh 0 (.bool b) := ⟨by rw [PyData.canLay0], by rw [PyData.depth]; omega⟩
theorem Sh.none : Sh 0 .none := ⟨by rw [PyData.canLay0], by rw [PyData.depth]; omega⟩
theorem Sh.o {o : Option Nat} : Sh 0 (oD o) := by cases o; exact Sh.none; exact Sh.n
theorem Sh.list {α : Type} {f : α → PyData} {xs : List α} {n : Nat} (h : ∀ x ∈ xs, Sh n (f x)) : Sh (n + 1) (.list (xs.map f)) :=
  ⟨by rw [PyData.canLay0]; exact canLay_map fun x hx => (h x hx).1, by rw [PyData.depth]; have := depth_map fun x hx => (h x hx).2; omega⟩
theorem Sh.tup {α : Type} {f : α → PyData} {xs : List α} {n : Nat} (h : ∀ x ∈ xs, Sh n (f x)) : Sh (n + 1) (.tuple (xs.map f)) :=
  ⟨by rw [PyData.canLay0]; exact canLay_map fun x hx => (h x hx).1, by rw [PyData.depth]; have := depth_map fun x hx => (h x hx).2; omega⟩
theorem Sh.sh {n : Nat} {d : PyData} (h : Sh n d) (hn : n ≤ 64 := by decide) : SeqAt.shaped d = true := shaped_of h.1 (Nat.le_trans h.2 hn)
theorem eqv_n {a b : Nat} : PyData.eqv (nD a) (nD b) = (a == b) := by
  unfold nD
  rw [PyData.eqv, Bool.eq_iff_iff, beq_iff_eq, beq_iff_eq]
  omega
theorem memD_map {α : Type} {f : α → PyData} {xs : List α} {v : PyData} {p : α → Bool} (h : ∀ x ∈ xs, PyData.eqv (f x) v = p x) : memD v (xs.map f) = xs.any p := by
  unfold memD
  rw [List.any_map]
  induction xs with
  | nil => rfl
  | cons x xs ih =>
    rw [List.any_cons, List.any_cons, ih fun y hy => h y (List.mem_cons_of_mem _ hy)]
    congr 1
    exact h x (List.mem_cons_self ..)
theorem any_eq {xs : List Nat} {v : Nat} : (xs.any fun x => x == v) = xs.contains v := by
  induction xs with
  | nil => rfl
  | cons x xs ih =>
    rw [List.any_cons, ih, List.contains_cons, Bool.beq_comm]
theorem flat_n {xs : List Nat} : (xs.map nD).all flatD = true := by rw [List.all_map]; exact List.all_eq_true.mpr fun _ _ => rfl
@[simp] theorem e_in_tn {v : Nat} {xs : List Nat} : inM (nD v) (.tuple (xs.map nD)) = some (.bool (xs.contains v)) := by
  show (if flatD (nD v) && (xs.map nD).all flatD then _ else _) = _
  rw [flat_n]
  show some (PyData.bool (memD _ _)) = _
  rw [memD_map (p := fun x => x == v) fun x _ => eqv_n, any_eq]
theorem sh_bools {bs : List Bool} : SeqAt.shaped (.list (bs.map PyData.bool)) = true := (Sh.list fun _ _ => Sh.bool).sh
theorem mem_bools {b : Bool} {bs : List Bool} : memD (.bool b) (bs.map PyData.bool) = bs.contains b := by
  rw [memD_map (p := fun x => x == b) fun x _ => by rw [PyData.eqv]]
  induction bs with
  | nil => rfl
  | cons x xs ih => rw [List.any_cons, ih, List.contains_cons, Bool.beq_comm]
@[simp] theorem e_in_b {b : Bool} {bs : List Bool} : inM (.bool b) (.list (bs.map PyData.bool)) = some (.bool (bs.contains b)) := by
  show (if SeqAt.shaped (.bool b) && SeqAt.shaped (.list (bs.map PyData.bool)) then _ else _) = _
  rw [sh_bools, (Sh.bool).sh, mem_bools]
  rfl
@[simp] theorem e_notIn_b {b : Bool} {bs : List Bool} : notInM (.bool b) (.list (bs.map PyData.bool)) = some (.bool (!bs.contains b)) := by
  show (if SeqAt.shaped (.bool b) && SeqAt.shaped (.list (bs.map PyData.bool)) then _ else _) = _
  rw [sh_bools, (Sh.bool).sh, mem_bools]
  rfl
theorem e_count_b {b : Bool} {bs : List Bool} : countM (.list (bs.map PyData.bool)) [.bool b] = some (nD (bs.count b)) := by
  show (if flatD (.bool b) && (bs.map PyData.bool).all flatD then _ else _) = _
  rw [show (bs.map PyData.bool).all flatD = true by rw [List.all_map]; exact List.all_eq_true.mpr fun _ _ => rfl]
  show some (PyData.int _) = some (PyData.int _)
  rw [List.countP_map, List.count]
  congr 3
theorem e_sumF {α : Type} {xs : List α} {f : α → Int} : sumM [.list (xs.map fun x => PyData.int (f x))] = some (.int (xs.map f).sum) := by
  have := e_asum (ns := xs.map f)
  rw [List.map_map] at this
  exact this
theorem for_fst {α : Type} {g : PyData → En → Option En} {b : SM} (f : α → PyData) (enc : Option α → En) (p : α → Bool) (F : α → PyData) : ∀ {xs : List α} {o : Option α}, (∀ o, ∀ x ∈ xs, ∃ r1 r2, g (f x) (enc o) = some r1 ∧ b r1 = if p x then some (.rt (F x) r2) else some (.nx (enc (some x)))) →
    (∃ x r2, xs.find? p = some x ∧ forGo g b (xs.map f) (enc o) = some (.rt (F x) r2)) ∨ (xs.find? p = none ∧ ∃ o', forGo g b (xs.map f) (enc o) = some (.nx (enc o')))
  | [], o, _ => .inr ⟨rfl, o, rfl⟩
  | x :: xs, o, h => by
    obtain ⟨r1, r2, h1, h2⟩ := h o x (List.mem_cons_self ..)
    rw [List.map_cons, forGo_cons, h1]
    dsimp only [Option.bind]
    cases hp : p x with
    | true =>
      rw [hp, if_pos rfl] at h2
      rw [h2, List.find?_cons, hp]
      exact .inl ⟨x, r2, rfl, rfl⟩
    | false =>
      rw [hp, if_neg Bool.false_ne_true] at h2
      rw [h2, List.find?_cons, hp]
      exact for_fst f enc p F (xs := xs) (o := some x) fun o y hy => h o y (List.mem_cons_of_mem _ hy)
@[simp] theorem e_eq_l {a n : Nat} : eqM (nD a) (.int (no_index (@OfNat.ofNat Int n instOfNat))) = some (.bool (a == n)) := e_eq_n
@[simp] theorem e_ne_l {a n : Nat} : neM (nD a) (.int (no_index (@OfNat.ofNat Int n instOfNat))) = some (.bool (!(a == n))) := e_ne_n
@[simp] theorem e_lt_l {a n : Nat} : ltM (nD a) (.int (no_index (@OfNat.ofNat Int n instOfNat))) = some (.bool (decide (a < n))) := e_lt_n
theorem e_mod_n {a b : Nat} (h : 0 < b) : modM (nD a) (nD b) = some (nD (a % b)) := by
  have := e_modI (a := (a : Int)) (b := b) (by omega)
  show modM (.int a) (.int b) = _
  rw [this]
  rfl
@[simp] theorem e_mod_2 {a : Nat} : modM (nD a) (.int 2) = some (nD (a % 2)) := e_mod_n (b := 2) (by decide)
theorem Case.at {ns cs : List Nat} (h : Case ns cs) {i n : Nat} (e : ns[i]? = some n) : ∃ c, cs[i]? = some c ∧ c < n := by
  have li : i < ns.length := (List.getElem?_eq_some_iff.mp e).1
  have lc : i < cs.length := by rw [h.1]; exact li
  exact ⟨cs[i], List.getElem?_eq_getElem lc, h.2 i n _ e (List.getElem?_eq_getElem lc)⟩
theorem Case.nil : Case [] [] := ⟨rfl, fun _ _ _ h => by simp at h⟩
theorem Case.cons {n c : Nat} {ns cs : List Nat} : Case (n :: ns) (c :: cs) ↔ c < n ∧ Case ns cs := by
  constructor
  · intro h
    exact ⟨h.2 0 n c rfl rfl, by simpa using h.1, fun i m d e e' => h.2 (i + 1) m d (by simpa using e) (by simpa using e')⟩
  · rintro ⟨h1, h2, h3⟩
    refine ⟨by simpa using h2, fun i m d e e' => ?_⟩
    cases i with
    | zero => cases e; cases e'; exact h1
    | succ i => exact h3 i m d (by simpa using e) (by simpa using e')
theorem plc_lt : ∀ {ns cs : List Nat} {a : Nat}, Case ns cs → plc a ns cs < (a + 1) * prod ns
  | [], [], a, _ => by show a < (a + 1) * 1; omega
  | n :: ns, c :: cs, a, h => by
    obtain ⟨h1, h2⟩ := Case.cons.mp h
    have := plc_lt (a := a * n + c) h2
    rw [plc, prod]
    refine Nat.lt_of_lt_of_le this ?_
    rw [← Nat.mul_assoc]
    refine Nat.mul_le_mul_right _ ?_
    rw [Nat.succ_mul]
    omega
  | [], _ :: _, _, h => by have := h.1; simp at this
  | _ :: _, [], _, h => by have := h.1; simp at this
theorem e_add_n {a b : Nat} : addM (nD a) (nD b) = some (nD (a + b)) := by
  show some (PyData.int ((a : Int) + b)) = _
  rw [← Int.natCast_add]
  rfl
theorem fold_zip {β : Type} (f : β → Nat → Nat → β) : ∀ (ns cs : List Nat) (s : β) (g : Nat → β → β), cs.length = ns.length → (∀ i n c, ns[i]? = some n → cs[i]? = some c → ∀ s, g i s = f s n c) → (List.range ns.length).foldl (fun s i => g i s) s = (ns.zip cs).foldl (fun s p => f s p.1 p.2) s
  | [], [], s, g, _, _ => rfl
  | n :: ns, c :: cs, s, g, hl, h => by
    rw [List.length_cons, List.range_succ_eq_map, List.foldl_cons, List.foldl_map, List.zip_cons_cons, List.foldl_cons, h 0 n c rfl rfl s]
    exact fold_zip f ns cs _ (fun i s => g (i + 1) s) (by simpa using hl) fun i m d e e' s => h (i + 1) m d (by simpa using e) (by simpa using e') s
  | [], _ :: _, _, _, hl, _ => by simp at hl
  | _ :: _, [], _, _, hl, _ => by simp at hl
theorem plc_fold : ∀ (ns cs : List Nat) (a : Nat), (ns.zip cs).foldl (fun s p => s * p.1 + p.2) a = plc a ns cs
  | [], [], a => rfl
  | n :: ns, c :: cs, a => by
    rw [List.zip_cons_cons, List.foldl_cons, plc_fold, plc]
  | [], _ :: _, a => rfl
  | _ :: _, [], a => rfl
theorem Sz.tail {n : Nat} {ns : List Nat} (h : Sz (n :: ns)) : Sz ns := ⟨by have := h.1; simp at this; omega, fun m hm => h.2 m (List.mem_cons_of_mem _ hm)⟩
/-- place * size + part, for all fields, below a bound -/
theorem plc_part {ns cs : List Nat} (hn : Sz ns) (hc : Case ns cs) : ∀ i, i ≤ ns.length → plc 0 (ns.take i) (cs.take i) ≤ 6 ^ 24 := by
  intro i hi
  have lt : Case (ns.take i) (cs.take i) := by
    refine ⟨by simp [hc.1], fun j n c e e' => ?_⟩
    rw [List.getElem?_take] at e e'
    split at e
    · rename_i z
      rw [if_pos z] at e'
      exact hc.2 j n c e e'
    · cases e
  have := plc_lt (a := 0) lt
  have b := prod_small (ns := ns.take i) ⟨by simp; have := hn.1; omega, fun n hm => hn.2 n (List.mem_of_mem_take hm)⟩
  omega
theorem plc_snoc : ∀ {ns cs : List Nat} {a n c : Nat}, cs.length = ns.length → plc a (ns ++ [n]) (cs ++ [c]) = plc a ns cs * n + c
  | [], [], _, _, _, _ => rfl
  | m :: ns, d :: cs, a, n, c, h => by
    show plc (a * m + d) (ns ++ [n]) (cs ++ [c]) = plc (a * m + d) ns cs * n + c
    exact plc_snoc (by simpa using h)
  | [], _ :: _, _, _, _, h => by simp at h
  | _ :: _, [], _, _, _, h => by simp at h
theorem range_drop {n j : Nat} {i : Nat} {xs : List Nat} (h : i :: xs = (List.range n).drop j) : i = j ∧ j < n ∧ xs = (List.range n).drop (j + 1) := by
  have lj : j < n := by
    have e := congrArg List.length h
    rw [List.length_drop, List.length_range, List.length_cons] at e
    omega
  rw [List.drop_eq_getElem_cons (by rw [List.length_range]; exact lj), List.getElem_range] at h
  obtain ⟨h1, h2⟩ := List.cons.inj h
  exact ⟨h1, lj, h2⟩
theorem nextc {b : SM} {r r2 : En} (h : b r = some (.nx r2)) : b r = some (.nx r2) ∨ b r = some (.ct r2) := .inl h
theorem g_place_ok {ns cs : List Nat} (hn : Sz ns) (hc : Case ns cs) : g_place_of_case [nsD ns, nsD cs] = some (nD (plc 0 ns cs)) := by
  rw [r_place_of_case]
  have l24 := hn.1
  simp [v_place_of_case, e_rng ns.length (by omega), nD0]
  have L := for_m (b := sSet 2 (mOp2 addM (mOp2 mulM (mV 2) (mOp2 ixM (mV 0) (mV 3))) (mOp2 ixM (mV 1) (mV 3)))) (g := gN 3) nD (fun (s : Nat × Cel) => [.pl (nsD ns), .pl (nsD cs), .pl (nD s.1), s.2])
    (fun s i => (s.1 * ns.getD i 0 + cs.getD i 0, .pl (nD i))) (fun s xs => s.2.own = false ∧ ∃ j, xs = (List.range ns.length).drop j ∧ s.1 = plc 0 (ns.take j) (cs.take j)) (xs := List.range ns.length) (s := (0, .un))
    ⟨rfl, 0, rfl, rfl⟩ (by
      rintro ⟨a, c⟩ i xs ⟨hc', j, hj, ha⟩
      simp only at hc' ha
      obtain ⟨rfl, lj, hx⟩ := range_drop hj
      have e1 := List.getElem?_eq_getElem lj
      obtain ⟨d, e2, hd⟩ := hc.at e1
      have a1 := plc_part hn hc i (by omega)
      rw [← ha] at a1
      have b6 := (hn.2 _ (List.getElem_mem lj)).2
      refine ⟨[.pl (nsD ns), .pl (nsD cs), .pl (nD a), .pl (nD i)], by simp [hc'], nextc ?_, rfl, i + 1, hx, ?_⟩
      · simp [e1, e2, e_mul_n (lt_big a1) (lt_big b6), e_add_n]
      · simp only
        rw [List.take_add_one, List.take_add_one, e1, e2, getD_of e1, getD_of e2, ha]
        exact (plc_snoc (by simp [hc.1])).symm)
  rw [L]
  have key : ∀ (xs : List Nat) (s : Nat × Cel), (xs.foldl (fun (s : Nat × Cel) i => (s.1 * ns.getD i 0 + cs.getD i 0, Cel.pl (nD i))) s).1 = xs.foldl (fun a i => a * ns.getD i 0 + cs.getD i 0) s.1 := fun xs => by
    induction xs with
    | nil => intro s; rfl
    | cons x xs ih => intro s; exact ih _
  simp only [s_seq, s_ret, s_bind, e_V]
  show some (nD _) = _
  rw [key, fold_zip (fun s n c => s * n + c) ns cs 0 (fun i a => a * ns.getD i 0 + cs.getD i 0) hc.1 fun i n c e e' s => by rw [getD_of e, getD_of e'], plc_fold]
theorem testOk_at {ns cs : List Nat} {c : Cond} (hc : Case ns cs) (h : TestOk ns c) : ∃ v, cs[c.1]? = some v ∧ cs.getD c.1 0 = v := by
  obtain ⟨n, e, _⟩ := h
  obtain ⟨v, e2, _⟩ := hc.at e
  exact ⟨v, e2, getD_of e2⟩
theorem asc_len : ∀ {vs : List Nat} {lo n : Nat}, AscFrom lo n vs → lo + vs.length ≤ max lo n
  | [], _, _, _ => by simp; omega
  | v :: vs, lo, n, ⟨h1, h2, h3⟩ => by
    have := asc_len h3
    simp only [List.length_cons]
    omega
theorem conds_len {ns : List Nat} {cs : List Cond} (h : CondsOk ns cs) : cs.length ≤ ns.length := by
  have := asc_len h.1
  simp at this
  omega
theorem g_fits_ok {ns cs : List Nat} {r : List Cond} (hn : Sz ns) (hc : Case ns cs) (h : CondsOk ns r) : g_fits [condsD r, nsD cs] = some (.bool (fitsB cs r)) := by
  rw [r_fits]
  have l24 := hn.1
  have lr := conds_len h
  simp [v_fits]
  rw [lcy condD (fun c => .bool (c.2.contains (cs.getD c.1 0))) (fun c => [.pl (condsD r), .pl (nsD cs), .pl (nD c.1), .pl (.tuple (c.2.map nD))]) (xs := r) (by simp) (by simp [freeAt]) (by omega) (by intro c _; simp [condD]) (by simp) (by
    intro c hr
    obtain ⟨v, e1, e2⟩ := testOk_at hc (h.2 c hr)
    simp [e1, e2])]
  simp [e_allT, fitsB]
theorem g_first_ok {ns cs : List Nat} {rs : List Rule} {l : Bool} (hn : Sz ns) (hc : Case ns cs) (h : ∀ r ∈ rs, CondsOk ns r.1) :
    g_p_first_result [.tuple (rs.map ruleD), .bool l, nsD cs] = some (.bool (match rs.find? fun r => fitsB cs r.1 with
      | some r => r.2
      | none => l)) := by
  rw [r_p_first_result]
  have e := for_fst (g := gTupD 2 (gConsD (gN 3) (gConsD (gN 4) gNilD))) (b := sIf (mTru (mCall g_fits (mCons (mV 3) (mCons (mV 2) mNil)))) (sRet (mV 4)) sNil) ruleD
    (fun o => [.pl (.tuple (rs.map ruleD)), .pl (.bool l), .pl (nsD cs), (match o with | some r => .pl (condsD r.1) | none => .un), (match o with | some r => .pl (.bool r.2) | none => .un)])
    (fun r => fitsB cs r.1) (fun r => .bool r.2) (xs := rs) (o := none) (by
      intro o r hr
      refine ⟨[.pl (.tuple (rs.map ruleD)), .pl (.bool l), .pl (nsD cs), .pl (condsD r.1), .pl (.bool r.2)], [.pl (.tuple (rs.map ruleD)), .pl (.bool l), .pl (nsD cs), .pl (condsD r.1), .pl (.bool r.2)], by cases o <;> simp [ruleD], ?_⟩
      simp only [s_if, s_bind, e_tru, e_bind, e_call, e_cons, e_V, e_nil]
      simp [g_fits_ok hn hc (h r hr)]
      cases fitsB cs r.1 <;> simp)
  simp [v_p_first_result]
  rcases e with ⟨r, r2, e1, e2⟩ | ⟨e1, o, e2⟩
  · rw [e2, e1]; simp
  · rw [e2, e1]; simp
theorem ix_map {α : Type} {f : α → PyData} {xs : List α} {i : Nat} {v : α} (h : xs[i]? = some v) : ixM (.tuple (xs.map f)) (nD i) = some (f v) := by rw [e_ix_t, h]; rfl
theorem ix_mapL {α : Type} {f : α → PyData} {xs : List α} {i : Nat} {v : α} (h : xs[i]? = some v) : ixM (.list (xs.map f)) (nD i) = some (f v) := by rw [e_ix_l, h]; rfl
theorem sum_range : ∀ (ws : List (List Int)) (cs : List Nat), ws.length = cs.length → ((List.range cs.length).map fun i => (ws.getD i []).getD (cs.getD i 0) 0).sum = wsum ws cs
  | [], [], _ => rfl
  | w :: ws, c :: cs, h => by
    rw [List.length_cons, List.range_succ_eq_map, List.map_cons, List.map_map, List.sum_cons, wsum, ← sum_range ws cs (by simpa using h)]
    rfl
  | [], _ :: _, h => by simp at h
  | _ :: _, [], h => by simp at h
theorem g_wsum_ok {ns cs : List Nat} {ws : List (List Int)} (hn : Sz ns) (hc : Case ns cs) (h1 : ws.length = ns.length) (h2 : ∀ (i n : Nat) (w : List Int), ns[i]? = some n → ws[i]? = some w → w.length = n) :
    g_sum_of_weights [.tuple (ws.map rowD), nsD cs] = some (.int (wsum ws cs)) := by
  rw [r_sum_of_weights]
  have l24 := hn.1
  have lc := hc.1
  simp [v_sum_of_weights]
  rw [lcy nD (fun i => .int ((ws.getD i []).getD (cs.getD i 0) 0)) (fun i => [.pl (.tuple (ws.map rowD)), .pl (nsD cs), .pl (nD i)]) (xs := List.range cs.length) (by simp [e_rng cs.length (by omega)]) (by simp [freeAt]) (by simp; omega) (by simp) (by simp) (by
    intro i hi
    have li := List.mem_range.mp hi
    have ln : i < ns.length := by omega
    have lw : i < ws.length := by omega
    have e1 := List.getElem?_eq_getElem ln
    have e2 := List.getElem?_eq_getElem lw
    obtain ⟨c, e3, hcn⟩ := hc.at e1
    have hw := h2 i _ _ e1 e2
    have e4 : ws[i][c]? = some ws[i][c] := List.getElem?_eq_getElem (by omega)
    rw [getD_of e2, getD_of e3, getD_of e4]
    simp only [e_op2, e_bind, e_V, e_lift_some, List.getElem?_cons_zero, List.getElem?_cons_succ, ix_map e2, ix_mapL e3, rowD, ix_map e4])]
  simp only [e_bind, e_ret, e_lift_some, s_ret, s_bind, o_rt]
  rw [e_sumF, sum_range ws cs (by omega)]
  simp
theorem g_join_ok (w : Jw) (bs : List Bool) : g_p_join_answers [.str w.str, .list (bs.map PyData.bool)] = some (.bool (w.ev bs)) := by
  rw [r_p_join_answers]
  cases w with
  | and =>
    simp [v_p_join_answers, Jw.str, Jw.ev]
    induction bs with
    | nil => simp
    | cons b bs ih => cases b <;> simp_all
  | or =>
    simp [v_p_join_answers, Jw.str, Jw.ev]
    induction bs with
    | nil => simp
    | cons b bs ih => cases b <;> simp_all
  | odd =>
    simp [v_p_join_answers, Jw.str, Jw.ev, e_count_b]
    rw [List.count]
    congr 3
    funext x
    cases x <;> rfl
theorem g_alone_ok {ns cs : List Nat} (hn : Sz ns) (hc : Case ns cs) {x : Frm} (h : x.Ok ns) (hx : match x with | .tree .. => False | .neg .. => False | .join .. => False | _ => True) :
    g_p_says_alone [nsD ns, x.D, nsD cs] = some (.bool (x.ev ns cs)) := by
  rw [r_p_says_alone]
  cases x with
  | say b => simp [v_p_says_alone, Frm.D, Frm.ev]
  | test f vs =>
    rw [Frm.Ok] at h
    obtain ⟨v, e1, e2⟩ := testOk_at hc h
    simp [v_p_says_alone, Frm.D, Frm.ev, e1]
  | rules rs l =>
    rw [Frm.Ok] at h
    simp [v_p_says_alone, Frm.D, Frm.ev, g_first_ok hn hc h.2]
    all_goals (cases List.find? (fun r => fitsB cs r.fst) rs <;> rfl)
  | card ws t =>
    rw [Frm.Ok] at h
    simp [v_p_says_alone, Frm.D, Frm.ev, g_wsum_ok hn hc h.1 h.2]
  | table rs =>
    rw [Frm.Ok] at h
    have := plc_lt (a := 0) hc
    have e : rs[plc 0 ns cs]? = some rs[plc 0 ns cs] := List.getElem?_eq_getElem (by omega)
    simp [v_p_says_alone, Frm.D, Frm.ev, g_place_ok hn hc, ix_map e, e]
  | tree f bs => exact hx.elim
  | neg x => exact hx.elim
  | join w xs => exact hx.elim
theorem g_says_ok {ns cs : List Nat} (hn : Sz ns) (hc : Case ns cs) (x : Frm) : ∀ k, x.Ok ns → x.dp < k → g_says k [nsD ns, x.D, nsD cs] = some (.bool (x.ev ns cs)) := by
  induction x using Frm.ind with
  | say b => intro k h hk; cases k with | zero => omega | succ k => rw [r_says]; have := g_alone_ok hn hc h trivial; rw [Frm.D] at this; simp [v_says, Frm.D, this]
  | test f vs => intro k h hk; cases k with | zero => omega | succ k => rw [r_says]; have := g_alone_ok hn hc h trivial; rw [Frm.D] at this; simp [v_says, Frm.D, this]
  | rules rs l => intro k h hk; cases k with | zero => omega | succ k => rw [r_says]; have := g_alone_ok hn hc h trivial; rw [Frm.D] at this; simp [v_says, Frm.D, this]
  | card ws t => intro k h hk; cases k with | zero => omega | succ k => rw [r_says]; have := g_alone_ok hn hc h trivial; rw [Frm.D] at this; simp [v_says, Frm.D, this]
  | table rs => intro k h hk; cases k with | zero => omega | succ k => rw [r_says]; have := g_alone_ok hn hc h trivial; rw [Frm.D] at this; simp [v_says, Frm.D, this]
  | tree f bs ih =>
    intro k h hk
    cases k with
    | zero => omega
    | succ k =>
      rw [Frm.Ok] at h
      rw [Frm.dp] at hk
      obtain ⟨c, e1, e2⟩ := hc.at h.1
      have eb : bs[c]? = some bs[c] := List.getElem?_eq_getElem e2
      have hm : bs[c] ∈ bs := List.getElem_mem e2
      have := ih _ hm k (Frm.Oks_iff.mp h.2 _ hm) (by have := Frm.dps_le hm; omega)
      rw [r_says]
      simp [v_says, Frm.D, Frm.ev, Frm.Ds_eq, Frm.evs_eq, e1, ix_map eb, this, eb]
  | neg x ih =>
    intro k h hk
    cases k with
    | zero => omega
    | succ k =>
      rw [Frm.Ok] at h
      rw [Frm.dp] at hk
      have := ih k h (by omega)
      rw [r_says]
      simp [v_says, Frm.D, Frm.ev, this]
  | join w xs ih =>
    intro k h hk
    cases k with
    | zero => omega
    | succ k =>
      rw [Frm.Ok] at h
      rw [Frm.dp] at hk
      rw [r_says]
      have lc := lcy (vs := [3]) (mi := mSeq (mOp2 ixM (mV 1) (M.ret (.int 1)))) (g := gN 3) (me := mCall (g_says k) (mCons (mV 0) (mCons (mV 3) (mCons (mV 2) mNil)))) (r := [.pl (nsD ns), .pl (Frm.join w xs).D, .pl (nsD cs), .un])
        Frm.D (fun x => .bool (x.ev ns cs)) (fun x => [.pl (nsD ns), .pl (Frm.join w xs).D, .pl (nsD cs), .pl x.D]) (xs := xs) (by simp [Frm.D, Frm.Ds_eq]) (by simp [freeAt]) (by omega) (by simp) (by simp) (by
          intro x hx
          have := ih x hx k (Frm.Oks_iff.mp h.2 _ hx) (by have := Frm.dps_le hx; omega)
          simp [this])
      have e : (xs.map fun x => PyData.bool (x.ev ns cs)) = (xs.map (Frm.ev ns cs)).map PyData.bool := by rw [List.map_map]; rfl
      rw [e] at lc
      have j := g_join_ok w (xs.map (Frm.ev ns cs))
      rw [Frm.D, Frm.Ds_eq] at lc
      cases w <;> (simp only [Jw.str] at lc j; simp [-List.map_map, v_says, Frm.D, Frm.ev, Frm.Ds_eq, Frm.evs_eq, Jw.str, lc, j])
@[simp] theorem e_add_nn {a b : Nat} : addM (nD a) (nD b) = some (nD (a + b)) := e_add_n
@[simp] theorem e_add_l {a n : Nat} : addM (nD a) (.int (no_index (@OfNat.ofNat Int n instOfNat))) = some (nD (a + n)) := e_add_n
@[simp] theorem e_add_r {a n : Nat} : addM (.int (no_index (@OfNat.ofNat Int n instOfNat))) (nD a) = some (nD (n + a)) := e_add_n
theorem asc_of : ∀ {xs : List Nat} {lo n : Nat}, xs.Pairwise (· < ·) → (∀ x ∈ xs, lo ≤ x ∧ x < n) → AscFrom lo n xs
  | [], _, _, _, _ => trivial
  | x :: xs, lo, n, hp, h => by
    obtain ⟨h1, h2⟩ := List.pairwise_cons.mp hp
    have hx := h x (List.mem_cons_self ..)
    exact ⟨hx.1, hx.2, asc_of h2 fun y hy => ⟨h1 y hy, (h y (List.mem_cons_of_mem _ hy)).2⟩⟩
theorem asc_filter {n : Nat} {p : Nat → Bool} : AscFrom 0 n ((List.range n).filter p) :=
  asc_of (List.Pairwise.filter _ List.pairwise_lt_range) fun x hx => ⟨Nat.zero_le _, List.mem_range.mp (List.mem_filter.mp hx).1⟩
theorem mul_ok {a b : Nat} (ha : a ≤ 100000000) (hb : b ≤ 100000000) : mulM (nD a) (nD b) = some (nD (a * b)) := e_mul_n (lt_big ha) (lt_big hb)
end DL
namespace DL
open PySem PySem.Spec PyProof.Rows L2 Lk
theorem g_tuple_of_ok {ds : List PyData} {n : Nat} : g_p_is_tuple_of [.tuple ds, nD n] = some (.bool (ds.length == n)) := by
  rw [r_p_is_tuple_of]
  have : PyData.int (ds.length : Int) = nD ds.length := rfl
  simp [v_p_is_tuple_of, this]
theorem g_test_ok {ns : List Nat} {f : Nat} {vs : List Nat} (h : TestOk ns (f, vs)) : g_p_is_test [nsD ns, nD f, .tuple (vs.map nD)] = some (.bool true) := by
  obtain ⟨n, e, h2⟩ := h
  rw [r_p_is_test]
  have lf : f < ns.length := (List.getElem?_eq_some_iff.mp e).1
  have e1 : PyData.int (ns.length : Int) = nD ns.length := rfl
  simp only at e h2
  have en : ns[f] = n := (List.getElem?_eq_some_iff.mp e).2
  simp [v_p_is_test, e1, g_below_n, lf, en, g_asc (d := .tuple (vs.map nD)) rfl h2]
theorem g_condition_ok {ns : List Nat} {c : Cond} (h : TestOk ns c) : g_p_is_condition [nsD ns, condD c] = some (.bool true) := by
  rw [r_p_is_condition]
  have := g_tuple_of_ok (ds := [nD c.1, .tuple (c.2.map nD)]) (n := 2)
  have e2 : PyData.int 2 = nD 2 := rfl
  simp [v_p_is_condition, condD, e2, this, g_test_ok h]
theorem all_true {α : Type} {xs : List α} : allM [.list (xs.map fun _ => PyData.bool true)] = some (.bool true) := by
  rw [e_allT]
  simp
theorem g_conditions_ok {ns : List Nat} {cs : List Cond} (hn : Sz ns) (h : CondsOk ns cs) : g_is_conditions [nsD ns, condsD cs] = some (.bool true) := by
  rw [r_is_conditions]
  have l24 := hn.1
  have lr := conds_len h
  have e1 : PyData.int (ns.length : Int) = nD ns.length := rfl
  have a := g_asc (d := .list ((cs.map Prod.fst).map nD)) rfl h.1
  rw [List.map_map] at a
  simp [v_is_conditions]
  rw [lcy condD (fun c => .bool true) (fun c => [.pl (nsD ns), .pl (condsD cs), .pl (condD c)]) (xs := cs) (by simp) (by simp [freeAt]) (by omega) (by simp) (by simp) (by intro c hc; simp [g_condition_ok (h.2 c hc)])]
  simp [all_true]
  rw [lcy condD (fun c => nD c.1) (fun c => [.pl (nsD ns), .pl (condsD cs), .pl (condD c)]) (xs := cs) (by simp) (by simp [freeAt]) (by omega) (by simp) (by simp) (by intro c hc; simp [condD])]
  rw [show (cs.map fun c => nD c.1) = cs.map (nD ∘ Prod.fst) from rfl]
  rw [← e1] at a
  simp [a]
theorem g_rule_ok {ns : List Nat} {r : Rule} (hn : Sz ns) (h : CondsOk ns r.1) : g_p_is_rule [nsD ns, ruleD r] = some (.bool true) := by
  rw [r_p_is_rule]
  have := g_tuple_of_ok (ds := [condsD r.1, .bool r.2]) (n := 2)
  have e2 : PyData.int 2 = nD 2 := rfl
  simp [v_p_is_rule, ruleD, e2, this, g_conditions_ok hn h]
theorem g_rules_ok {ns : List Nat} {rs : List Rule} (hn : Sz ns) (hl : rs.length ≤ 1000) (h : ∀ r ∈ rs, CondsOk ns r.1) : g_p_is_rules [nsD ns, .tuple (rs.map ruleD)] = some (.bool true) := by
  rw [r_p_is_rules]
  simp [v_p_is_rules]
  rw [lcy ruleD (fun c => .bool true) (fun c => [.pl (nsD ns), .pl (.tuple (rs.map ruleD)), .pl (ruleD c)]) (xs := rs) (by simp) (by simp [freeAt]) (by omega) (by simp) (by simp) (by intro c hc; simp [g_rule_ok hn (h c hc)])]
  simp [all_true]
theorem g_integers_ok {w : List Int} (hl : w.length ≤ 1000) : g_p_are_integers [rowD w] = some (.bool true) := by
  rw [r_p_are_integers]
  simp [v_p_are_integers]
  rw [lcy PyData.int (fun c => .bool true) (fun c => [.pl (rowD w), .pl (.int c)]) (xs := w) (by simp [rowD]) (by simp [freeAt]) (by omega) (by simp) (by simp) (by intro c hc; simp [g_is_integer_int])]
  simp [all_true]
theorem g_weights_ok {ns : List Nat} {ws : List (List Int)} (hn : Sz ns) (h1 : ws.length = ns.length) (h2 : ∀ (i n : Nat) (w : List Int), ns[i]? = some n → ws[i]? = some w → w.length = n) : g_p_is_weights [nsD ns, .tuple (ws.map rowD)] = some (.bool true) := by
  rw [r_p_is_weights]
  have l24 := hn.1
  have e1 : PyData.int (ns.length : Int) = nD ns.length := rfl
  have t := g_tuple_of_ok (ds := ws.map rowD) (n := ns.length)
  simp [v_p_is_weights, e1, t, h1]
  rw [lcy nD (fun i => .bool true) (fun i => [.pl (nsD ns), .pl (.tuple (ws.map rowD)), .pl (nD i)]) (xs := List.range ns.length) (by simp [e_rng_n ns.length (by omega), e1]) (by simp [freeAt]) (by simp; omega) (by simp) (by simp) (by
    intro i hi
    have li := List.mem_range.mp hi
    have a1 := List.getElem?_eq_getElem li
    have lw : i < ws.length := by omega
    have a2 := List.getElem?_eq_getElem lw
    have hw := h2 i _ _ a1 a2
    have b6 := (hn.2 _ (List.getElem_mem li)).2
    have t := g_tuple_of_ok (ds := ws[i].map PyData.int) (n := ns[i])
    have gi := g_integers_ok (w := ws[i]) (by omega)
    rw [rowD] at gi
    simp [a1, ix_map a2, rowD, t, hw, gi])]
  simp [all_true]
theorem g_results_ok {ns : List Nat} {rs : List Bool} (hn : Sz ns) (h1 : prod ns ≤ 1024) (h2 : rs.length = prod ns) : g_p_is_results [nsD ns, .tuple (rs.map PyData.bool)] = some (.bool true) := by
  rw [r_p_is_results]
  have t := g_tuple_of_ok (ds := rs.map PyData.bool) (n := prod ns)
  simp [v_p_is_results, g_is_small_ok hn, h1, g_number_ok hn, t, h2]
  rw [lcy PyData.bool (fun c => .bool true) (fun c => [.pl (nsD ns), .pl (.tuple (rs.map PyData.bool)), .pl (.bool c)]) (xs := rs) (by simp) (by simp [freeAt]) (by omega) (by simp) (by simp) (by intro c hc; simp)]
  simp [all_true]
def Frm.kids : Frm → List Frm
  | .tree _ bs => bs
  | .neg x => [x]
  | .join _ xs => xs
  | _ => []
theorem g_outside_ok {ns : List Nat} {x : Frm} (hn : Sz ns) (h : x.Ok ns) : g_p_is_form_outside [nsD ns, x.D] = some (.bool true) := by
  rw [r_p_is_form_outside]
  cases x with
  | say b => simp [v_p_is_form_outside, Frm.D, r_p_is_short_form_outside, v_p_is_short_form_outside]
  | test f vs =>
    rw [Frm.Ok] at h
    simp [v_p_is_form_outside, Frm.D, r_p_is_long_form_outside, v_p_is_long_form_outside, g_test_ok h]
  | rules rs l =>
    rw [Frm.Ok] at h
    simp [v_p_is_form_outside, Frm.D, r_p_is_long_form_outside, v_p_is_long_form_outside, g_rules_ok hn h.1 h.2]
  | card ws t =>
    rw [Frm.Ok] at h
    simp [v_p_is_form_outside, Frm.D, r_p_is_long_form_outside, v_p_is_long_form_outside, g_weights_ok hn h.1 h.2, g_is_integer_int]
  | table rs =>
    rw [Frm.Ok] at h
    simp [v_p_is_form_outside, Frm.D, r_p_is_short_form_outside, v_p_is_short_form_outside, g_results_ok hn h.1 h.2]
  | tree f bs =>
    rw [Frm.Ok] at h
    have e1 : PyData.int (ns.length : Int) = nD ns.length := rfl
    have lf : f < ns.length := (List.getElem?_eq_some_iff.mp h.1).1
    have t := g_tuple_of_ok (ds := bs.map Frm.D) (n := bs.length)
    have en : ns[f] = bs.length := (List.getElem?_eq_some_iff.mp h.1).2
    simp [v_p_is_form_outside, Frm.D, Frm.Ds_eq, r_p_is_long_form_outside, v_p_is_long_form_outside, e1, g_below_n, lf, en, t]
  | neg x => simp [v_p_is_form_outside, Frm.D, r_p_is_short_form_outside, v_p_is_short_form_outside]
  | join w xs => cases w <;> simp [v_p_is_form_outside, Frm.D, Frm.Ds_eq, Jw.str, r_p_is_short_form_outside, v_p_is_short_form_outside]
theorem g_inner_ok (x : Frm) : g_inner_forms [x.D] = some (.tuple (x.kids.map Frm.D)) := by
  rw [r_inner_forms]
  cases x with
  | join w xs => cases w <;> simp [v_inner_forms, Frm.D, Frm.Ds_eq, Frm.kids, Jw.str]
  | _ => simp [v_inner_forms, Frm.D, Frm.Ds_eq, Frm.kids]
theorem Frm.kids_ok {ns : List Nat} {x : Frm} (h : x.Ok ns) : ∀ y ∈ x.kids, y.Ok ns := by
  cases x with
  | tree f bs => rw [Frm.Ok] at h; exact Frm.Oks_iff.mp h.2
  | neg x => rw [Frm.Ok] at h; intro y hy; rw [List.mem_singleton.mp hy]; exact h
  | join w xs => rw [Frm.Ok] at h; exact Frm.Oks_iff.mp h.2
  | _ => intro y hy; cases hy
theorem Frm.sz_kids (x : Frm) : x.sz = 1 + Frm.szs x.kids := by
  cases x with
  | neg x => rw [Frm.sz, Frm.kids, Frm.szs, Frm.szs]; omega
  | _ => rw [Frm.sz, Frm.kids] <;> simp [Frm.szs]
theorem Frm.szs_append : ∀ {xs ys : List Frm}, Frm.szs (xs ++ ys) = Frm.szs xs + Frm.szs ys
  | [], ys => by rw [List.nil_append, Frm.szs]; omega
  | x :: xs, ys => by rw [List.cons_append, Frm.szs, Frm.szs, Frm.szs_append]; omega
theorem Frm.len_szs : ∀ {xs : List Frm}, xs.length ≤ Frm.szs xs
  | [] => Nat.zero_le _
  | x :: xs => by
    have := Frm.len_szs (xs := xs)
    have h2 := Frm.sz_kids x
    rw [Frm.szs, List.length_cons]
    omega
theorem g_shape_ok {ns : List Nat} {x : Frm} (hn : Sz ns) (h : x.Ok ns) (hs : x.sz ≤ 900000) : g_has_form_shape [nsD ns, x.D] = some (.bool true) := by
  rw [r_has_form_shape]
  have W : ∀ (n : Nat) (l : List Frm) (c : Cel), c.own = false → (∀ y ∈ l, y.Ok ns) → Frm.szs l < n → Frm.szs l ≤ 900000 → ∃ c', whGo (mTruO 2) (sSeq (sSet 3 (mPop 2))
      (sSeq (sIf (mNotT (mTru (mCall g_p_is_form_outside (mCons (mV 0) (mCons (mV 3) mNil))))) (sRet (M.ret (.bool false))) sNil)
      (sExt 2 (mCall g_inner_forms (mCons (mV 3) mNil))))) n [.pl (nsD ns), .pl x.D, .ow (l.map Frm.D), c] = some (.nx [.pl (nsD ns), .pl x.D, .ow [], c']) := fun n => by
    induction n with
    | zero => intro l c _ _ hl; omega
    | succ n ih =>
      intro l c hc hl hn1 hn2
      rcases List.eq_nil_or_concat l with rfl | ⟨l', y, rfl⟩
      · exact ⟨c, by rw [whGo_step (k := false) (r1 := [.pl (nsD ns), .pl x.D, .ow [], c]) (by simp)]; rfl⟩
      · have oy : y.Ok ns := hl y (by simp)
        have sy := Frm.sz_kids y
        rw [List.concat_eq_append, Frm.szs_append, Frm.szs, Frm.szs] at hn1 hn2
        have l1 := Frm.len_szs (xs := l')
        have l2 := Frm.len_szs (xs := y.kids)
        obtain ⟨c', e⟩ := ih (l' ++ y.kids) (.pl y.D) rfl (by
          intro z hz
          rcases List.mem_append.mp hz with hz | hz
          · exact hl z (by simp [hz])
          · exact Frm.kids_ok oy z hz) (by rw [Frm.szs_append]; omega) (by rw [Frm.szs_append]; omega)
        refine ⟨c', ?_⟩
        have lk : l'.length + y.kids.length ≤ 1000000 := by omega
        rw [List.map_append] at e
        rw [whGo_step (k := true) (r1 := [.pl (nsD ns), .pl x.D, .ow ((l'.concat y).map Frm.D), c]) (by simp), if_pos rfl]
        cases c with
        | un => simp [g_outside_ok hn oy, g_inner_ok, lk, e]
        | pl d => simp [g_outside_ok hn oy, g_inner_ok, lk, e]
        | ow d => cases hc
        | io d => cases hc
        | dk d => cases hc
  obtain ⟨c', e⟩ := W WH [x] .un rfl (by simpa using h) (by rw [Frm.szs, Frm.szs]; show _ < 1000000; omega) (by rw [Frm.szs, Frm.szs]; omega)
  simp only [List.map_cons, List.map_nil] at e
  simp [v_has_form_shape]
  rw [e]
  simp
theorem g_check_form_ok {ns : List Nat} {x : Frm} (hn : Sz ns) (h : x.Ok ns) (hs : x.sz ≤ 900000) : g_check_form [nsD ns, x.D] = some .none := by
  rw [r_check_form]
  simp [v_check_form, g_shape_ok hn h hs]
end DL
namespace DL
open PySem PySem.Spec PyProof.Rows L2 Lk
def allc (ns : List Nat) : List (List Nat) := cart (ns.map List.range)
def cmpB : List (Option Nat) → List Nat → Bool
  | none :: hs, _ :: cs => cmpB hs cs
  | some v :: hs, c :: cs => v == c && cmpB hs cs
  | _, _ => true
theorem flatMap_one {α : Type} {X : Nat → List α} {w n : Nat} (h : w < n) : (List.range n).flatMap (fun v => if w == v then X v else []) = X w := by
  induction n with
  | zero => omega
  | succ n ih =>
    rw [List.range_succ, List.flatMap_append, List.flatMap_cons, List.flatMap_nil, List.append_nil]
    by_cases hw : w < n
    · rw [ih hw, if_neg (by rw [beq_iff_eq]; omega), List.append_nil]
    · have : w = n := by omega
      subst this
      rw [if_pos (by rw [beq_iff_eq])]
      have z : (List.range w).flatMap (fun v => if w == v then X v else []) = [] := by
        rw [List.flatMap_eq_nil_iff]
        intro v hv
        have := List.mem_range.mp hv
        rw [if_neg (by rw [beq_iff_eq]; omega)]
      rw [z]
      rfl
theorem Half.cons {n : Nat} {ns : List Nat} {h : Option Nat} {hs : List (Option Nat)} (H : Half (n :: ns) (h :: hs)) : (∀ v, h = some v → v < n) ∧ Half ns hs :=
  ⟨fun v e => H.2 0 n v rfl (by rw [e]; rfl), by simpa using H.1, fun i m v e e' => H.2 (i + 1) m v (by simpa using e) (by simpa using e')⟩
theorem compl_filter : ∀ {ns : List Nat} {hs : List (Option Nat)}, Half ns hs → compl ns hs = (allc ns).filter (cmpB hs)
  | [], [], _ => rfl
  | n :: ns, h :: hs, H => by
    obtain ⟨h1, h2⟩ := H.cons
    have ih := compl_filter h2
    show (choice n h).flatMap (fun v => (compl ns hs).map (v :: ·)) = ((List.range n).flatMap fun v => (allc ns).map (v :: ·)).filter (cmpB (h :: hs))
    rw [List.filter_flatMap, ih]
    cases h with
    | none =>
      show (List.range n).flatMap _ = _
      congr 1
      funext v
      rw [List.filter_map]
      rfl
    | some w =>
      have := h1 w rfl
      rw [show (fun v => List.filter (cmpB (some w :: hs)) ((allc ns).map (v :: ·))) = fun v => if w == v then ((allc ns).filter (cmpB hs)).map (v :: ·) else [] by
        funext v
        rw [List.filter_map]
        have : (cmpB (some w :: hs) ∘ fun x => v :: x) = fun cs => w == v && cmpB hs cs := rfl
        rw [this]
        cases w == v with
        | true => rfl
        | false => rw [if_neg Bool.false_ne_true]; simp, flatMap_one this]
      show ([w].flatMap _) = _
      rw [List.flatMap_cons, List.flatMap_nil, List.append_nil]
  | [], _ :: _, h => by have := h.1; simp at this
  | _ :: _, [], h => by have := h.1; simp at this
theorem mem_allc : ∀ {ns c : List Nat}, c ∈ allc ns ↔ Case ns c
  | [], c => by
    show c ∈ [[]] ↔ _
    rw [List.mem_singleton]
    constructor
    · rintro rfl; exact Case.nil
    · intro h; exact List.eq_nil_of_length_eq_zero h.1
  | n :: ns, [] => by
    show _ ∈ (List.range n).flatMap (fun v => (allc ns).map (v :: ·)) ↔ _
    constructor
    · intro h
      obtain ⟨v, _, h⟩ := List.mem_flatMap.mp h
      obtain ⟨_, _, h⟩ := List.mem_map.mp h
      cases h
    · intro h
      have := h.1
      simp at this
  | n :: ns, d :: c => by
    show _ ∈ (List.range n).flatMap (fun v => (allc ns).map (v :: ·)) ↔ _
    rw [Case.cons, ← mem_allc (ns := ns)]
    constructor
    · intro h
      obtain ⟨v, hv, h⟩ := List.mem_flatMap.mp h
      obtain ⟨_, h1, h⟩ := List.mem_map.mp h
      cases h
      exact ⟨List.mem_range.mp hv, h1⟩
    · rintro ⟨h1, h2⟩
      exact List.mem_flatMap.mpr ⟨d, List.mem_range.mpr h1, List.mem_map.mpr ⟨c, h2, rfl⟩⟩
theorem cart_length : ∀ {chs : List (List Nat)}, (cart chs).length = lenP chs
  | [] => rfl
  | c :: cs => by
    show (c.flatMap fun v => (cart cs).map (v :: ·)).length = c.length * lenP cs
    rw [List.length_flatMap, ← cart_length (chs := cs)]
    induction c with
    | nil => simp
    | cons a l ih => rw [List.map_cons, List.sum_cons, ih, List.length_map, List.length_cons, Nat.succ_mul, Nat.add_comm]
theorem allc_length {ns : List Nat} : (allc ns).length = prod ns := by
  rw [allc, cart_length, lenP, List.map_map]
  congr 1
  exact (List.map_congr_left fun x _ => List.length_range).trans (List.map_id' _)
theorem compl_le {ns : List Nat} {hs : List (Option Nat)} (hn : Sz ns) (h : Half ns hs) : (compl ns hs).length ≤ prod ns := by
  unfold compl
  rw [cart_length]
  exact choices_prod (fun n hm => by have := hn.2 n hm; omega) h.1
def ans (ns : List Nat) (x : Frm) (hs : List (Option Nat)) : List Bool := (compl ns hs).map (x.ev ns)
theorem compl_case {ns c : List Nat} {hs : List (Option Nat)} (h : Half ns hs) (hc : c ∈ compl ns hs) : Case ns c := by
  rw [compl_filter h] at hc
  exact mem_allc.mp (List.mem_filter.mp hc).1
structure Ask (ns : List Nat) (x : Frm) : Prop where
  sz : Sz ns
  sm : prod ns ≤ 1024
  ok : x.Ok ns
  dp : x.dp < 60
  s : x.sz ≤ 900000
variable {ns : List Nat} {x : Frm} {hs : List (Option Nat)}
theorem g_answers_ok (A : Ask ns x) (h : Half ns hs) : g_answers_completing [nsD ns, x.D, halfD hs] = some (.list ((ans ns x hs).map PyData.bool)) := by
  rw [r_answers_completing]
  have lc := g_list_completing_ok A.sz (by have := A.sm; omega) h.1
  have hl := compl_le A.sz h
  have sm := A.sm
  simp [v_answers_completing]
  rw [lcy nsD (fun c => .bool (x.ev ns c)) (fun c => [.pl (nsD ns), .pl x.D, .pl (halfD hs), .pl (nsD c)]) (xs := compl ns hs) (by simp [lc]) (by simp [freeAt]) (by omega) (by simp) (by simp) (by
    intro c hc
    have := g_says_ok A.sz (compl_case h hc) x FU A.ok A.dp
    simp [this])]
  simp [ans, Function.comp_def]
end DL
namespace DL
open PySem PySem.Spec PyProof.Rows L2 Lk
def Bits (c : Int) : Prop := Builtin.Int.intBits c ≤ 1048576
theorem Bits.log {c : Int} (h : Bits c) : c.natAbs.log2 ≤ 1048576 := by
  unfold Bits Builtin.Int.intBits at h
  split at h
  · rename_i z
    rw [show c = 0 by simpa using z]
    decide
  · omega
theorem e_mulB {a b : Int} (h : a.natAbs.log2 + b.natAbs.log2 < 130000000) : mulM (.int a) (.int b) = some (.int (a * b)) := by
  show (if _ then _ else _) = _
  rw [if_pos h]
def drw (c : Int) (k l : Nat) : Nat := match g_law_draw_48e0b [.int c, nD k, nD l] with
  | some (.int i) => i.toNat
  | _ => 0
theorem e_pow18 : powM (.int 10) (.int 18) = some (.int 1000000000000000000) := by rfl
theorem na {a : Int} {n : Nat} (h1 : 0 ≤ a) (h2 : a ≤ n) (hn : n < 2 ^ 1000 := by decide) : a.natAbs < 2 ^ 1000 := by omega
theorem draw_ex {c : Int} {k l : Nat} (hc : Bits c) (hk : k ≤ 100000) (hl : 0 < l) : ∃ i : Int, 0 ≤ i ∧ i < l ∧ g_law_draw_48e0b [.int c, nD k, nD l] = some (.int i) := by
  rw [r_law_draw_48e0b]
  unfold nD
  have kk : (0 : Int) ≤ k ∧ (k : Int) ≤ 100000 := by omega
  have ll : (0 : Int) < l := by omega
  generalize hk' : (k : Int) = q at kk
  generalize hl' : (l : Int) = p at ll
  by_cases h : 1000000000000000000 ≤ c
  · have m1 : mulM (.int 14) (.int q) = some (.int (14 * q)) := e_mulI (by decide) (na kk.1 kk.2)
    have s1 : shrM (.int c) (.int (14 * q)) = some (.int (c / 2 ^ (14 * q).toNat)) := e_shrI (by omega)
    have o1 : modM (.int (c / 2 ^ (14 * q).toNat)) (.int 16384) = some (.int (c / 2 ^ (14 * q).toNat % 16384)) := e_modI (by decide)
    have o2 : modM (.int (c / 2 ^ (14 * q).toNat % 16384)) (.int p) = some (.int (c / 2 ^ (14 * q).toNat % 16384 % p)) := e_modI ll
    refine ⟨c / 2 ^ (14 * q).toNat % 16384 % p, Int.emod_nonneg _ (by omega), Int.emod_lt_of_pos _ ll, ?_⟩
    simp [v_law_draw_48e0b, e_pow18, h, m1, s1, o1, o2]
  · have hlg := hc.log
    have m1 : mulM (.int c) (.int 48271) = some (.int (c * 48271)) := e_mulB (by
      have : (48271 : Int).natAbs.log2 ≤ 16 := by decide
      omega)
    have m2 : mulM (.int 7919) (.int q) = some (.int (7919 * q)) := e_mulI (by decide) (na kk.1 kk.2)
    have m3 : mulM (.int (7919 * q)) (.int q) = some (.int (7919 * q * q)) := e_mulI (na (n := 791900000) (by omega) (by omega)) (na kk.1 kk.2)
    have o1 : modM (.int (c * 48271 + 7919 * q * q + 30011)) (.int 1000000007) = some (.int ((c * 48271 + 7919 * q * q + 30011) % 1000000007)) := e_modI (by decide)
    have b1 := Int.emod_nonneg (c * 48271 + 7919 * q * q + 30011) (show (1000000007 : Int) ≠ 0 by decide)
    have b2 := Int.emod_lt_of_pos (c * 48271 + 7919 * q * q + 30011) (show (0 : Int) < 1000000007 by decide)
    generalize hs : (c * 48271 + 7919 * q * q + 30011) % 1000000007 = s at o1 b1 b2
    have m4 : mulM (.int s) (.int s) = some (.int (s * s)) := e_mulI (na b1 (Int.le_of_lt b2)) (na b1 (Int.le_of_lt b2))
    have m5 : mulM (.int 60493) (.int q) = some (.int (60493 * q)) := e_mulI (by decide) (na kk.1 kk.2)
    have o2 : modM (.int (s * s + 60493 * q)) (.int 2147483629) = some (.int ((s * s + 60493 * q) % 2147483629)) := e_modI (by decide)
    have b3 := Int.emod_nonneg (s * s + 60493 * q) (show (2147483629 : Int) ≠ 0 by decide)
    have b4 := Int.emod_lt_of_pos (s * s + 60493 * q) (show (0 : Int) < 2147483629 by decide)
    generalize hf : (s * s + 60493 * q) % 2147483629 = f at o2 b3 b4
    have m6 : mulM (.int f) (.int f) = some (.int (f * f)) := e_mulI (na b3 (Int.le_of_lt b4)) (na b3 (Int.le_of_lt b4))
    have o3 : modM (.int (f * f + s)) (.int 2147483587) = some (.int ((f * f + s) % 2147483587)) := e_modI (by decide)
    have b5 := Int.emod_nonneg (f * f + s) (show (2147483587 : Int) ≠ 0 by decide)
    have b6 := Int.emod_lt_of_pos (f * f + s) (show (0 : Int) < 2147483587 by decide)
    generalize hg : (f * f + s) % 2147483587 = g at o3 b5 b6
    have m7 : mulM (.int g) (.int g) = some (.int (g * g)) := e_mulI (na b5 (Int.le_of_lt b6)) (na b5 (Int.le_of_lt b6))
    have o4 : modM (.int (g * g + f)) (.int 2147483563) = some (.int ((g * g + f) % 2147483563)) := e_modI (by decide)
    have d1 : divM (.int ((g * g + f) % 2147483563)) (.int 64) = some (.int ((g * g + f) % 2147483563 / 64)) := e_divI (by decide) (by decide)
    have o5 : modM (.int ((g * g + f) % 2147483563 / 64)) (.int p) = some (.int ((g * g + f) % 2147483563 / 64 % p)) := e_modI ll
    refine ⟨(g * g + f) % 2147483563 / 64 % p, Int.emod_nonneg _ (by omega), Int.emod_lt_of_pos _ ll, ?_⟩
    simp [v_law_draw_48e0b, e_pow18, h, m1, m2, m3, o1, m4, m5, o2, m6, o3, m7, o4, d1, o5]
theorem g_draw {c : Int} {k l : Nat} (hc : Bits c) (hk : k ≤ 100000) (hl : 0 < l) : g_law_draw_48e0b [.int c, nD k, nD l] = some (nD (drw c k l)) := by
  obtain ⟨i, h0, _, e⟩ := draw_ex hc hk hl
  unfold drw
  rw [e]
  dsimp only
  unfold nD
  rw [Int.toNat_of_nonneg h0]
theorem drw_lt {c : Int} {k l : Nat} (hc : Bits c) (hk : k ≤ 100000) (hl : 0 < l) : drw c k l < l := by
  obtain ⟨i, h0, h1, e⟩ := draw_ex hc hk hl
  unfold drw
  rw [e]
  dsimp only
  omega
end DL
namespace DL
open PySem PySem.Spec PyProof.Rows L2 Lk
variable {ns : List Nat} {c : Int}
def prodM (m : Nat) (ns : List Nat) : Nat := prod (ns.map (· + m))
theorem prod_append : ∀ {xs ys : List Nat}, prod (xs ++ ys) = prod xs * prod ys
  | [], ys => by rw [List.nil_append, prod, Nat.one_mul]
  | x :: xs, ys => by rw [List.cons_append, prod, prod, prod_append, Nat.mul_assoc]
theorem g_sizes_ok {m k : Nat} (hc : Bits c) (hm : m ≤ 1) (hk : k ≤ 100000) (hk1 : 1 ≤ k) : ∃ ns, g_law_sizes_48d55 [.int c, nD m, nD k] = some (nsD ns) ∧ Sz ns ∧ ns.length ≤ 10 ∧ prodM m ns ≤ k := by
  rw [r_law_sizes_48d55]
  have d0 : g_law_draw_48e0b [.int c, .int 12, .int 3] = some (nD (drw c 12 3)) := g_draw (k := 12) (l := 3) hc (by decide) (by decide)
  have b0 := drw_lt (k := 12) (l := 3) hc (by decide) (by decide)
  have d1 : g_law_draw_48e0b [.int c, .int 0, .int 11] = some (nD (drw c 0 11)) := g_draw (k := 0) (l := 11) hc (by decide) (by decide)
  have b1 := drw_lt (k := 0) (l := 11) hc (by decide) (by decide)
  obtain ⟨t, ht, t1⟩ : ∃ t, ixM (.tuple [.int 5, .int 2, .int 1]) (nD (drw c 12 3)) = some (nD t) ∧ 1 ≤ t ∧ t ≤ 5 := by
    have e : PyData.tuple [.int 5, .int 2, .int 1] = .tuple ([5, 2, 1].map nD) := rfl
    rw [e, e_ix_t]
    have : drw c 12 3 = 0 ∨ drw c 12 3 = 1 ∨ drw c 12 3 = 2 := by omega
    rcases this with z | z | z <;> rw [z]
    · exact ⟨5, rfl, by omega⟩
    · exact ⟨2, rfl, by omega⟩
    · exact ⟨1, rfl, by omega⟩
  obtain ⟨r2, e, ns, many, c6, c7, rfl, _, _, h1, h2, h3, h4⟩ := for_i (g := gN 6) (b := (sSeq (sSet 7 (mOp2 addM (M.ret (.int 2)) (mCall g_law_draw_48e0b (mCons (mV 0) (mCons (mOp2 addM (M.ret (.int 1)) (mV 6)) (mCons (mV 3) mNil))))))
  (sIf (mOpT leM (mOp2 mulM (mV 5) (mOp2 addM (mV 7) (mV 1))) (mV 2))
    (sSeq (sApp 4 (mV 7))
  (sSet 5 (mOp2 mulM (mV 5) (mOp2 addM (mV 7) (mV 1)))))
    sNil))) nD (fun xs r => ∃ ns many c6 c7, r = [.pl (.int c), .pl (nD m), .pl (nD k), .pl (nD t), .ow (ns.map nD), .pl (nD many), c6, c7] ∧ c6.own = false ∧ c7.own = false ∧ many = prodM m ns ∧ many ≤ k ∧ (∀ n ∈ ns, 2 ≤ n ∧ n ≤ 6) ∧ ns.length + xs.length ≤ 10 ∧ ∀ x ∈ xs, x < 10)
    (xs := List.range (drw c 0 11)) (r := [.pl (.int c), .pl (nD m), .pl (nD k), .pl (nD t), .ow [], .pl (nD 1), .un, .un])
    ⟨[], 1, .un, .un, rfl, rfl, rfl, rfl, hk1, by simp, by simp; omega, fun x hx => by have := List.mem_range.mp hx; omega⟩ (by
      rintro i xs r ⟨ns, many, c6, c7, rfl, h6, h7, hmany, hle, hns, hlen, hx⟩
      have hi := hx i (List.mem_cons_self ..)
      have dd := g_draw (k := 1 + i) (l := t) hc (by omega) (by omega)
      have db := drw_lt (k := 1 + i) (l := t) hc (by omega) (by omega)
      have mm : mulM (nD many) (nD (2 + drw c (1 + i) t + m)) = some (nD (many * (2 + drw c (1 + i) t + m))) := mul_ok (by omega) (by omega)
      have le : ∀ a b : Nat, leM (nD a) (nD b) = some (.bool (decide (a ≤ b))) := fun a b => by
        show some (PyData.bool (decide ((a : Int) ≤ b))) = _
        simp
      simp only [List.length_cons] at hlen
      by_cases q : many * (2 + drw c (1 + i) t + m) ≤ k
      · refine ⟨[.pl (.int c), .pl (nD m), .pl (nD k), .pl (nD t), .ow (ns.map nD), .pl (nD many), .pl (nD i), c7], [.pl (.int c), .pl (nD m), .pl (nD k), .pl (nD t), .ow ((ns ++ [2 + drw c (1 + i) t]).map nD), .pl (nD (many * (2 + drw c (1 + i) t + m))), .pl (nD i), .pl (nD (2 + drw c (1 + i) t))], by simp [h6], ?_, _, _, _, _, rfl, rfl, rfl, ?_, q, ?_, by simp; omega, fun x hx' => hx x (List.mem_cons_of_mem _ hx')⟩
        · have l10 : ns.length ≤ 1000000 := by omega
          cases c7 with
          | ow d => cases h7
          | io d => cases h7
          | dk d => cases h7
          | _ => simp [dd, mm, le, q, l10]
        · unfold prodM
          rw [List.map_append, prod_append, ← prodM, ← hmany]
          show _ = many * ((2 + drw c (1 + i) t + m) * 1)
          rw [Nat.mul_one]
        · intro n hn
          rcases List.mem_append.mp hn with hn | hn
          · exact hns n hn
          · rw [List.mem_singleton.mp hn]; omega
      · refine ⟨[.pl (.int c), .pl (nD m), .pl (nD k), .pl (nD t), .ow (ns.map nD), .pl (nD many), .pl (nD i), c7], [.pl (.int c), .pl (nD m), .pl (nD k), .pl (nD t), .ow (ns.map nD), .pl (nD many), .pl (nD i), .pl (nD (2 + drw c (1 + i) t))], by simp [h6], ?_, _, _, _, _, rfl, rfl, rfl, hmany, hle, hns, by omega, fun x hx' => hx x (List.mem_cons_of_mem _ hx')⟩
        cases c7 with
        | ow d => cases h7
        | io d => cases h7
        | dk d => cases h7
        | _ => simp [dd, mm, le, q])
  refine ⟨ns, ?_, ⟨by simp at h4; omega, h3⟩, by simp at h4; omega, by rw [← h1]; exact h2⟩
  have n1 : PyData.int 1 = nD 1 := rfl
  have et : tupM [.int 5, .int 2, .int 1] = some (.tuple [.int 5, .int 2, .int 1]) := rfl
  simp [v_law_sizes_48d55, d0, ht, d1, e_rng_n (drw c 0 11) (by omega)]
  rw [← n1] at e
  rw [e]
  simp
theorem g_values_ok {k n : Nat} (hc : Bits c) (hk : k ≤ 10000) (hn : n ≤ 6) : ∃ vs, g_law_values_1b941 [.int c, nD k, nD n] = some (.tuple (vs.map nD)) ∧ AscFrom 0 n vs := by
  rw [r_law_values_1b941]
  refine ⟨(List.range n).filter fun i => drw c (k + i) 2 == 1, ?_, asc_filter⟩
  simp [v_law_values_1b941]
  rw [lcm nD (fun i => drw c (k + i) 2 == 1) nD (fun i => [.pl (.int c), .pl (nD k), .pl (nD n), .pl (nD i)]) (xs := List.range n) (by simp [e_rng_n n (by omega)]) (by simp [freeAt]) (by simp; omega) (by simp) (by simp) (by
    intro i hi
    have := List.mem_range.mp hi
    have d : g_law_draw_48e0b [.int c, nD (k + i), .int 2] = some (nD (drw c (k + i) 2)) := g_draw (l := 2) hc (by omega) (by decide)
    simp [d]) (by simp)]
  simp
theorem g_conds_ok (hc : Bits c) (hn : Sz ns) : ∃ cs, g_law_conditions_05f1f [nsD ns, .int c] = some (condsD cs) ∧ CondsOk ns cs := by
  rw [r_law_conditions_05f1f]
  have l24 := hn.1
  have d0 : g_law_draw_48e0b [.int c, .int 1, .int 2] = some (nD (drw c 1 2)) := g_draw (k := 1) (l := 2) hc (by decide) (by decide)
  generalize hs : (drw c 1 2 == 1) = single
  obtain ⟨r2, e, cs, c4, c5, j, rfl, _, _, h1, h2, h3⟩ := for_i (g := gN 4) (b := (sIf (mAnd (mOpT ltM (mLenO 3) (M.ret (.int 6))) (mOpT eqM (mCall g_law_draw_48e0b (mCons (mV 1) (mCons (mOp2 addM (mOp2 mulM (M.ret (.int 7)) (mV 4)) (M.ret (.int 2))) (mCons (M.ret (.int 2)) mNil)))) (M.ret (.int 1))))
    (sSeq (sSet 5 (mCall g_law_values_1b941 (mCons (mV 1) (mCons (mOp2 addM (mOp2 mulM (M.ret (.int 7)) (mV 4)) (M.ret (.int 3))) (mCons (mOp2 ixM (mV 0) (mV 4)) mNil)))))
  (sSeq (sIf (mTru (mV 2))
    (sSet 5 (mTup (mCons (mCall g_law_draw_48e0b (mCons (mV 1) (mCons (mOp2 addM (mOp2 mulM (M.ret (.int 7)) (mV 4)) (M.ret (.int 3))) (mCons (mOp2 ixM (mV 0) (mV 4)) mNil)))) mNil)))
    sNil)
  (sApp 3 (mTup (mCons (mV 4) (mCons (mV 5) mNil))))))
    sNil)) nD (fun xs r => ∃ cs c4 c5 j, r = [.pl (nsD ns), .pl (.int c), .pl (.bool single), .ow (cs.map condD), c4, c5] ∧ c4.own = false ∧ c5.own = false ∧ xs = (List.range ns.length).drop j ∧ (cs.map Prod.fst).Pairwise (· < ·) ∧ ∀ z ∈ cs, z.1 < j ∧ TestOk ns z)
    (xs := List.range ns.length) (r := [.pl (nsD ns), .pl (.int c), .pl (.bool single), .ow [], .un, .un])
    ⟨[], .un, .un, 0, rfl, rfl, rfl, rfl, by simp, by simp⟩ (by
      rintro i xs r ⟨cs, c4, c5, j, rfl, h4, h5, hj, hp, hcs⟩
      obtain ⟨rfl, lj, hx⟩ := range_drop hj
      have mm : mulM (.int 7) (nD i) = some (nD (7 * i)) := mul_ok (a := 7) (by omega) (by omega)
      have d2 : g_law_draw_48e0b [.int c, nD (7 * i + 2), .int 2] = some (nD (drw c (7 * i + 2) 2)) := g_draw (l := 2) hc (by omega) (by decide)
      have e1 := List.getElem?_eq_getElem lj
      have b6 := hn.2 _ (List.getElem_mem lj)
      obtain ⟨vs, hv, av⟩ := g_values_ok (k := 7 * i + 3) hc (by omega) b6.2
      have d3 := g_draw (k := 7 * i + 3) (l := ns[i]) hc (by omega) (by omega)
      have b3 := drw_lt (k := 7 * i + 3) (l := ns[i]) hc (by omega) (by omega)
      have hlen : cs.length ≤ 1000000 ∨ ¬ cs.length < 6 := by omega
      by_cases q1 : cs.length < 6
      · by_cases q2 : drw c (7 * i + 2) 2 = 1
        · obtain ⟨ws, aw, ew⟩ : ∃ ws, AscFrom 0 ns[i] ws ∧ ws = if single then [drw c (7 * i + 3) ns[i]] else vs := by
            refine ⟨_, ?_, rfl⟩
            cases single
            · exact av
            · exact ⟨Nat.zero_le _, b3, trivial⟩
          refine ⟨[.pl (nsD ns), .pl (.int c), .pl (.bool single), .ow (cs.map condD), .pl (nD i), c5], [.pl (nsD ns), .pl (.int c), .pl (.bool single), .ow ((cs ++ [(i, ws)]).map condD), .pl (nD i), .pl (.tuple (ws.map nD))], by simp [h4], ?_, _, _, _, i + 1, rfl, rfl, rfl, hx, ?_, ?_⟩
          · have q1' : (cs.length : Int) < 6 := by omega
            have l6 : cs.length ≤ 1000000 := by omega
            have e1' : ns[i]? = some ns[i] := e1
            cases c5 with
            | ow d => cases h5
            | io d => cases h5
            | dk d => cases h5
            | _ => cases single <;> simp [q1', mm, d2, q2, e1, hv, d3, l6, ew, condD]
          · rw [List.map_append, List.pairwise_append]
            refine ⟨hp, by simp, ?_⟩
            intro a ha b hb
            obtain ⟨z, hz, rfl⟩ := List.mem_map.mp ha
            simp at hb
            subst hb
            exact (hcs z hz).1
          · intro z hz
            rcases List.mem_append.mp hz with hz | hz
            · have := hcs z hz
              exact ⟨by omega, this.2⟩
            · rw [List.mem_singleton.mp hz]
              exact ⟨by simp, _, e1, aw⟩
        · refine ⟨[.pl (nsD ns), .pl (.int c), .pl (.bool single), .ow (cs.map condD), .pl (nD i), c5], [.pl (nsD ns), .pl (.int c), .pl (.bool single), .ow (cs.map condD), .pl (nD i), c5], by simp [h4], ?_, _, _, _, i + 1, rfl, rfl, h5, hx, hp, fun z hz => ⟨by have := (hcs z hz).1; omega, (hcs z hz).2⟩⟩
          have q1' : (cs.length : Int) < 6 := by omega
          simp [q1', mm, d2, q2]
      · refine ⟨[.pl (nsD ns), .pl (.int c), .pl (.bool single), .ow (cs.map condD), .pl (nD i), c5], [.pl (nsD ns), .pl (.int c), .pl (.bool single), .ow (cs.map condD), .pl (nD i), c5], by simp [h4], ?_, _, _, _, i + 1, rfl, rfl, h5, hx, hp, fun z hz => ⟨by have := (hcs z hz).1; omega, (hcs z hz).2⟩⟩
        have q1' : ¬ (cs.length : Int) < 6 := by omega
        simp [q1'])
  refine ⟨cs, ?_, asc_of h2 (by
    intro a ha
    obtain ⟨z, hz, rfl⟩ := List.mem_map.mp ha
    obtain ⟨n, e, _⟩ := (h3 z hz).2
    exact ⟨Nat.zero_le _, (List.getElem?_eq_some_iff.mp e).1⟩), fun z hz => (h3 z hz).2⟩
  simp [v_law_conditions_05f1f, d0, e_rng ns.length (by omega), hs]
  rw [e]
  simp
end DL
namespace DL
open PySem PySem.Spec PyProof.Rows L2 Lk
variable {ns : List Nat} {c : Int}
theorem g_card_ok (hc : Bits c) (hn : Sz ns) : ∃ ws t, g_law_card_4ab7e [nsD ns, .int c] = some (Frm.card ws t).D ∧ (Frm.card ws t).Ok ns := by
  rw [r_law_card_4ab7e]
  have l24 := hn.1
  have d0 : g_law_draw_48e0b [.int c, .int 1, .int 3] = some (nD (drw c 1 3)) := g_draw (k := 1) (l := 3) hc (by decide) (by decide)
  have b0 := drw_lt (k := 1) (l := 3) hc (by decide) (by decide)
  have d1 : g_law_draw_48e0b [.int c, .int 2, .int 3] = some (nD (drw c 2 3)) := g_draw (k := 2) (l := 3) hc (by decide) (by decide)
  obtain ⟨t, ht, t1⟩ : ∃ t, ixM (.tuple [.int 3, .int 7, .int 101]) (nD (drw c 1 3)) = some (nD t) ∧ 1 ≤ t ∧ t ≤ 101 := by
    have e : PyData.tuple [.int 3, .int 7, .int 101] = .tuple ([3, 7, 101].map nD) := rfl
    rw [e, e_ix_t]
    have : drw c 1 3 = 0 ∨ drw c 1 3 = 1 ∨ drw c 1 3 = 2 := by omega
    rcases this with z | z | z <;> rw [z]
    · exact ⟨3, rfl, by omega⟩
    · exact ⟨7, rfl, by omega⟩
    · exact ⟨101, rfl, by omega⟩
  have hd2 : divM (nD t) (.int 2) = some (.int ((t : Int) / 2)) := e_divI (by decide) (by decide)
  obtain ⟨r2, e, ws, tot, c5, c6, j, rfl, _, _, hj, h1, h2⟩ := for_i (g := gN 5) (b := (sSeq (sSet 6 (mNew (mLc [7] (mRng1 (mCons (mOp2 ixM (mV 0) (mV 5)) mNil)) (gN 7) mYes (mOp2 subM (mCall g_law_draw_48e0b (mCons (mV 1) (mCons (mOp2 addM (mOp2 addM (mOp2 mulM (M.ret (.int 6)) (mV 5)) (mV 7)) (M.ret (.int 4))) (mCons (mV 2) mNil)))) (mOp2 divM (mV 2) (M.ret (.int 2)))))))
  (sSeq (sApp 3 (mCall tupleM (mCons (mV 6) mNil)))
  (sSet 4 (mOp2 addM (mV 4) (mOp2 ixM (mV 6) (mCall g_law_draw_48e0b (mCons (mV 1) (mCons (mOp2 addM (M.ret (.int 64)) (mV 5)) (mCons (mOp2 ixM (mV 0) (mV 5)) mNil)))))))))) nD
    (fun xs r => ∃ ws tot c5 c6 j, r = [.pl (nsD ns), .pl (.int c), .pl (nD t), .ow (ws.map rowD), .pl (.int tot), c5, c6, .un] ∧ c5.own = false ∧ c6.own = false ∧ xs = (List.range ns.length).drop j ∧ ws.length = min j ns.length ∧ ∀ (i n : Nat) (w : List Int), ns[i]? = some n → ws[i]? = some w → w.length = n)
    (xs := List.range ns.length) (r := [.pl (nsD ns), .pl (.int c), .pl (nD t), .ow [], .pl (.int ((drw c 2 3 : Nat) - 1)), .un, .un, .un])
    ⟨[], _, .un, .un, 0, rfl, rfl, rfl, rfl, by simp, by simp⟩ (by
      rintro i xs r ⟨ws, tot, c5, c6, j, rfl, h5, h6, hj, hl, hw⟩
      obtain ⟨rfl, lj, hx⟩ := range_drop hj
      have e1 := List.getElem?_eq_getElem lj
      have b6 := hn.2 _ (List.getElem_mem lj)
      have mm : mulM (.int 6) (nD i) = some (nD (6 * i)) := mul_ok (a := 6) (by omega) (by omega)
      have d3 := g_draw (k := 64 + i) (l := ns[i]) hc (by omega) (by omega)
      have b3 := drw_lt (k := 64 + i) (l := ns[i]) hc (by omega) (by omega)
      have lc := lcy (vs := [7]) (mi := mRng1 (mCons (mOp2 ixM (mV 0) (mV 5)) mNil)) (g := gN 7) (me := mOp2 subM (mCall g_law_draw_48e0b (mCons (mV 1) (mCons (mOp2 addM (mOp2 addM (mOp2 mulM (M.ret (.int 6)) (mV 5)) (mV 7)) (M.ret (.int 4))) (mCons (mV 2) mNil)))) (mOp2 divM (mV 2) (M.ret (.int 2)))) (r := [.pl (nsD ns), .pl (.int c), .pl (nD t), .ow (ws.map rowD), .pl (.int tot), .pl (nD i), c6, .un])
        nD (fun p => .int ((drw c (6 * i + p + 4) t : Nat) - (t : Int) / 2)) (fun p => [.pl (nsD ns), .pl (.int c), .pl (nD t), .ow (ws.map rowD), .pl (.int tot), .pl (nD i), c6, .pl (nD p)]) (xs := List.range ns[i]) (by simp [e1, e_rng_n ns[i] (by omega)]) (by simp [freeAt]) (by simp; omega) (by simp) (by simp) (by
          intro p hp
          have := List.mem_range.mp hp
          have dd := g_draw (k := 6 * i + p + 4) (l := t) hc (by omega) (by omega)
          have z : subM (nD (drw c (6 * i + p + 4) t)) (.int ((t : Int) / 2)) = some (.int ((drw c (6 * i + p + 4) t : Nat) - (t : Int) / 2)) := rfl
          simp [mm, dd, hd2, z])
      obtain ⟨row, hr⟩ : ∃ row : List Int, row = (List.range ns[i]).map fun p => ((drw c (6 * i + p + 4) t : Nat) - (t : Int) / 2 : Int) := ⟨_, rfl⟩
      have er : ((List.range ns[i]).map fun p => PyData.int ((drw c (6 * i + p + 4) t : Nat) - (t : Int) / 2)) = row.map PyData.int := by rw [hr, List.map_map]; rfl
      rw [er] at lc
      have lr : row.length = ns[i] := by rw [hr]; simp
      have ex : row[drw c (64 + i) ns[i]]? = some row[drw c (64 + i) ns[i]] := List.getElem?_eq_getElem (by omega)
      refine ⟨[.pl (nsD ns), .pl (.int c), .pl (nD t), .ow (ws.map rowD), .pl (.int tot), .pl (nD i), c6, .un], [.pl (nsD ns), .pl (.int c), .pl (nD t), .ow ((ws ++ [row]).map rowD), .pl (.int (tot + row[drw c (64 + i) ns[i]])), .pl (nD i), .pl (.list (row.map .int)), .un], by simp [h5], ?_, _, _, _, _, i + 1, rfl, rfl, rfl, hx, by simp [hl]; omega, ?_⟩
      · have lw : ws.length ≤ 1000000 := by omega
        have lit : PyData.tuple (row.map PyData.int) = rowD row := rfl
        have ixr : ixM (.list (row.map PyData.int)) (nD (drw c (64 + i) ns[i])) = some (.int row[drw c (64 + i) ns[i]]) := ix_mapL ex
        cases c6 with
        | ow d => cases h6
        | io d => cases h6
        | dk d => cases h6
        | _ => simp [lc, lw, lit, d3, ixr, e1, -List.map_map]
      · intro a n w ha hw'
        by_cases q : a < ws.length
        · rw [List.getElem?_append_left q] at hw'
          exact hw a n w ha hw'
        · have la : a < (ws ++ [row]).length := (List.getElem?_eq_some_iff.mp hw').1
          simp at la
          have : a = i := by omega
          subst this
          have lw : ws.length = a := by omega
          rw [← lw] at hw'
          simp at hw'
          subst hw'
          rw [e1] at ha
          cases ha
          exact lr)
  refine ⟨ws, tot, ?_, ?_⟩
  · have e0 : subM (nD (drw c 2 3)) (.int 1) = some (.int ((drw c 2 3 : Nat) - 1)) := rfl
    have et : tupM [.int 3, .int 7, .int 101] = some (.tuple [.int 3, .int 7, .int 101]) := rfl
    simp [v_law_card_4ab7e, d0, ht, d1, e0, e_rng ns.length (by omega)]
    rw [e]
    simp [Frm.D]
  · rw [Frm.Ok]
    have : ns.length ≤ j := by
      have e := congrArg List.length hj
      simp at e
      omega
    exact ⟨by omega, h2⟩
end DL
namespace DL
open PySem PySem.Spec PyProof.Rows L2 Lk
variable {ns : List Nat} {c : Int}
theorem eqv_nil : PyData.eqv (nsD ns) (.list []) = ns.isEmpty := by
  cases ns with
  | nil => simp [PyData.eqv, PyData.eqvAll]
  | cons a l => simp [PyData.eqv, PyData.eqvAll]
theorem sh_ns : SeqAt.shaped (nsD ns) = true := (Sh.list fun _ _ => Sh.n).sh
theorem sh_nil : SeqAt.shaped (.list []) = true := shaped_of rfl (by simp [PyData.depth, PyData.depthAll])
theorem e_eq_nil : eqM (nsD ns) (.list []) = some (.bool ns.isEmpty) := by rw [e_eqD sh_ns sh_nil, eqv_nil]
theorem e_ne_nil : neM (nsD ns) (.list []) = some (.bool (!ns.isEmpty)) := by rw [e_neD sh_ns sh_nil, eqv_nil]
theorem e_ne_nilI {l : List Int} : neM (isD l) (.list []) = some (.bool (!l.isEmpty)) := by
  rw [e_neD (Sh.list fun _ _ => Sh.int).sh sh_nil]
  cases l with
  | nil => simp [PyData.eqv, PyData.eqvAll]
  | cons a l => simp [PyData.eqv, PyData.eqvAll]
@[simp] theorem e_gt_l {a n : Nat} : gtM (nD a) (.int (no_index (@OfNat.ofNat Int n instOfNat))) = some (.bool (decide (n < a))) := by
  show some (PyData.bool (decide (((n : Nat) : Int) < a))) = _
  simp
theorem Frm.szs_le {n : Nat} : ∀ {xs : List Frm}, (∀ x ∈ xs, x.sz ≤ n) → Frm.szs xs ≤ xs.length * n
  | [], _ => by rw [Frm.szs]; omega
  | x :: xs, h => by
    have h1 := h x (List.mem_cons_self ..)
    have h2 := Frm.szs_le (xs := xs) fun y hy => h y (List.mem_cons_of_mem _ hy)
    rw [Frm.szs, List.length_cons, Nat.succ_mul]
    omega
theorem g_leaf_ok (hc : Bits c) (hn : Sz ns) (hp : prod ns ≤ 100000) : ∃ x : Frm, g_law_leaf_52ac9 [nsD ns, .int c] = some x.D ∧ x.Ok ns ∧ x.dp ≤ 1 ∧ x.sz ≤ 7 := by
  rw [r_law_leaf_52ac9]
  have l24 := hn.1
  have d0 : g_law_draw_48e0b [.int c, .int 90, .int 6] = some (nD (drw c 90 6)) := g_draw (k := 90) (l := 6) hc (by decide) (by decide)
  have d1 : g_law_draw_48e0b [.int c, .int 92, .int 2] = some (nD (drw c 92 2)) := g_draw (k := 92) (l := 2) hc (by decide) (by decide)
  have d2 : g_law_draw_48e0b [.int c, .int 93, .int 2] = some (nD (drw c 93 2)) := g_draw (k := 93) (l := 2) hc (by decide) (by decide)
  obtain ⟨r2, e, many, c4, rfl, h4, hm, _⟩ := for_i (g := gN 4) (b := sSet 3 (mOp2 mulM (mV 3) (mV 4))) nD
    (fun xs r => ∃ many c4, r = [.pl (nsD ns), .pl (.int c), .pl (nD (drw c 90 6)), .pl (nD many), c4, .un, .un, .un] ∧ c4.own = false ∧ many * prod xs = prod ns ∧ ∀ x ∈ xs, 2 ≤ x ∧ x ≤ 6)
    (xs := ns) (r := [.pl (nsD ns), .pl (.int c), .pl (nD (drw c 90 6)), .pl (nD 1), .un, .un, .un, .un]) ⟨1, .un, rfl, rfl, by omega, hn.2⟩ (by
      rintro i xs r ⟨many, c4, rfl, h4, hm, hx⟩
      have b := hx i (List.mem_cons_self ..)
      have pp : 0 < prod xs := prod_pos fun m hm => by have := hx m (List.mem_cons_of_mem _ hm); omega
      rw [prod, ← Nat.mul_assoc] at hm
      have a1 : many * i ≤ 100000 := Nat.le_trans (Nat.le_mul_of_pos_right _ pp) (by omega)
      have a2 : many ≤ 100000 := Nat.le_trans (Nat.le_mul_of_pos_right _ (by omega)) a1
      refine ⟨[.pl (nsD ns), .pl (.int c), .pl (nD (drw c 90 6)), .pl (nD many), .pl (nD i), .un, .un, .un], [.pl (nsD ns), .pl (.int c), .pl (nD (drw c 90 6)), .pl (nD (many * i)), .pl (nD i), .un, .un, .un], by simp [h4], by simp [mul_ok (a := many) (b := i) (by omega) (by omega)], _, _, rfl, rfl, hm, fun x hx' => hx x (List.mem_cons_of_mem _ hx')⟩)
  rw [prod, Nat.mul_one] at hm
  have n1 : PyData.int 1 = nD 1 := rfl
  rw [← n1] at e
  subst hm
  simp [v_law_leaf_52ac9, d0]
  rw [e]
  generalize drw c 90 6 = w
  by_cases w0 : w = 0 ∨ (w = 1 ∧ 128 < prod ns)
  · obtain ⟨ws, t, e2, ok⟩ := g_card_ok hc hn
    refine ⟨.card ws t, ?_, ok, by rw [Frm.dp] <;> simp, by rw [Frm.sz] <;> simp⟩
    rcases w0 with rfl | ⟨rfl, w1⟩
    · simp [e2]
    · simp [e2, w1]
  rw [not_or] at w0
  by_cases w1 : w = 1
  · subst w1
    have q : ¬ 128 < prod ns := fun h => w0.2 ⟨rfl, h⟩
    refine ⟨.table ((List.range (prod ns)).map fun a => drw c (a % 61 + 100) 2 == 1), ?_, by rw [Frm.Ok]; exact ⟨by omega, by simp⟩, by rw [Frm.dp] <;> simp, by rw [Frm.sz] <;> simp⟩
    simp [q]
    rw [lcy nD (fun a => .bool (drw c (a % 61 + 100) 2 == 1)) (fun a => [.pl (nsD ns), .pl (.int c), .pl (nD 1), .pl (nD (prod ns)), c4, .un, .un, .pl (nD a)]) (xs := List.range (prod ns)) (by simp [e_rng_n (prod ns) (by omega)]) (by simp [freeAt]) (by simp; omega) (by simp) (by simp) (by
      intro a _
      have i1 : intM [nD a] = some (nD a) := rfl
      have i2 : modM (nD a) (.int 61) = some (nD (a % 61)) := e_mod_n (b := 61) (by decide)
      have dd : g_law_draw_48e0b [.int c, nD (a % 61 + 100), .int 2] = some (nD (drw c (a % 61 + 100) 2)) := g_draw (l := 2) hc (by omega) (by decide)
      simp [i1, i2, dd])]
    simp [Frm.D]
  have w0' : ¬ w = 0 := w0.1
  by_cases w2 : w = 2
  · subst w2
    obtain ⟨cs, e2, ok⟩ := g_conds_ok hc hn
    refine ⟨.rules [(cs, drw c 92 2 == 1)] (drw c 93 2 == 1), ?_, by rw [Frm.Ok]; exact ⟨by simp, by simpa using ok⟩, by rw [Frm.dp] <;> simp, by rw [Frm.sz] <;> simp⟩
    simp [e2, d1, d2, Frm.D, ruleD]
  by_cases w3 : w = 3 ∨ ns = []
  · refine ⟨.say (drw c 92 2 == 1), ?_, by rw [Frm.Ok]; trivial, by rw [Frm.dp] <;> simp, by rw [Frm.sz] <;> simp⟩
    rcases w3 with rfl | rfl
    · simp [d1, Frm.D]
    · by_cases q3 : w = 3
      · subst q3
        simp [d1, Frm.D]
      simp [w0', w1, w2, q3, d1, Frm.D, e_eq_nil]
  rw [not_or] at w3
  have nn : ns ≠ [] := w3.2
  have ne : ns.isEmpty = false := by cases ns; exact absurd rfl nn; rfl
  have lp : 0 < ns.length := List.length_pos_iff.mpr nn
  have el : PyData.int (ns.length : Int) = nD ns.length := rfl
  have d3 := g_draw (k := 91) (l := ns.length) hc (by decide) lp
  have d3' : g_law_draw_48e0b [.int c, .int 91, nD ns.length] = some (nD (drw c 91 ns.length)) := d3
  have b3 := drw_lt (k := 91) (l := ns.length) hc (by decide) lp
  generalize drw c 91 ns.length = f at d3' b3
  have e1 := List.getElem?_eq_getElem b3
  have b6 := hn.2 _ (List.getElem_mem b3)
  by_cases w4 : w = 4
  · subst w4
    obtain ⟨vs, hv, av⟩ := g_values_ok (k := 92) (n := ns[f]) hc (by decide) b6.2
    have hv' : g_law_values_1b941 [.int c, .int 92, nD ns[f]] = some (.tuple (vs.map nD)) := hv
    refine ⟨.test f vs, ?_, by rw [Frm.Ok]; exact ⟨_, e1, av⟩, by rw [Frm.dp] <;> simp, by rw [Frm.sz] <;> simp⟩
    simp [e_eq_nil, ne, el, d3', e1, hv', Frm.D]
  refine ⟨.tree f ((List.range ns[f]).map fun p => .say (drw c (92 + p) 2 == 1)), ?_, ?_, ?_, ?_⟩
  · simp [w0', w1, w2, w3.1, w4, e_eq_nil, ne, el, d3', e1]
    rw [lcy nD (fun p => (Frm.say (drw c (92 + p) 2 == 1)).D) (fun p => [.pl (nsD ns), .pl (.int c), .pl (nD w), .pl (nD (prod ns)), c4, .pl (nD f), .pl (nD p), .un]) (xs := List.range ns[f]) (by simp [e1, e_rng_n ns[f] (by omega)]) (by simp [freeAt]) (by simp; omega) (by simp) (by simp) (by
      intro p hp
      have := List.mem_range.mp hp
      have dd : g_law_draw_48e0b [.int c, nD (92 + p), .int 2] = some (nD (drw c (92 + p) 2)) := g_draw (l := 2) hc (by omega) (by decide)
      simp [dd, Frm.D])]
    simp [Frm.D, Frm.Ds_eq, Function.comp_def]
  · rw [Frm.Ok]
    refine ⟨by rw [List.length_map, List.length_range]; exact e1, Frm.Oks_iff.mpr fun y hy => ?_⟩
    obtain ⟨p, _, rfl⟩ := List.mem_map.mp hy
    rw [Frm.Ok]
    trivial
  · rw [Frm.dp]
    have := Frm.dps_of (n := 0) (xs := (List.range ns[f]).map fun p => Frm.say (drw c (92 + p) 2 == 1)) fun y hy => by
      obtain ⟨p, _, rfl⟩ := List.mem_map.mp hy
      rw [Frm.dp] <;> simp
    omega
  · rw [Frm.sz]
    have := Frm.szs_le (n := 1) (xs := (List.range ns[f]).map fun p => Frm.say (drw c (92 + p) 2 == 1)) fun y hy => by
      obtain ⟨p, _, rfl⟩ := List.mem_map.mp hy
      rw [Frm.sz] <;> simp
    simp at this
    omega
theorem g_part_ok (hc : Bits c) (hn : Sz ns) (hp : prod ns ≤ 100000) : ∃ x : Frm, g_law_part_518aa [nsD ns, .int c] = some x.D ∧ x.Ok ns ∧ x.dp ≤ 2 ∧ x.sz ≤ 8 := by
  rw [r_law_part_518aa]
  have d0 : g_law_draw_48e0b [.int c, .int 80, .int 3] = some (nD (drw c 80 3)) := g_draw (k := 80) (l := 3) hc (by decide) (by decide)
  obtain ⟨x, e, ok, h1, h2⟩ := g_leaf_ok hc hn hp
  by_cases q : drw c 80 3 = 0
  · refine ⟨.neg x, ?_, by rw [Frm.Ok]; exact ok, by rw [Frm.dp]; omega, by rw [Frm.sz]; omega⟩
    simp [v_law_part_518aa, e, d0, q, Frm.D]
  · refine ⟨x, ?_, ok, by omega, by omega⟩
    simp [v_law_part_518aa, e, d0, q]
theorem e_cut {α : Type} {f : α → PyData} {xs : List α} {lo hi : Nat} : cutD (xs.map f) (some (lo : Int)) (some (hi : Int)) = ((xs.drop lo).take (hi - lo)).map f := by
  unfold cutD
  rw [HT.sIx_nat, HT.sIx_nat, List.map_take, List.map_drop, List.length_map]
  by_cases h : lo ≤ xs.length
  · rw [Nat.min_eq_left h]
    by_cases h2 : hi ≤ xs.length
    · rw [Nat.min_eq_left h2]
    · rw [Nat.min_eq_right (show xs.length ≤ hi by omega)]
      rw [List.take_of_length_le (by simp), List.take_of_length_le (by simp; omega)]
  · rw [Nat.min_eq_right (show xs.length ≤ lo by omega)]
    rw [List.drop_eq_nil_of_le (by simp), List.drop_eq_nil_of_le (by simp; omega)]
    simp
/-- parts, one for each cell -/
theorem parts_ok {α : Type} (hn : Sz ns) (hp : prod ns ≤ 100000) (cell : α → Int) {xs : List α} (hb : ∀ a ∈ xs, Bits (cell a)) : ∃ F : α → Frm, ∀ a ∈ xs, g_law_part_518aa [nsD ns, .int (cell a)] = some (F a).D ∧ (F a).Ok ns ∧ (F a).dp ≤ 2 ∧ (F a).sz ≤ 8 := by
  classical
  refine ⟨fun a => if h : a ∈ xs then Classical.choose (g_part_ok (hb a h) hn hp) else .say true, fun a h => ?_⟩
  dsimp only
  rw [dif_pos h]
  exact Classical.choose_spec (g_part_ok (hb a h) hn hp)
theorem listed_ok {α : Type} (hn : Sz ns) (cell : α → Int) {xs : List α} (hb : ∀ a ∈ xs, Bits (cell a)) : ∃ F : α → List Cond, ∀ a ∈ xs, g_law_conditions_05f1f [nsD ns, .int (cell a)] = some (condsD (F a)) ∧ CondsOk ns (F a) := by
  classical
  refine ⟨fun a => if h : a ∈ xs then Classical.choose (g_conds_ok (hb a h) hn) else [], fun a h => ?_⟩
  dsimp only
  rw [dif_pos h]
  exact Classical.choose_spec (g_conds_ok (hb a h) hn)
theorem Bits.zero : Bits 0 := by unfold Bits Builtin.Int.intBits; decide
theorem addL_ok {α : Type} {f : α → PyData} {xs : List α} {d : PyData} (h : xs.length + 1 ≤ 1000000) : addM (.list (xs.map f)) (.list [d]) = some (.list (xs.map f ++ [d])) := e_addL (by simpa using h)
def hd (cells : List Int) : Int := (cells ++ [0]).headD 0
theorem hd_ok {cells : List Int} : atI (cells.map PyData.int ++ [.int 0]) 0 = some (.int (hd cells)) := by
  cases cells with
  | nil => exact e_at0
  | cons a l => exact e_at0
theorem g_form_ok2 {cells : List Int} (hn : Sz ns) (hp : prod ns ≤ 100000) (hb : ∀ c ∈ cells, Bits c) (hl : cells.length ≤ 1000) : ∃ x : Frm, g_law_form_06328 [nsD ns, isD cells] = some x.D ∧ x.Ok ns ∧ x.dp ≤ 3 ∧ x.sz ≤ 60 ∧ (cells.length ≤ 3 → x.sz ≤ 17 ∨ ∃ f bs, x = .tree f bs) := by
  rw [r_law_form_06328]
  have bh : Bits (hd cells) := by
    cases cells with
    | nil => exact Bits.zero
    | cons a l => exact hb a (List.mem_cons_self ..)
  have d0 : g_law_draw_48e0b [.int (hd cells), .int 81, .int 6] = some (nD (drw (hd cells) 81 6)) := g_draw (k := 81) (l := 6) bh (by decide) (by decide)
  have b0 := drw_lt (k := 81) (l := 6) bh (by decide) (by decide)
  have d1 : g_law_draw_48e0b [.int (hd cells), .int 82, .int 2] = some (nD (drw (hd cells) 82 2)) := g_draw (k := 82) (l := 2) bh (by decide) (by decide)
  obtain ⟨rest, hr1, c1⟩ : ∃ rest, rest = (cells.drop 1).take 7 ∧ cutD (cells.map PyData.int) (some 1) (some 8) = rest.map PyData.int := ⟨_, rfl, e_cut (lo := 1) (hi := 8)⟩
  obtain ⟨more, hr2, c2⟩ : ∃ more, more = (cells.drop 1).take 12 ∧ cutD (cells.map PyData.int) (some 1) (some 13) = more.map PyData.int := ⟨_, rfl, e_cut (lo := 1) (hi := 13)⟩
  have ha : addM (.list (cells.map PyData.int)) (.list [.int 0]) = some (.list (cells.map PyData.int ++ [.int 0])) := addL_ok (by omega)
  have br : ∀ c ∈ rest, Bits c := fun c h => hb c (by rw [hr1] at h; exact List.mem_of_mem_drop (List.mem_of_mem_take h))
  have bl : ∀ c ∈ more, Bits c := fun c h => hb c (by rw [hr2] at h; exact List.mem_of_mem_drop (List.mem_of_mem_take h))
  have lr : rest.length ≤ 7 := by rw [hr1]; simp; omega
  have ll : more.length ≤ 12 := by rw [hr2]; simp; omega
  have lr2 : cells.length ≤ 3 → rest.length ≤ 2 := fun h => by rw [hr1]; simp; omega
  clear hr1 hr2
  simp [v_law_form_06328, ha, hd_ok, d0, c1]
  generalize drw (hd cells) 81 6 = w at b0
  by_cases w0 : w = 0
  · subst w0
    obtain ⟨F, hF⟩ := listed_ok hn id bl
    refine ⟨.rules (more.map fun c => (F c, drw c 0 2 == 1)) (drw (hd cells) 82 2 == 1), ?_, ?_, by rw [Frm.dp] <;> simp, by rw [Frm.sz] <;> simp, fun _ => .inl (by rw [Frm.sz] <;> simp)⟩
    · simp [c2]
      rw [lcy PyData.int (fun c => ruleD (F c, drw c 0 2 == 1)) (fun c => [.pl (nsD ns), .pl (isD cells), .pl (.int (hd cells)), .pl (nD 0), .pl (isD rest), .un, .un, .pl (.int c), .un]) (xs := more) (by simp [c2]) (by simp [freeAt]) (by omega) (by simp) (by simp) (by
        intro c hc
        have dd : g_law_draw_48e0b [.int c, .int 0, .int 2] = some (nD (drw c 0 2)) := g_draw (k := 0) (l := 2) (bl c hc) (by decide) (by decide)
        have := (hF c hc).1
        simp only [id] at this
        simp [this, dd, ruleD])]
      simp [d1, Frm.D, Function.comp_def]
    · rw [Frm.Ok]
      refine ⟨by simp; omega, fun r hr => ?_⟩
      obtain ⟨c, hc, rfl⟩ := List.mem_map.mp hr
      exact (hF c hc).2
  by_cases w4 : w < 4
  · obtain ⟨F, hF⟩ := parts_ok hn hp id br
    obtain ⟨j, hj⟩ : ∃ j : Jw, atI [PyData.str "and", .str "or", .str "odd"] ((w : Int) - 1) = some (.str j.str) := by
      have : w = 1 ∨ w = 2 ∨ w = 3 := by omega
      rcases this with rfl | rfl | rfl
      · exact ⟨.and, rfl⟩
      · exact ⟨.or, rfl⟩
      · exact ⟨.odd, rfl⟩
    have es : subM (nD w) (.int 1) = some (.int ((w : Int) - 1)) := rfl
    have jz := Frm.szs_le (n := 8) (xs := rest.map F) fun y hy => by
      obtain ⟨c, hc, rfl⟩ := List.mem_map.mp hy
      exact (hF c hc).2.2.2
    rw [List.length_map] at jz
    refine ⟨.join j (rest.map F), ?_, ?_, ?_, ?_, fun h3 => .inl (by have := lr2 h3; rw [Frm.sz]; omega)⟩
    · simp [w0, w4, es, hj]
      rw [lcy PyData.int (fun c => (F c).D) (fun c => [.pl (nsD ns), .pl (isD cells), .pl (.int (hd cells)), .pl (nD w), .pl (isD rest), .un, .un, .pl (.int c), .un]) (xs := rest) (by simp) (by simp [freeAt]) (by omega) (by simp) (by simp) (by
        intro c hc
        have := (hF c hc).1
        simp only [id] at this
        simp [this])]
      simp [Frm.D, Frm.Ds_eq, Function.comp_def]
    · rw [Frm.Ok]
      refine ⟨by simp; omega, Frm.Oks_iff.mpr fun y hy => ?_⟩
      obtain ⟨c, hc, rfl⟩ := List.mem_map.mp hy
      exact (hF c hc).2.1
    · rw [Frm.dp]
      have := Frm.dps_of (n := 2) (xs := rest.map F) fun y hy => by
        obtain ⟨c, hc, rfl⟩ := List.mem_map.mp hy
        exact (hF c hc).2.2.1
      omega
    · rw [Frm.sz]
      have := Frm.szs_le (n := 8) (xs := rest.map F) fun y hy => by
        obtain ⟨c, hc, rfl⟩ := List.mem_map.mp hy
        exact (hF c hc).2.2.2
      simp at this
      omega
  have leafcase : ∃ x : Frm, g_law_leaf_52ac9 [nsD ns, .int (hd cells)] = some x.D ∧ x.Ok ns ∧ x.dp ≤ 3 ∧ x.sz ≤ 60 ∧ (cells.length ≤ 3 → x.sz ≤ 17 ∨ ∃ f bs, x = .tree f bs) := by
    obtain ⟨x, h1, h2, h3, h4⟩ := g_leaf_ok bh hn hp
    exact ⟨x, h1, h2, by omega, by omega, fun _ => .inl (by omega)⟩
  by_cases w5 : w = 4 ∧ ns ≠ [] ∧ rest ≠ []
  · obtain ⟨rfl, nn, nr⟩ := w5
    have ne : ns.isEmpty = false := by cases ns; exact absurd rfl nn; rfl
    have nre : rest.isEmpty = false := by cases rest; exact absurd rfl nr; rfl
    have lp : 0 < ns.length := List.length_pos_iff.mpr nn
    have lrp : 0 < rest.length := List.length_pos_iff.mpr nr
    have el : PyData.int (ns.length : Int) = nD ns.length := rfl
    have d3 : g_law_draw_48e0b [.int (hd cells), .int 82, nD ns.length] = some (nD (drw (hd cells) 82 ns.length)) := g_draw (k := 82) bh (by decide) lp
    have b3 := drw_lt (k := 82) (l := ns.length) bh (by decide) lp
    generalize drw (hd cells) 82 ns.length = f at d3 b3
    have e1 := List.getElem?_eq_getElem b3
    have b6 := hn.2 _ (List.getElem_mem b3)
    obtain ⟨F, hF⟩ := parts_ok (xs := List.range ns[f]) hn hp (fun k => rest.getD (k % rest.length) 0) (fun k hk => by
      have : k % rest.length < rest.length := Nat.mod_lt _ lrp
      rw [getD_of (List.getElem?_eq_getElem this)]
      exact br _ (List.getElem_mem this))
    refine ⟨.tree f ((List.range ns[f]).map F), ?_, ?_, ?_, ?_, fun _ => .inr ⟨_, _, rfl⟩⟩
    · simp [e_ne_nil, e_ne_nilI, ne, nre, el, d3, e1]
      rw [lcy nD (fun p => (F p).D) (fun p => [.pl (nsD ns), .pl (isD cells), .pl (.int (hd cells)), .pl (nD 4), .pl (isD rest), .un, .pl (nD f), .un, .pl (nD p)]) (xs := List.range ns[f]) (by simp [e1, e_rng_n ns[f] (by omega)]) (by simp [freeAt]) (by simp; omega) (by simp) (by simp) (by
        intro p hp'
        have := (hF p hp').1
        have i1 : intM [nD p] = some (nD p) := rfl
        have er : PyData.int (rest.length : Int) = nD rest.length := rfl
        have lt : p % rest.length < rest.length := Nat.mod_lt _ lrp
        have ea := List.getElem?_eq_getElem lt
        rw [getD_of ea] at this
        simp [i1, er, e_mod_n lrp, e_ix_l, ea, this])]
      simp [Frm.D, Frm.Ds_eq, Function.comp_def]
    · rw [Frm.Ok]
      refine ⟨by rw [List.length_map, List.length_range]; exact e1, Frm.Oks_iff.mpr fun y hy => ?_⟩
      obtain ⟨p, hp', rfl⟩ := List.mem_map.mp hy
      exact (hF p hp').2.1
    · rw [Frm.dp]
      have := Frm.dps_of (n := 2) (xs := (List.range ns[f]).map F) fun y hy => by
        obtain ⟨c, hc, rfl⟩ := List.mem_map.mp hy
        exact (hF c hc).2.2.1
      omega
    · rw [Frm.sz]
      have := Frm.szs_le (n := 8) (xs := (List.range ns[f]).map F) fun y hy => by
        obtain ⟨c, hc, rfl⟩ := List.mem_map.mp hy
        exact (hF c hc).2.2.2
      simp at this
      omega
  · obtain ⟨x, h1, h2⟩ := leafcase
    refine ⟨x, ?_, h2⟩
    by_cases q4 : w = 4
    · subst q4
      by_cases nn : ns = []
      · subst nn
        simp [e_ne_nil, h1]
      · have nr : rest = [] := Classical.byContradiction fun z => w5 ⟨rfl, nn, z⟩
        subst nr
        have ne : ns.isEmpty = false := by cases ns; exact absurd rfl nn; rfl
        have z : neM (.list []) (.list []) = some (.bool false) := e_ne_nil (ns := [])
        simp [e_ne_nil, ne, z, h1]
    · simp [w0, w4, q4, h1]
theorem g_form_ok {cells : List Int} (hn : Sz ns) (hp : prod ns ≤ 100000) (hb : ∀ c ∈ cells, Bits c) (hl : cells.length ≤ 1000) : ∃ x : Frm, g_law_form_06328 [nsD ns, isD cells] = some x.D ∧ x.Ok ns ∧ x.dp ≤ 3 ∧ x.sz ≤ 60 := by
  obtain ⟨x, h1, h2, h3, h4, _⟩ := g_form_ok2 hn hp hb hl
  exact ⟨x, h1, h2, h3, h4⟩
end DL
namespace DL
open PySem PySem.Spec PyProof.Rows L2 Lk
variable {ns cs : List Nat} {c : Int}
end DL
namespace DL
open PySem PySem.Spec PyProof.Rows L2 Lk
variable {ns cs : List Nat} {c : Int} {hs : List (Option Nat)}
end DL
namespace DL
open PySem PySem.Spec PyProof.Rows L2 Lk
variable {ns cs : List Nat} {c : Int} {hs : List (Option Nat)} {x : Frm}
theorem ans_filter (h : Half ns hs) : ans ns x hs = ((allc ns).filter (cmpB hs)).map (x.ev ns) := by
  unfold ans
  rw [compl_filter h]
theorem Half.set {f n p : Nat} (h : Half ns hs) (e : ns[f]? = some n) (hp : p < n) : Half ns (hs.set f (some p)) := by
  refine ⟨by rw [List.length_set]; exact h.1, fun i m v e1 e2 => ?_⟩
  by_cases q : f = i
  · subst q
    rw [e] at e1
    cases e1
    have lf : f < hs.length := by rw [h.1]; exact (List.getElem?_eq_some_iff.mp e).1
    rw [List.getElem?_set_self lf] at e2
    cases e2
    exact hp
  · rw [List.getElem?_set_ne q] at e2
    exact h.2 i m v e1 e2
theorem g_cell_ok {l : List Int} {k : Nat} : g_law_cell_98eb9 [isD l, nD k] = some (.int (l.getD k 0)) := by
  rw [r_law_cell_98eb9]
  have el : PyData.int (l.length : Int) = nD l.length := rfl
  by_cases q : k < l.length
  · have e : l[k]? = some l[k] := List.getElem?_eq_getElem q
    simp [v_law_cell_98eb9, el, q, e_ix_l]
  · have e : l[k]? = none := List.getElem?_eq_none (by omega)
    simp [v_law_cell_98eb9, el, q, e]
theorem bits_getD {l : List Int} (h : ∀ z ∈ l, Bits z) {k : Nat} : Bits (l.getD k 0) := by
  by_cases q : k < l.length
  · rw [getD_of (List.getElem?_eq_getElem q)]
    exact h _ (List.getElem_mem q)
  · rw [List.getD_eq_getElem?_getD, List.getElem?_eq_none (by omega)]
    exact Bits.zero
def Cel.isIo : Cel → Bool
  | .io _ => true
  | _ => false
@[simp] theorem io_pl {d : PyData} : (Cel.pl d).isIo = false := rfl
@[simp] theorem io_un : Cel.un.isIo = false := rfl
end DL
namespace DL
open PySem PySem.Spec PyProof.Rows L2 Lk
variable {ns cs : List Nat} {c : Int} {hs : List (Option Nat)} {x y : Frm}
theorem flatMap_at {α : Type} {f : Nat → List α} {L : Nat} : ∀ {n i j : Nat}, (∀ v, v < n → (f v).length = L) → i < n → j < L → ((List.range n).flatMap f)[i * L + j]? = (f i)[j]?
  | 0, _, _, _, hi, _ => by omega
  | n + 1, i, j, h, hi, hj => by
    rw [List.range_succ, List.flatMap_append, List.flatMap_cons, List.flatMap_nil, List.append_nil]
    have len : ((List.range n).flatMap f).length = n * L := by
      have : ∀ m, m ≤ n → ((List.range m).flatMap f).length = m * L := fun m => by
        induction m with
        | zero => intro _; simp
        | succ m ih =>
          intro hm
          rw [List.range_succ, List.flatMap_append, List.length_append, ih (by omega), List.flatMap_cons, List.flatMap_nil, List.append_nil, h m (by omega), Nat.succ_mul]
      exact this n (Nat.le_refl _)
    by_cases q : i < n
    · have : i * L + j < n * L := by
        have : (i + 1) * L ≤ n * L := Nat.mul_le_mul_right _ q
        rw [Nat.succ_mul] at this
        omega
      rw [List.getElem?_append_left (by rw [len]; exact this)]
      exact flatMap_at (fun v hv => h v (by omega)) q hj
    · have e : i = n := by omega
      subst e
      rw [List.getElem?_append_right (by rw [len]; omega), len]
      congr 1
      omega
def anss (ns : List Nat) (x : Frm) : List Bool := (allc ns).map (x.ev ns)
theorem anss_len : (anss ns x).length = prod ns := by rw [anss, List.length_map, allc_length]
theorem half_none : Half ns (List.replicate ns.length none) := ⟨by simp, fun i n v _ e => by
  rw [List.getElem?_replicate] at e
  split at e <;> cases e⟩
theorem cmp_none : ∀ {k : Nat} {cs : List Nat}, cmpB (List.replicate k none) cs = true
  | 0, _ => rfl
  | k + 1, [] => rfl
  | k + 1, c :: cs => by
    show cmpB (List.replicate k none) cs = true
    exact cmp_none
theorem ans_none : ans ns x (List.replicate ns.length none) = anss ns x := by
  rw [ans_filter half_none, anss]
  congr 1
  exact List.filter_eq_self.mpr fun a _ => cmp_none
theorem e_rep_none (n : Nat) (h : n ≤ 1000000) : repM [.none] (nD n) = some ((List.replicate n none).map oD) := by
  show (if _ then _ else _) = _
  have e : (n : Int).natAbs = n := by omega
  have e2 : (n : Int).toNat = n := by omega
  rw [if_pos (by rw [e, e2]; exact ⟨h, by simpa using h⟩)]
  rw [e2, List.map_replicate]
  congr 1
  induction n with
  | zero => rfl
  | succ n ih => rw [List.replicate_succ, List.flatten_cons, ih (by omega) (by omega) (by omega), List.replicate_succ]; rfl
theorem g_all_answers_ok (A : Ask ns x) : g_all_answers [nsD ns, x.D] = some (.list ((anss ns x).map PyData.bool)) := by
  rw [r_all_answers]
  have l24 := A.sz.1
  have el : PyData.int (ns.length : Int) = nD ns.length := rfl
  have ga := g_answers_ok A (half_none (ns := ns))
  rw [ans_none] at ga
  have er := e_rep_none ns.length (by omega)
  simp only [v_all_answers, s_ret, s_bind, e_call, e_bind, e_cons, e_V, List.getElem?_cons_zero, List.getElem?_cons_succ, e_nil, e_ret, e_lift_some, e_new, e_rep, e_lst, e_lst1, e_lenL, List.length_map, el, er, ga, o_rt]
end DL
namespace DL
open PySem PySem.Spec PyProof.Rows L2 Lk
variable {ns cs : List Nat} {c : Int} {hs : List (Option Nat)} {x y : Frm}
abbrev bsD (bs : List Bool) : PyData := .list (bs.map PyData.bool)
end DL
namespace DL
open PySem PySem.Spec PyProof.Rows L2 Lk
theorem e_cut0 {α : Type} {f : α → PyData} {xs : List α} {hi : Nat} : cutD (xs.map f) none (some (hi : Int)) = (xs.take hi).map f := by
  unfold cutD
  rw [HT.sIx_nat, HT.sIx_none, List.drop_zero, List.map_take, Nat.sub_zero, List.length_map]
  by_cases q : hi ≤ xs.length
  · rw [Nat.min_eq_left q]
  · rw [Nat.min_eq_right (by omega), List.take_of_length_le (by simp), List.take_of_length_le (by simp; omega)]
end DL
namespace DL
open PySem PySem.Spec PyProof.Rows L2 Lk
section
variable {r : En} {m : M (List PyData)} {mq : M PQ} {md : M PyData} {i : Nat} {z : PyData} {ds bs : List PyData}
@[simp] theorem e_callQ {g : List PyData → Option PQ} : mCallQ g m r = M.bind m (fun ds => M.lift (g ds)) r := rfl
@[simp] theorem s_setQ : sSetQ i mq r = sBind mq (fun z => match z with
  | .inl d => sPut i d
  | .inr ds => sPutO i ds) r := rfl
@[simp] theorem s_retF : sRetF m r = sBind m (fun ds r => some (.rf ds r)) r := rfl
@[simp] theorem s_retQ : sRetQ mq r = sBind mq (fun z r => match z with
  | .inl d => some (.rt d r)
  | .inr ds => some (.rf ds r)) r := rfl
@[simp] theorem s_retO : sRetO i r = (match r[i]? with
  | some (.ow ds) => some (.rf ds r)
  | _ => none) := rfl
@[simp] theorem q_rt : outQ (some (.rt z r)) = some (.inl z) := rfl
@[simp] theorem q_nx : outQ (some (.nx r)) = some (.inl .none) := rfl
@[simp] theorem q_rf : outQ (some (.rf ds r)) = some (.inr ds) := rfl
@[simp] theorem m_rt : outM (some (.rt z r)) = (ioAt r).map fun bs => (z, bs) := rfl
@[simp] theorem m_nx : outM (some (.nx r)) = (ioAt r).map fun bs => (.none, bs) := rfl
@[simp] theorem m_io : ioAt (.io bs :: r) = some bs := rfl
@[simp] theorem e_bits : mBits md r = M.bind md (fun d => M.lift ((asInt d).map fun i => .int (Builtin.Int.intBits i : Nat))) r := rfl
@[simp] theorem e_callM {g : List PyData → List PyData → Option (PyData × List PyData)} : mCallM i m g r = if (ownOf r[i]?).isSome then (m.bind fun ds r => match ownOf r[i]? with
  | some bs => (g bs ds).map fun z => .ok z.1 (upO i z.2 r)
  | none => none) r else none := rfl
@[simp] theorem e_peek {mt : M Bool} : mPeek mt r = if r.all noIo then (match mt (fz r) with
  | some (.ok b _) => some (.ok b r)
  | some (.ex c p) => some (.ex c p)
  | none => none) else none := rfl
@[simp] theorem e_peekV {md : M PyData} : mPeekV md r = if r.all noIo then (match md (fz r) with
  | some (.ok d _) => if atomD d then some (.ok d r) else none
  | some (.ex c p) => some (.ex c p)
  | none => none) else none := rfl
@[simp] theorem e_peekF {m : M (List PyData)} : mPeekF m r = if r.all noIo then (match m (fz r) with
  | some (.ok ds _) => if ds.all atomD then some (.ok ds r) else none
  | some (.ex c p) => some (.ex c p)
  | none => none) else none := rfl
@[simp] theorem e_callX {g : List PyData → Option PX} : mCallX g m r = M.bind m (fun ds r => match g ds with
  | some (.inl z) => some (.ok z r)
  | some (.inr c) => some (.ex c [])
  | none => none) r := rfl
@[simp] theorem s_raise {c : Str} : sRaise c r = some (.ex c []) := rfl
@[simp] theorem x_rt : outX (some (.rt z r)) = some (.inl z) := rfl
@[simp] theorem x_nx : outX (some (.nx r)) = some (.inl .none) := rfl
@[simp] theorem x_ex {c : Str} : outX (some (.ex c [])) = some (.inr c) := rfl
@[simp] theorem s_okNx {d : PyData} : okNx d r = some (.nx r) := rfl
@[simp] theorem s_try {L : List Str} {g : List PyData → Option PX} {hs : List (Str × SM)} {ok : PyData → SM} : sTry L g m hs ok r = (match m r with
  | some (.ok ds r') => match g ds with
    | some (.inl z) => ok z r'
    | some (.inr c) => if L.contains c then (match pick c hs with
      | some sv => sv r'
      | none => none) else none
    | none => none
  | _ => none) := rfl
end
def fzC : Cel → Cel
  | .ow ds => .pl (.list ds)
  | c => c
theorem fzTo_at {r : En} : ∀ {n j : Nat}, (fzTo n r)[j]? = if j < n then r[j]?.map fzC else r[j]?
  | 0, j => by simp [fzTo]
  | n + 1, j => by
    have ih := @fzTo_at r n
    have hn := ih (j := n)
    rw [if_neg (by omega)] at hn
    have len : ∀ m, (fzTo m r).length = r.length := fun m => by
      induction m with
      | zero => rfl
      | succ m im =>
        rw [fzTo]
        split
        · rw [List.length_set]; exact im
        · exact im
    rw [fzTo]
    by_cases hj : j = n
    · subst hj
      rw [if_pos (by omega)]
      split
      · rename_i ds e
        rw [hn] at e
        rw [List.getElem?_set_self (by rw [len]; exact (List.getElem?_eq_some_iff.mp e).1), e]
        rfl
      · rename_i e
        rw [hn]
        cases h : r[j]? with
        | none => rfl
        | some c =>
          cases c with
          | ow ds => exact (e ds (hn.trans h)).elim
          | _ => rfl
    · have q : (fzTo n r)[j]? = if j < n + 1 then r[j]?.map fzC else r[j]? := by
        rw [ih]
        by_cases h : j < n
        · rw [if_pos h, if_pos (by omega)]
        · rw [if_neg h, if_neg (by omega)]
      split
      · rw [List.getElem?_set_ne (Ne.symm hj)]
        exact q
      · exact q
theorem fz_map {r : En} : fz r = r.map fzC := List.ext_getElem? fun j => by
  unfold fz
  rw [fzTo_at, List.getElem?_map]
  split
  · rfl
  · rename_i h
    rw [List.getElem?_eq_none (by omega)]
    rfl
@[simp] theorem fz_nil : fz [] = [] := rfl
@[simp] theorem fz_cons {c : Cel} {r : En} : fz (c :: r) = fzC c :: fz r := by rw [fz_map, fz_map]; rfl
@[simp] theorem fzC_ow {ds : List PyData} : fzC (.ow ds) = .pl (.list ds) := rfl
@[simp] theorem fzC_pl {d : PyData} : fzC (.pl d) = .pl d := rfl
@[simp] theorem fzC_un : fzC .un = .un := rfl
@[simp] theorem noIo_ow {ds : List PyData} : noIo (.ow ds) = true := rfl
@[simp] theorem noIo_pl {d : PyData} : noIo (.pl d) = true := rfl
@[simp] theorem noIo_un : noIo .un = true := rfl
@[simp] theorem atom_int {i : Int} : atomD (.int i) = true := rfl
@[simp] theorem atom_bool {i : Bool} : atomD (.bool i) = true := rfl
@[simp] theorem atom_none : atomD .none = true := rfl
@[simp] theorem atom_str {s : Str} : atomD (.str s) = true := rfl
end DL
namespace DL
open PySem PySem.Spec PyProof.Rows L2 Lk
variable {ns cs : List Nat} {c : Int} {x : Frm}
inductive TreeF : Frm → Prop
  | say (b : Bool) : TreeF (.say b)
  | tree (f : Nat) (bs : List Frm) : (∀ b ∈ bs, TreeF b) → TreeF (.tree f bs)
theorem eqv_list {p : Frm → Prop} : ∀ {bs cs : List Frm}, (∀ b ∈ bs, ∀ u, p u → PyData.eqv b.D u.D = true → b = u) → (∀ c ∈ cs, p c) → PyData.eqvAll (bs.map Frm.D) (cs.map Frm.D) = true → bs = cs
  | [], [], _, _, _ => rfl
  | [], _ :: _, _, _, h => by simp [PyData.eqvAll] at h
  | _ :: _, [], _, _, h => by simp [PyData.eqvAll] at h
  | b :: bs, c :: cs, hb, hc, h => by
    rw [List.map_cons, List.map_cons, PyData.eqvAll, Bool.and_eq_true] at h
    rw [hb b (List.mem_cons_self ..) c (hc c (List.mem_cons_self ..)) h.1, eqv_list (fun b' h' => hb b' (List.mem_cons_of_mem _ h')) (fun c' h' => hc c' (List.mem_cons_of_mem _ h')) h.2]
theorem TreeF.eqv {t : Frm} (h : TreeF t) : ∀ u, TreeF u → PyData.eqv t.D u.D = true → t = u := by
  induction h with
  | say b =>
    intro u hu e
    cases hu with
    | say c =>
      rw [Frm.D, Frm.D, PyData.eqv, PyData.eqvAll, PyData.eqvAll, PyData.eqvAll, PyData.eqv, PyData.eqv] at e
      simp at e
      rw [e]
    | tree g cs hc =>
      rw [Frm.D, Frm.D, PyData.eqv, PyData.eqvAll, PyData.eqvAll, PyData.eqvAll] at e
      simp at e
  | tree f bs hb ih =>
    intro u hu e
    cases hu with
    | say c =>
      rw [Frm.D, Frm.D, PyData.eqv, PyData.eqvAll, PyData.eqvAll, PyData.eqvAll] at e
      simp at e
    | tree g cs hc =>
      rw [Frm.D, Frm.D, PyData.eqv, PyData.eqvAll, PyData.eqvAll, PyData.eqvAll, PyData.eqvAll, Frm.Ds_eq, Frm.Ds_eq, eqv_n, PyData.eqv, PyData.eqv] at e
      simp only [Bool.and_eq_true, beq_iff_eq] at e
      rw [e.2.1, eqv_list (p := TreeF) ih hc e.2.2.1]
theorem Sh.mono {n m : Nat} {d : PyData} (h : Sh n d) (hn : n ≤ m) : Sh m d := ⟨h.1, Nat.le_trans h.2 hn⟩
theorem Sh.strS {a : Str} (h : PyData.strOk a = true) : Sh 0 (.str a) := ⟨by rw [PyData.canLay0]; exact h, by rw [PyData.depth]; omega⟩
theorem Sh.tup' {ds : List PyData} {n : Nat} (h : ∀ d ∈ ds, Sh n d) : Sh (n + 1) (.tuple ds) := by
  have := Sh.tup (f := id) (xs := ds) (n := n) h
  rwa [List.map_id] at this
theorem TreeF.sh {t : Frm} (h : TreeF t) : Sh (2 * t.dp + 1) t.D := by
  induction h with
  | say b =>
    rw [Frm.D, Frm.dp] <;> try simp
    refine Sh.tup' (n := 0) fun d hd => ?_
    simp only [List.mem_cons, List.not_mem_nil, or_false] at hd
    rcases hd with rfl | rfl
    · exact Sh.strS (by decide +kernel)
    · exact Sh.bool
  | tree f bs hb ih =>
    rw [Frm.D, Frm.dp, Frm.Ds_eq]
    have : 2 * (1 + Frm.dps bs) + 1 = (2 * Frm.dps bs + 1 + 1) + 1 := by omega
    rw [this]
    refine Sh.tup' fun d hd => ?_
    simp only [List.mem_cons, List.not_mem_nil, or_false] at hd
    rcases hd with rfl | rfl | rfl
    · exact (Sh.strS (by decide +kernel)).mono (by omega)
    · exact Sh.n.mono (by omega)
    · refine Sh.tup fun b hb' => (ih b hb').mono ?_
      have := Frm.dps_le hb'
      omega
@[simp] theorem e_cntT {i : Nat} {m : M (List PyData)} {r : En} : mCntT i m r = M.bind (mV i) (fun d => m.bind fun ds => M.lift (countT d ds)) r := rfl
@[simp] theorem e_tested {g : List PyData → Option PyData} {ma mb : M PyData} {r : En} : mTested g ma mb r = M.bind ma (fun d => mb.bind fun l => M.lift ((tupL l).bind fun t => g [d, t])) r := rfl
@[simp] theorem e_tupL {ds : List PyData} : tupL (.list ds) = some (.tuple ds) := rfl
structure Lev (ns : List Nat) (x : Frm) (j : Nat) (T : List Frm) : Prop where
  len : T.length = prod (ns.take j)
  ok : ∀ t ∈ T, TreeF t ∧ t.Ok ns ∧ t.dp ≤ ns.length - j ∧ t.sz + 1 ≤ 2 * prod (ns.drop j)
  ev : ∀ a t, Case ns a → T[plc 0 (ns.take j) (a.take j)]? = some t → t.ev ns a = x.ev ns a
theorem prod_app : ∀ {xs ys : List Nat}, prod (xs ++ ys) = prod xs * prod ys
  | [], ys => by rw [List.nil_append, prod, Nat.one_mul]
  | x :: xs, ys => by rw [List.cons_append, prod, prod, prod_app, Nat.mul_assoc]
theorem e_rng3 {k n : Nat} (hn : 0 < n) (hk : k * n ≤ 100000) (hn2 : n ≤ 100000) : rng3M [.int 0, nD (k * n), nD n] = some ((List.range k).map fun i => nD (i * n)) := by
  have rs : Builtin.Range.rangeSize 0 ((k * n : Nat) : Int) (n : Int) = k := by
    unfold Builtin.Range.rangeSize
    rw [if_pos (by omega)]
    by_cases z : k = 0
    · subst z
      simp
    · have hp : 0 < k * n := Nat.mul_pos (by omega) hn
      rw [if_pos (by omega)]
      have e : ((k * n : Nat) : Int) - 0 - 1 = ((k * n - 1 : Nat) : Int) := by omega
      have e2 : (k * n - 1) / n = k - 1 := by
        have h1 : k * n - 1 = n * (k - 1) + (n - 1) := by
          obtain ⟨k', rfl⟩ : ∃ k', k = k' + 1 := ⟨k - 1, by omega⟩
          rw [Nat.add_sub_cancel, Nat.succ_mul, Nat.mul_comm n k']
          omega
        rw [h1, Nat.mul_add_div hn, Nat.div_eq_of_lt (by omega), Nat.add_zero]
      rw [e]
      have e3 : ((k * n - 1 : Nat) : Int) / (n : Int) = (((k * n - 1) / n : Nat) : Int) := by omega
      rw [e3, e2]
      omega
  have sm : Builtin.Range.small 0 ((k * n : Nat) : Int) (n : Int) = true := by
    unfold Builtin.Range.small
    rw [rs]
    have fl : ∀ z : Int, -1000000 ≤ z → z ≤ 1000000 → Builtin.Range.rangeFitsLong z = true := fun z h1 h2 => by
      unfold Builtin.Range.rangeFitsLong
      simp
      omega
    have kb : k ≤ k * n := Nat.le_mul_of_pos_right _ hn
    rw [fl 0 (by omega) (by omega), fl _ (by omega) (by omega), fl _ (by omega) (by omega), fl _ (by omega) (by omega), if_pos (by omega), fl _ (by omega) (by omega)]
    simp
  show (if (n : Int) ≠ 0 ∧ (n : Int).natAbs < 1000000 ∧ Builtin.Range.small 0 ((k * n : Nat) : Int) (n : Int) = true ∧ 0 ≤ Builtin.Range.rangeSize 0 ((k * n : Nat) : Int) (n : Int) then _ else _) = _
  rw [rs, sm, if_pos (by refine ⟨by omega, by omega, rfl, by omega⟩)]
  unfold rngC
  rw [Int.toNat_natCast]
  refine congrArg some (List.map_congr_left fun i _ => ?_)
  show PyData.int (0 + (i : Int) * (n : Int)) = PyData.int ((i * n : Nat) : Int)
  rw [Int.zero_add]
  congr 1
end DL
namespace DL
open PySem PySem.Spec PyProof.Rows L2 Lk
abbrev Hf := List (Option Nat)
/-- the pairs (field, value) of a half case whose first field is f -/
def rlp : Nat → Hf → List (Nat × Nat)
  | _, [] => []
  | f, none :: h => rlp (f + 1) h
  | f, some v :: h => (f, v) :: rlp (f + 1) h
def prD (p : Nat × Nat) : PyData := .tuple [nD p.1, nD p.2]
def rlD (f : Nat) (h : Hf) : PyData := .tuple ((rlp f h).map prD)
def prK (p : Nat × Nat) : NestedKey := .tup [.num p.1, .num p.2]
def rlK (f : Nat) (h : Hf) : NestedKey := .tup ((rlp f h).map prK)
theorem rlp_ge : ∀ {h : Hf} {f : Nat} {p : Nat × Nat}, p ∈ rlp f h → f ≤ p.1
  | [], f, p, e => by cases e
  | none :: h, f, p, e => by
    have := rlp_ge (h := h) e
    omega
  | some v :: h, f, p, e => by
    rw [rlp] at e
    rcases List.mem_cons.mp e with e | e
    · rw [e]; exact Nat.le_refl _
    · have := rlp_ge e
      omega
theorem rlp_inj : ∀ {h g : Hf} {f : Nat}, h.length = g.length → rlp f h = rlp f g → h = g
  | [], [], _, _, _ => rfl
  | [], _ :: _, _, l, _ => by simp at l
  | _ :: _, [], _, l, _ => by simp at l
  | none :: h, none :: g, f, l, e => by rw [rlp_inj (h := h) (g := g) (f := f + 1) (by simpa using l) e]
  | none :: h, some v :: g, f, l, e => by
    have e : rlp (f + 1) h = (f, v) :: rlp (f + 1) g := e
    have := rlp_ge (h := h) (f := f + 1) (p := (f, v)) (by rw [e]; exact List.mem_cons_self)
    exact absurd this (by simp)
  | some v :: h, none :: g, f, l, e => by
    have e : (f, v) :: rlp (f + 1) h = rlp (f + 1) g := e
    have := rlp_ge (h := g) (f := f + 1) (p := (f, v)) (by rw [← e]; exact List.mem_cons_self)
    exact absurd this (by simp)
  | some v :: h, some w :: g, f, l, e => by
    have e : (f, v) :: rlp (f + 1) h = (f, w) :: rlp (f + 1) g := e
    obtain ⟨e1, e2⟩ := List.cons.inj e
    cases e1
    rw [rlp_inj (by simpa using l) e2]
theorem keyNs_prs : ∀ (l : List (Nat × Nat)), keyNs (l.map prD) = some (l.map prK)
  | [] => by rw [List.map_nil, keyNs]; rfl
  | p :: l => by
    have e : keyN (prD p) = some (prK p) := by
      unfold prD prK nD
      rw [keyN, keyNs, keyN, keyNs, keyN, keyNs]
      rfl
    rw [List.map_cons, keyNs, e, keyNs_prs l]
    rfl
theorem keyN_rl {f : Nat} {h : Hf} : keyN (rlD f h) = some (rlK f h) := by
  unfold rlD rlK
  rw [keyN, keyNs_prs]
  rfl
theorem depthAll_pr : ∀ (l : List (Nat × Nat)), NestedKey.depthAll (l.map prK) ≤ 1
  | [] => by rw [List.map_nil, NestedKey.depthAll]; omega
  | p :: l => by
    have := depthAll_pr l
    have e : (prK p).depth = 1 := by
      unfold prK
      rw [NestedKey.depth, NestedKey.depthAll, NestedKey.depthAll, NestedKey.depthAll, NestedKey.depth, NestedKey.depth]
      rfl
    rw [List.map_cons, NestedKey.depthAll, e]
    omega
theorem depth_rl {f : Nat} {h : Hf} : (rlK f h).depth ≤ 8 := by
  unfold rlK
  rw [NestedKey.depth]
  have := depthAll_pr (rlp f h)
  omega
theorem keyT_rl {f : Nat} {h : Hf} : keyT (rlD f h) = some (rlK f h) := by
  have e := keyN_rl (f := f) (h := h)
  unfold keyT
  rw [e]
  show (if isTupD (rlD f h) = true then Option.bind (some (rlK f h)) (fun k => if k.depth ≤ 8 then some k else none) else none) = _
  rw [if_pos (show isTupD (rlD f h) = true from rfl), Option.bind_some, if_pos depth_rl]
theorem prK_inj {p q : Nat × Nat} (h : prK p = prK q) : p = q := by
  unfold prK at h
  injection h with h
  injection h with h1 h2
  injection h2 with h2 _
  injection h1 with h1
  injection h2 with h2
  refine Prod.ext ?_ ?_
  · exact Int.ofNat.inj h1
  · exact Int.ofNat.inj h2
theorem map_prK_inj : ∀ {l m : List (Nat × Nat)}, l.map prK = m.map prK → l = m
  | [], [], _ => rfl
  | [], _ :: _, h => by simp at h
  | _ :: _, [], h => by simp at h
  | p :: l, q :: m, h => by
    rw [List.map_cons, List.map_cons] at h
    obtain ⟨h1, h2⟩ := List.cons.inj h
    rw [prK_inj h1, map_prK_inj h2]
theorem rlK_inj {f : Nat} {h g : Hf} (hl : h.length = g.length) (e : rlK f h = rlK f g) : h = g := by
  unfold rlK at e
  injection e with e
  exact rlp_inj hl (map_prK_inj e)
theorem keyNs_rls {f : Nat} : ∀ (L : List Hf), keyNs (L.map (rlD f)) = some (L.map (rlK f))
  | [] => by rw [List.map_nil, keyNs]; rfl
  | h :: L => by
    rw [List.map_cons, keyNs, keyN_rl, keyNs_rls L]
    rfl
theorem dkNs_rls {f : Nat} (L : List Hf) : dkNs (L.map (rlD f)) = some (L.map (rlK f)) := by
  unfold dkNs
  rw [keyNs_rls, Option.bind_some, if_pos (by
    rw [List.all_map, List.all_eq_true]
    intro h _
    exact decide_eq_true depth_rl)]
theorem mem_rls {f n : Nat} {L : List Hf} {h : Hf} (hL : ∀ g ∈ L, g.length = n) (hh : h.length = n) : rlK f h ∈ L.map (rlK f) ↔ h ∈ L := by
  constructor
  · intro e
    obtain ⟨g, hg, e⟩ := List.mem_map.mp e
    rw [← rlK_inj (by rw [hL g hg, hh]) e]
    exact hg
  · intro e
    exact List.mem_map.mpr ⟨h, e, rfl⟩
/-- each once -/
def ddp : List Hf → List Hf → List Hf
  | acc, [] => acc
  | acc, h :: L => if h ∈ acc then ddp acc L else ddp (acc ++ [h]) L
theorem mem_ddp : ∀ {L acc : List Hf} {h : Hf}, h ∈ ddp acc L ↔ h ∈ acc ∨ h ∈ L
  | [], acc, h => by simp [ddp]
  | g :: L, acc, h => by
    rw [ddp]
    split
    · rename_i hg
      rw [mem_ddp, List.mem_cons]
      constructor
      · rintro (e | e)
        · exact .inl e
        · exact .inr (.inr e)
      · rintro (e | e | e)
        · exact .inl e
        · rw [e]; exact .inl hg
        · exact .inr e
    · rw [mem_ddp, List.mem_cons, List.mem_append, List.mem_singleton]
      constructor
      · rintro ((e | e) | e)
        · exact .inl e
        · exact .inr (.inl e)
        · exact .inr (.inr e)
      · rintro (e | e | e)
        · exact .inl (.inl e)
        · exact .inl (.inr e)
        · exact .inr e
theorem dkGo_rls {f n : Nat} : ∀ {L acc : List Hf}, (∀ g ∈ acc, g.length = n) → (∀ g ∈ L, g.length = n) → dkGo (acc.map (rlD f)) (L.map (rlD f)) = some ((ddp acc L).map (rlD f))
  | [], acc, _, _ => rfl
  | h :: L, acc, ha, hL => by
    have hh := hL h List.mem_cons_self
    have ad : dkAdd (acc.map (rlD f)) (rlD f h) = some ((if h ∈ acc then acc else acc ++ [h]).map (rlD f)) := by
      unfold dkAdd
      rw [keyT_rl, Option.bind_some, keyNs_rls, Option.map_some]
      by_cases hm : h ∈ acc
      · rw [if_pos ((mem_rls ha hh).mpr hm), if_pos hm]
      · rw [if_neg (fun z => hm ((mem_rls ha hh).mp z)), if_neg hm, List.map_append]
        rfl
    rw [List.map_cons, dkGo, ad, Option.bind_some, ddp]
    by_cases hm : h ∈ acc
    · rw [if_pos hm, if_pos hm]
      exact dkGo_rls ha fun g hg => hL g (List.mem_cons_of_mem _ hg)
    · rw [if_neg hm, if_neg hm]
      refine dkGo_rls (fun g hg => ?_) fun g hg => hL g (List.mem_cons_of_mem _ hg)
      rcases List.mem_append.mp hg with hg | hg
      · exact ha g hg
      · rw [List.mem_singleton.mp hg]; exact hh
theorem inDk_rl {f n : Nat} {L : List Hf} {h : Hf} (hL : ∀ g ∈ L, g.length = n) (hh : h.length = n) : inDkM true (L.map (rlD f)) (rlD f h) = some (.bool (!decide (h ∈ L))) := by
  unfold inDkM
  rw [keyT_rl, Option.bind_some, dkNs_rls, Option.map_some, if_pos rfl]
  congr 3
  rw [decide_eq_decide]
  exact mem_rls hL hh
def zipAnd (ps : List (List Bool)) (m : Nat) : List Bool := (List.range m).map fun k => ps.all fun p => p.getD k true
def chunk (R : List Bool) (m v : Nat) : List Bool := (R.drop (v * m)).take m
def prm : List Nat → List Bool → List Hf
  | S, R => if R.contains true = false then [] else if R.contains false = false then [S.map fun _ => none] else match S with
    | [] => []
    | n :: S =>
      let m := prod S
      let free := prm S (zipAnd ((List.range n).map (chunk R m)) m)
      ((List.range n).flatMap fun v => ((prm S (chunk R m v)).filter fun h => !decide (h ∈ free)).map fun h => some v :: h) ++ free.map fun h => none :: h
theorem prm_cons {n : Nat} {S : List Nat} {R : List Bool} : prm (n :: S) R = if R.contains true = false then [] else if R.contains false = false then [(n :: S).map fun _ => none] else
    ((List.range n).flatMap fun v => ((prm S (chunk R (prod S) v)).filter fun h => !decide (h ∈ prm S (zipAnd ((List.range n).map (chunk R (prod S))) (prod S)))).map fun h => some v :: h) ++ (prm S (zipAnd ((List.range n).map (chunk R (prod S))) (prod S))).map fun h => none :: h := by
  rw [prm]
theorem prm_nil {R : List Bool} : prm [] R = if R.contains true = false then [] else if R.contains false = false then [[]] else [] := by
  rw [prm]
  rfl
end DL
namespace DL
open PySem PySem.Spec PyProof.Rows L2 Lk
variable {ns : List Nat}
def pls (S : List Nat) : Nat := prod (S.map (· + 1))
theorem prm_hl : ∀ {S : List Nat} {R : List Bool} {h : Hf}, h ∈ prm S R → h.length = S.length
  | [], R, h, e => by
    rw [prm_nil] at e
    split at e
    · cases e
    · split at e
      · rw [List.mem_singleton.mp e]; rfl
      · cases e
  | n :: S, R, h, e => by
    rw [prm_cons] at e
    split at e
    · cases e
    · split at e
      · rw [List.mem_singleton.mp e]; simp
      · rcases List.mem_append.mp e with e | e
        · obtain ⟨v, _, e⟩ := List.mem_flatMap.mp e
          obtain ⟨g, hg, rfl⟩ := List.mem_map.mp e
          simp [prm_hl (List.mem_filter.mp hg).1]
        · obtain ⟨g, hg, rfl⟩ := List.mem_map.mp e
          simp [prm_hl hg]
theorem flat_len {α : Type} {f : Nat → List α} {B : Nat} : ∀ {n : Nat}, (∀ v, (f v).length ≤ B) → ((List.range n).flatMap f).length ≤ n * B
  | 0, _ => by simp
  | n + 1, h => by
    rw [List.range_succ, List.flatMap_append, List.length_append, List.flatMap_cons, List.flatMap_nil, List.append_nil, Nat.succ_mul]
    have := flat_len (n := n) h
    have := h n
    omega
theorem pls_pos : ∀ {S : List Nat}, 0 < pls S
  | [] => by decide
  | n :: S => by
    show 0 < (n + 1) * pls S
    exact Nat.mul_pos (Nat.succ_pos _) pls_pos
theorem prm_len : ∀ {S : List Nat} {R : List Bool}, (prm S R).length ≤ pls S
  | [], R => by
    rw [prm_nil]
    split
    · exact Nat.zero_le _
    · split
      · decide
      · exact Nat.zero_le _
  | n :: S, R => by
    rw [prm_cons]
    have hp : pls (n :: S) = (n + 1) * pls S := rfl
    split
    · exact Nat.zero_le _
    · split
      · exact pls_pos
      · rw [List.length_append, List.length_map, hp, Nat.succ_mul]
        refine Nat.add_le_add (flat_len fun v => ?_) prm_len
        rw [List.length_map]
        exact Nat.le_trans (List.length_filter_le _ _) prm_len
theorem pls_pow : ∀ {S : List Nat}, (∀ n ∈ S, 2 ≤ n ∧ n ≤ 6) → pls S ^ 3 ≤ prod S ^ 5
  | [], _ => by decide
  | n :: S, h => by
    have ih := pls_pow (S := S) fun m hm => h m (List.mem_cons_of_mem _ hm)
    have hn := h n List.mem_cons_self
    show ((n + 1) * pls S) ^ 3 ≤ (n * prod S) ^ 5
    rw [Nat.mul_pow, Nat.mul_pow]
    refine Nat.mul_le_mul ?_ ih
    have : n = 2 ∨ n = 3 ∨ n = 4 ∨ n = 5 ∨ n = 6 := by omega
    rcases this with rfl | rfl | rfl | rfl | rfl <;> decide
theorem pls_le {S : List Nat} (h : ∀ n ∈ S, 2 ≤ n ∧ n ≤ 6) (hs : prod S ≤ 1024) : pls S ≤ 110000 := by
  have h1 := pls_pow h
  have h2 : prod S ^ 5 ≤ 1024 ^ 5 := Nat.pow_le_pow_left hs 5
  refine Nat.le_of_not_lt fun hl => ?_
  have h3 : 110000 ^ 3 ≤ pls S ^ 3 := Nat.pow_le_pow_left (Nat.le_of_lt hl) 3
  have h4 : 110000 ^ 3 ≤ 1024 ^ 5 := Nat.le_trans h3 (Nat.le_trans h1 h2)
  exact absurd h4 (by decide)
theorem notIn_bs {b : Bool} {R : List Bool} : notInM (.bool b) (bsD R) = some (.bool (!R.contains b)) := by
  show (if SeqAt.shaped (.bool b) && SeqAt.shaped (bsD R) then _ else _) = _
  rw [(Sh.bool).sh, sh_bools]
  show some (PyData.bool (!memD (.bool b) (R.map PyData.bool))) = _
  rw [memD_map (p := fun c => c == b) fun c _ => by rw [PyData.eqv]]
  congr 3
  rw [Bool.eq_iff_iff, List.any_eq_true, List.contains_iff_mem]
  constructor
  · rintro ⟨x, hx, e⟩
    rw [← eq_of_beq e]; exact hx
  · intro h
    exact ⟨b, h, by simp⟩
theorem notIn_tup {n : Nat} {p : Nat → Bool} : notInM (.bool false) (.tuple ((List.range n).map fun i => PyData.bool (p i))) = some (.bool ((List.range n).all p)) := by
  show (if flatD (.bool false) && ((List.range n).map fun i => PyData.bool (p i)).all flatD then _ else _) = _
  have fa : ((List.range n).map fun i => PyData.bool (p i)).all flatD = true := by
    rw [List.all_map, List.all_eq_true]
    intro _ _
    rfl
  rw [fa]
  show some (PyData.bool (!memD (.bool false) _)) = _
  rw [memD_map (p := fun i => !p i) fun c _ => by rw [PyData.eqv]; cases p c <;> rfl]
  congr 2
  rw [List.any_eq_not_all_not, Bool.not_not]
  simp
theorem chunk_len {R : List Bool} {n m v : Nat} (hR : R.length = n * m) (hv : v < n) : (chunk R m v).length = m := by
  unfold chunk
  have : (v + 1) * m ≤ n * m := Nat.mul_le_mul_right _ hv
  rw [Nat.succ_mul] at this
  rw [List.length_take, List.length_drop]
  omega
theorem zip_parts {R : List Bool} {n m : Nat} (hR : R.length = n * m) (h1 : 1 ≤ n) (h6 : n ≤ 6) :
    zipM (.list ((List.range n).map fun v => bsD (chunk R m v))) = some ((List.range m).map fun k => .tuple ((List.range n).map fun v => PyData.bool ((chunk R m v).getD k true))) := by
  have e : ((List.range n).map fun v => bsD (chunk R m v)) = ((List.range n).map fun v => (chunk R m v).map PyData.bool).map PyData.list := by
    rw [List.map_map]; rfl
  have lh : (((List.range n).map fun v => (chunk R m v).map PyData.bool).headD []).length = m := by
    cases n with
    | zero => omega
    | succ n =>
      rw [List.range_succ_eq_map, List.map_cons, List.headD_cons, List.length_map]
      exact chunk_len hR (by omega)
  show ((asLists _).bind fun L => _) = _
  rw [e, asLists_map, Option.bind_some, lh, if_pos ⟨by simpa using h1, by simpa using h6, by
    rw [List.all_eq_true]
    intro r hr
    obtain ⟨v, hv, rfl⟩ := List.mem_map.mp hr
    rw [List.length_map, chunk_len hR (List.mem_range.mp hv)]
    simp⟩]
  congr 1
  refine List.map_congr_left fun k hk => ?_
  unfold zipRow
  rw [List.map_map]
  congr 1
  refine List.map_congr_left fun v hv => ?_
  have lk : k < (chunk R m v).length := by
    rw [chunk_len hR (List.mem_range.mp hv)]; exact List.mem_range.mp hk
  show ((chunk R m v).map PyData.bool).getD k .none = _
  rw [List.getD_eq_getElem?_getD, List.getD_eq_getElem?_getD, List.getElem?_map, List.getElem?_eq_getElem lk]
  rfl
theorem zipAnd_len {ps : List (List Bool)} {m : Nat} : (zipAnd ps m).length = m := by
  unfold zipAnd
  simp
theorem dkc_y {α : Type} {vs : List Nat} {mi : M (List PyData)} {g : PyData → En → Option En} {mk : M PyData} {r0 r : En} (f : α → PyData) (F : α → PyData) (e : α → En) {xs : List α} {ks : List PyData} (hi : mi r0 = some (.ok (xs.map f) r)) (hf : freeAt r vs = true) (hl : xs.length ≤ 900000)
    (hg : ∀ x ∈ xs, g (f x) (wipeE r vs) = some (e x)) (hw : ∀ x ∈ xs, wipeE (e x) vs = wipeE r vs) (he : ∀ x ∈ xs, mk (e x) = some (.ok (F x) (e x))) (hk : dkGo [] (xs.map F) = some ks) :
    mDkc vs mi g mYes mk r0 = some (.ok ks r) := by
  unfold mDkc M.bind
  rw [hi]
  dsimp only
  have lg := lcGo_m (f := f) (p := fun _ => true) (F := F) (e := e) (mt := mYes) (me := mk) hg hw (fun _ _ => rfl) fun x hx _ => he x hx
  rw [filter_true] at lg
  rw [hf, decide_eq_true (by rw [List.length_map]; exact hl), lg]
  show ((dkGo [] (xs.map F)).map fun ks => Out.ok ks (restE r (wipeE r vs) vs)) = _
  rw [hk, Option.map_some, restE_wipe wipeE_length fun j hj => wipeE_out hj]
end DL
namespace DL
open PySem PySem.Spec PyProof.Rows L2 Lk
variable {ns : List Nat}
theorem prm_no {S : List Nat} {R : List Bool} (h : R.contains true = false) : prm S R = [] := by
  cases S <;> rw [prm, if_pos h]
theorem prm_all {S : List Nat} {R : List Bool} (h : R.contains true = true) (h2 : R.contains false = false) : prm S R = [S.map fun _ => none] := by
  cases S <;> rw [prm, if_neg (by rw [h]; decide), if_pos h2]
theorem rlp_none : ∀ {S : List Nat} {f : Nat}, rlp f (S.map fun _ => none) = []
  | [], f => rfl
  | n :: S, f => by
    show rlp (f + 1) (S.map fun _ => none) = []
    exact rlp_none
theorem rlD_none {S : List Nat} {f : Nat} : rlD f (S.map fun _ => none) = .tuple [] := by
  unfold rlD
  rw [rlp_none]
  rfl
theorem s_set_c {i : Nat} {m : M PyData} {r : En} {d : PyData} {c : Cel} (h : m r = some (.ok d r)) (hc : r[i]? = some c) (ho : c.own = false) : sSet i m r = some (.nx (r.set i (.pl d))) := by
  rw [s_set, s_bind, h]
  dsimp only
  rw [s_put, hc]
  cases c <;> first | rfl | cases ho
theorem rlp_len : ∀ {h : Hf} {f : Nat}, (rlp f h).length ≤ h.length
  | [], f => Nat.le_refl _
  | none :: h, f => by
    have := rlp_len (h := h) (f := f + 1)
    rw [rlp, List.length_cons]; omega
  | some v :: h, f => by
    have := rlp_len (h := h) (f := f + 1)
    rw [rlp, List.length_cons, List.length_cons]; omega
theorem e_mRng3 {m : M (List PyData)} {r : En} : mRng3 m r = M.bind m (fun ds => M.lift (rng3M ds)) r := rfl
/-- the part over one value -/
def prV (S : List Nat) (R : List Bool) (n v : Nat) : List Hf :=
  ((prm S (chunk R (prod S) v)).filter fun h => !decide (h ∈ prm S (zipAnd ((List.range n).map (chunk R (prod S))) (prod S)))).map fun h => some v :: h
theorem prV_len {S : List Nat} {R : List Bool} {n v : Nat} : (prV S R n v).length ≤ pls S := by
  unfold prV
  rw [List.length_map]
  exact Nat.le_trans (List.length_filter_le _ _) prm_len
theorem g_primes_go (hn : ∀ n ∈ ns, 2 ≤ n ∧ n ≤ 6) (hl : ns.length ≤ 24) : ∀ {k f : Nat} {R : List Bool}, f ≤ ns.length → ns.length - f < k → R.length = prod (ns.drop f) → prod (ns.drop f) ≤ 1024 →
    g_p_find_primes_from k [nsD ns, nD f, bsD R] = some (.list ((prm (ns.drop f) R).map (rlD f)))
  | 0, f, R, _, h, _, _ => by omega
  | k + 1, f, R, hf, hk, hR, hs => by
    rw [r_p_find_primes_from]
    have c1 := notIn_bs (b := true) (R := R)
    have c2 := notIn_bs (b := false) (R := R)
    cases t1 : R.contains true with
    | false =>
      rw [t1] at c1
      rw [prm_no t1]
      simp [v_p_find_primes_from, c1]
    | true =>
      rw [t1] at c1
      cases t2 : R.contains false with
      | false =>
        rw [t2] at c2
        rw [prm_all t1 t2, List.map_cons, List.map_nil, rlD_none]
        simp [v_p_find_primes_from, c1, c2]
      | true =>
        rw [t2] at c2
        obtain ⟨n, S, hS⟩ : ∃ n S, ns.drop f = n :: S := by
          cases e : ns.drop f with
          | nil =>
            rw [e] at hR
            obtain ⟨b, rfl⟩ := List.length_eq_one_iff.mp (show R.length = 1 from hR)
            cases b <;> simp at t1 t2
          | cons n S => exact ⟨n, S, rfl⟩
        have lf : f < ns.length := by
          refine Nat.lt_of_not_le fun z => ?_
          rw [List.drop_eq_nil_of_le z] at hS
          cases hS
        have hcons := List.drop_eq_getElem_cons lf
        have hnf : ns[f]? = some n := by
          rw [hcons] at hS
          rw [List.getElem?_eq_getElem lf, (List.cons.inj hS).1]
        have hS' : ns.drop (f + 1) = S := by
          rw [hcons] at hS
          exact (List.cons.inj hS).2
        have n6 := hn n (List.mem_of_getElem? hnf)
        have hSm : ∀ m ∈ S, 2 ≤ m ∧ m ≤ 6 := fun m hm => hn m (by rw [← hS'] at hm; exact List.mem_of_mem_drop hm)
        rw [hS] at hR hs ⊢
        generalize hm : prod S = m at *
        have hR : R.length = n * m := by rw [hR, prod, hm]
        have hs : n * m ≤ 1024 := by rw [prod, hm] at hs; exact hs
        have mp : 0 < m := by rw [← hm]; exact prod_pos fun q hq => by have := hSm q hq; omega
        have m1024 : m ≤ 1024 := Nat.le_trans (Nat.le_mul_of_pos_left _ (by omega)) hs
        have pl := pls_le hSm (by rw [hm]; exact m1024)
        have ih : ∀ {Q : List Bool}, Q.length = m → g_p_find_primes_from k [nsD ns, nD (f + 1), bsD Q] = some (.list ((prm S Q).map (rlD (f + 1)))) := fun {Q} hQ => by
          have := g_primes_go (k := k) (f := f + 1) (R := Q) hn hl (by omega) (by omega) (by rw [hS', hm]; exact hQ) (by rw [hS', hm]; exact m1024)
          rw [hS'] at this
          exact this
        have ixf : ixM (nsD ns) (nD f) = some (nD n) := ix_mapL hnf
        have f1 : addM (nD f) (.int 1) = some (nD (f + 1)) := rfl
        -- the step
        have dv : divM (.int (R.length : Int)) (nD n) = some (nD m) := by
          have := e_divI (a := (R.length : Nat)) (b := (n : Nat)) (by omega) (by omega)
          unfold nD
          rw [this, ← Int.natCast_ediv, hR, Nat.mul_div_cancel_left _ (by omega)]
        have er3 : rng3M [.int 0, .int (R.length : Int), nD m] = some ((List.range n).map fun i => nD (i * m)) := by
          have := e_rng3 (k := n) (n := m) mp (by omega) (by omega)
          rw [← hR] at this
          exact this
        let r1 : En := [.pl (nsD ns), .pl (nD f), .pl (bsD R), .pl (nD m), .un, .un, .un, .un, .un, .un, .un, .un, .un]
        have e4 : mLc [10] (mRng3 (mCons (M.ret (.int 0)) (mCons (mCall lenM (mCons (mV 2) mNil)) (mCons (mV 3) mNil)))) (gN 10) mYes (mNew (mSlice (mV 2) (mPart (mV 10)) (mPart (mOp2 addM (mV 10) (mV 3))))) r1 = some (.ok ((List.range n).map fun v => bsD (chunk R m v)) r1) := by
          refine lcy (fun i => nD (i * m)) _ (fun i => [.pl (nsD ns), .pl (nD f), .pl (bsD R), .pl (nD m), .un, .un, .un, .un, .un, .un, .pl (nD (i * m)), .un, .un]) ?_ (by simp [r1, freeAt]) (by simp; omega) (by intro i _; simp [r1]) (by intro i _; simp [r1]) ?_
          · simp [r1, e_mRng3, er3]
          · intro i _
            have a1 : addM (nD (i * m)) (nD m) = some (nD (i * m + m)) := rfl
            have a2 : ∀ k, asInt (nD k) = some (k : Int) := fun _ => rfl
            have a3 : asList (bsD R) = some (R.map PyData.bool) := rfl
            have cc : cutD (R.map PyData.bool) (some ((i * m : Nat) : Int)) (some ((i * m + m : Nat) : Int)) = (chunk R m i).map PyData.bool := by
              rw [e_cut]
              congr 1
              unfold chunk
              congr 1
              omega
            simp only [e_new, e_slice, e_bind, e_V, List.getElem?_cons_zero, List.getElem?_cons_succ, e_part, e_op2, a1, a2, a3, e_lift_some, Option.map_some, e_ret, cc]
        generalize hP : ((List.range n).map fun v => bsD (chunk R m v)) = P at e4
        let r2 : En := [.pl (nsD ns), .pl (nD f), .pl (bsD R), .pl (nD m), .pl (.list P), .un, .un, .un, .un, .un, .un, .un, .un]
        let Z : List Bool := zipAnd ((List.range n).map (chunk R m)) m
        have zp := zip_parts hR (by omega) n6.2
        rw [hP] at zp
        have e5 : mLc [12] (mZip (mV 4)) (gN 12) mYes (mOp2 notInM (M.ret (.bool false)) (mV 12)) r2 = some (.ok (Z.map PyData.bool) r2) := by
          have eZ : Z.map PyData.bool = (List.range m).map fun k => PyData.bool ((List.range n).all fun v => (chunk R m v).getD k true) := by
            show ((List.range m).map _).map _ = _
            rw [List.map_map]
            refine List.map_congr_left fun k _ => ?_
            show PyData.bool (((List.range n).map (chunk R m)).all fun p => p.getD k true) = _
            rw [List.all_map]
            rfl
          rw [eZ]
          refine lcy (fun k => .tuple ((List.range n).map fun v => PyData.bool ((chunk R m v).getD k true))) _ (fun k => [.pl (nsD ns), .pl (nD f), .pl (bsD R), .pl (nD m), .pl (.list P), .un, .un, .un, .un, .un, .un, .un, .pl (.tuple ((List.range n).map fun v => PyData.bool ((chunk R m v).getD k true)))]) ?_ (by simp [r2, freeAt]) (by simp; omega) (by intro i _; simp [r2]) (by intro i _; simp [r2]) ?_
          · simp [r2, zp]
          · intro k _
            simp only [e_op2, e_bind, e_ret, e_V, List.getElem?_cons_zero, List.getElem?_cons_succ, e_lift_some, notIn_tup]
        have ih5 := ih (Q := Z) zipAnd_len
        have hfree : prm S Z = prm S (zipAnd ((List.range n).map (chunk R (prod S))) (prod S)) := by rw [hm]
        generalize hF : prm S Z = free at ih5 hfree
        have lfree : free.length ≤ pls S := by rw [← hF]; exact prm_len
        have hfl : ∀ h ∈ free, h.length = S.length := fun h hh => by rw [← hF] at hh; exact prm_hl hh
        let D : List PyData := (ddp [] free).map (rlD (f + 1))
        let r3 : En := [.pl (nsD ns), .pl (nD f), .pl (bsD R), .pl (nD m), .pl (.list P), .pl (.list (free.map (rlD (f + 1)))), .un, .un, .un, .un, .un, .un, .un]
        have e6 : mDkc [11] (mSeq (mV 5)) (gN 11) mYes (mV 11) r3 = some (.ok D r3) := by
          refine dkc_y (rlD (f + 1)) (rlD (f + 1)) (fun h => [.pl (nsD ns), .pl (nD f), .pl (bsD R), .pl (nD m), .pl (.list P), .pl (.list (free.map (rlD (f + 1)))), .un, .un, .un, .un, .un, .pl (rlD (f + 1) h), .un]) (xs := free) (by simp [r3]) (by simp [r3, freeAt]) (by omega) (by intro i _; simp [r3]) (by intro i _; simp [r3]) (by intro i _; simp) ?_
          exact dkGo_rls (acc := []) (n := S.length) (fun _ z => by cases z) hfl
        have nin : ∀ {h : Hf}, h.length = S.length → inDkM true D (rlD (f + 1) h) = some (.bool (!decide (h ∈ free))) := fun {h} hh => by
          rw [inDk_rl (n := S.length) (fun g hg => hfl g (by simpa [mem_ddp] using hg)) hh]
          congr 3
          rw [decide_eq_decide, mem_ddp]
          simp
        -- the loop
        obtain ⟨q2, eL, i, c8, c9, rfl, h8, h9, hx, hi⟩ := for_i (g := gN 8) (b := (sSeq (sSet 9 (mCall (g_p_find_primes_from k) (mCons (mV 0) (mCons (mOp2 addM (mV 1) (M.ret (.int 1))) (mCons (mOp2 ixM (mV 4) (mV 8)) mNil)))))
  (sExtL 7 (mNew (mLc [11] (mSeq (mV 9)) (gN 11) (mVal (mInDk true 6 (mV 11))) (mTup (mCons (mTup (mCons (mV 1) (mCons (mV 8) mNil))) (mStar (mV 11) mNil)))))))) nD
          (fun xs r => ∃ i c8 c9, r = [.pl (nsD ns), .pl (nD f), .pl (bsD R), .pl (nD m), .pl (.list P), .pl (.list (free.map (rlD (f + 1)))), .dk D, .ow (((List.range i).flatMap (prV S R n)).map (rlD f)), c8, c9, .un, .un, .un] ∧ c8.own = false ∧ c9.own = false ∧ xs = (List.range n).drop i ∧ i ≤ n)
          (xs := List.range n) (r := [.pl (nsD ns), .pl (nD f), .pl (bsD R), .pl (nD m), .pl (.list P), .pl (.list (free.map (rlD (f + 1)))), .dk D, .ow [], .un, .un, .un, .un, .un]) ⟨0, .un, .un, rfl, rfl, rfl, rfl, Nat.zero_le _⟩ (by
            rintro v xs r ⟨i, c8, c9, rfl, h8, h9, hx, hi⟩
            have li : i < n := Nat.lt_of_not_le fun z => by rw [List.drop_eq_nil_of_le (by simpa using z)] at hx; cases hx
            rw [List.drop_eq_getElem_cons (by simpa using li), List.getElem_range] at hx
            obtain ⟨rfl, hx⟩ := List.cons.inj hx
            have pe : P[v]? = some (bsD (chunk R m v)) := by rw [← hP, List.getElem?_map, List.getElem?_range li]; rfl
            have px : ixM (.list P) (nD v) = some (bsD (chunk R m v)) := by
              show atI P (v : Int) = _
              exact e_at pe
            have ihv := ih (Q := chunk R m v) (chunk_len hR li)
            have lv : (prm S (chunk R m v)).length ≤ pls S := prm_len
            have hvl : ∀ h ∈ prm S (chunk R m v), h.length = S.length := fun h hh => prm_hl hh
            have pV : prV S R n v = ((prm S (chunk R m v)).filter fun h => !decide (h ∈ free)).map fun h => some v :: h := by unfold prV; rw [← hfree, hm]
            generalize prm S (chunk R m v) = rules at ihv lv hvl pV
            refine ⟨_, [.pl (nsD ns), .pl (nD f), .pl (bsD R), .pl (nD m), .pl (.list P), .pl (.list (free.map (rlD (f + 1)))), .dk D, .ow (((List.range (v + 1)).flatMap (prV S R n)).map (rlD f)), .pl (nD v), .pl (.list (rules.map (rlD (f + 1)))), .un, .un, .un], show _ = some [.pl (nsD ns), .pl (nD f), .pl (bsD R), .pl (nD m), .pl (.list P), .pl (.list (free.map (rlD (f + 1)))), .dk D, .ow (((List.range v).flatMap (prV S R n)).map (rlD f)), .pl (nD v), c9, .un, .un, .un] from by simp [h8], ?_, v + 1, _, _, rfl, rfl, rfl, hx, li⟩
            rw [s_seq, s_set_c (d := .list (rules.map (rlD (f + 1)))) (c := c9) (by simp only [e_call, e_bind, e_cons, e_V, List.getElem?_cons_zero, List.getElem?_cons_succ, e_nil, e_ret, e_op2, e_lift_some, f1, px, ihv]) rfl h9]
            dsimp only [List.set_cons_succ, List.set_cons_zero]
            have lcx : mLc [11] (mSeq (mV 9)) (gN 11) (mVal (mInDk true 6 (mV 11))) (mTup (mCons (mTup (mCons (mV 1) (mCons (mV 8) mNil))) (mStar (mV 11) mNil))) [.pl (nsD ns), .pl (nD f), .pl (bsD R), .pl (nD m), .pl (.list P), .pl (.list (free.map (rlD (f + 1)))), .dk D, .ow (((List.range v).flatMap (prV S R n)).map (rlD f)), .pl (nD v), .pl (.list (rules.map (rlD (f + 1)))), .un, .un, .un]
              = some (.ok ((rules.filter fun h => !decide (h ∈ free)).map fun h => rlD f (some v :: h)) [.pl (nsD ns), .pl (nD f), .pl (bsD R), .pl (nD m), .pl (.list P), .pl (.list (free.map (rlD (f + 1)))), .dk D, .ow (((List.range v).flatMap (prV S R n)).map (rlD f)), .pl (nD v), .pl (.list (rules.map (rlD (f + 1)))), .un, .un, .un]) := by
              refine lcm (rlD (f + 1)) (fun h => !decide (h ∈ free)) (fun h => rlD f (some v :: h)) (fun h => [.pl (nsD ns), .pl (nD f), .pl (bsD R), .pl (nD m), .pl (.list P), .pl (.list (free.map (rlD (f + 1)))), .dk D, .ow (((List.range v).flatMap (prV S R n)).map (rlD f)), .pl (nD v), .pl (.list (rules.map (rlD (f + 1)))), .un, .pl (rlD (f + 1) h), .un]) (by simp) (by simp [freeAt]) (by omega) (by intro h _; simp) (by intro h _; simp) (fun h hh => ?_) fun h hh _ => ?_
              · have := nin (hvl h hh)
                simp only [e_val, e_inDk, e_bind, e_V, List.getElem?_cons_zero, List.getElem?_cons_succ, this, Option.map_some, e_asBool, e_lift_some, e_ret]
              · have t2 : tupM [nD f, nD v] = some (prD (f, v)) := rfl
                have lr : (rlp (f + 1) h).length ≤ 24 := by
                  have := rlp_len (h := h) (f := f + 1)
                  have := hvl h hh
                  have e : (ns.drop (f + 1)).length = S.length := by rw [hS']
                  rw [List.length_drop] at e
                  omega
                have t3 : tupM (prD (f, v) :: ((rlp (f + 1) h).map prD ++ [])) = some (rlD f (some v :: h)) := by
                  unfold tupM
                  rw [if_pos (by simp; omega), List.append_nil]
                  rfl
                have as : asSeq (rlD (f + 1) h) = some ((rlp (f + 1) h).map prD) := rfl
                simp only [e_tup, e_bind, e_cons, e_V, List.getElem?_cons_zero, List.getElem?_cons_succ, e_nil, e_ret, e_lift_some, t2, e_star, as, t3]
            have la : ((List.range v).flatMap (prV S R n)).length ≤ v * pls S := flat_len fun w => prV_len
            have lb : v * pls S ≤ 6 * 110000 := Nat.mul_le_mul (by omega) pl
            have lc : (rules.filter fun h => !decide (h ∈ free)).length ≤ pls S := Nat.le_trans (List.length_filter_le _ _) lv
            have le : (((List.range v).flatMap (prV S R n)).map (rlD f)).length + ((rules.filter fun h => !decide (h ∈ free)).map fun h => rlD f (some v :: h)).length ≤ 1000000 := by
              rw [List.length_map, List.length_map]; omega
            have acc : ((List.range v).flatMap (prV S R n)).map (rlD f) ++ ((rules.filter fun h => !decide (h ∈ free)).map fun h => rlD f (some v :: h)) = ((List.range (v + 1)).flatMap (prV S R n)).map (rlD f) := by
              rw [List.range_succ, List.flatMap_append, List.map_append, List.flatMap_cons, List.flatMap_nil, List.append_nil, pV, List.map_map]
              rfl
            simp only [s_extL, List.getElem?_cons_zero, List.getElem?_cons_succ, e_own_ow, Option.isSome_some, if_true, s_bind, e_new, e_bind, lcx, e_ret, e_asList, if_pos le, acc, s_upO, s_re_ow, List.set_cons_succ, List.set_cons_zero])
        have hin : i = n := by
          have := congrArg List.length hx
          simp at this
          omega
        subst hin
        have la : ((List.range i).flatMap (prV S R i)).length ≤ i * pls S := flat_len fun w => prV_len
        have lb : i * pls S ≤ 6 * 110000 := Nat.mul_le_mul n6.2 pl
        have hprm : prm (i :: S) R = (List.range i).flatMap (prV S R i) ++ free.map fun h => none :: h := by
          rw [prm_cons, if_neg (by rw [t1]; decide), if_neg (by rw [t2]; decide), hfree]
          rfl
        have fin : addM (.list (((List.range i).flatMap (prV S R i)).map (rlD f))) (.list (free.map (rlD (f + 1)))) = some (.list ((prm (i :: S) R).map (rlD f))) := by
          rw [e_addL (by rw [List.length_map, List.length_map]; omega), hprm, List.map_append, List.map_map]
          rfl
        have l0 : lstM [] = some [] := rfl
        have ern : rngM [nD i] = some ((List.range i).map nD) := e_rng_n i (by omega)
        simp only [v_p_find_primes_from, s_seq, s_if, s_bind, e_opT, e_bind, e_ret, e_V, List.getElem?_cons_zero, List.getElem?_cons_succ, e_lift_some, c1, c2, Option.bind_some, e_asBool, Bool.not_true, Bool.false_eq_true, if_false, s_nil, s_set, e_op2, e_call, e_cons, e_nil, e_lenL, List.length_map, ixf, dv, s_put, List.set_cons_succ, List.set_cons_zero, e_new, e4, e5, f1, ih5, e6, s_dk, s_own, e_lst, e_lst1, s_putO, s_for, e_rng1, ern, eL, s_frz, fin, s_ret, o_rt, l0, r1, r2, r3]
end DL
namespace DL
open PySem PySem.Spec PyProof.Rows L2 Lk
variable {ns S : List Nat} {W : List Nat → Bool} {h : Hf} {x : Frm}
def Imp (S : List Nat) (W : List Nat → Bool) (h : Hf) : Prop := ∀ c, Case S c → cmpB h c = true → W c = true
def PrimeR (S : List Nat) (W : List Nat → Bool) (h : Hf) : Prop := Half S h ∧ Imp S W h ∧ ∀ (i v : Nat), h[i]? = some (some v) → ¬ Imp S W (h.set i none)
theorem Half.nil : Half [] [] := ⟨rfl, fun i n v e _ => by simp at e⟩
theorem half_cons {n : Nat} {o : Option Nat} : Half (n :: S) (o :: h) ↔ (∀ v, o = some v → v < n) ∧ Half S h := by
  constructor
  · exact Half.cons
  · rintro ⟨h1, h2⟩
    refine ⟨by simpa using h2.1, fun i m v e1 e2 => ?_⟩
    cases i with
    | zero =>
      cases e1
      exact h1 v (by simpa using e2)
    | succ i => exact h2.2 i m v (by simpa using e1) (by simpa using e2)
theorem half_fill : ∀ {S : List Nat} {h : Hf}, (∀ n ∈ S, 0 < n) → Half S h → ∃ c, Case S c ∧ cmpB h c = true
  | [], [], _, _ => ⟨[], Case.nil, rfl⟩
  | [], _ :: _, _, H => by have := H.1; simp at this
  | _ :: _, [], _, H => by have := H.1; simp at this
  | n :: S, o :: h, hp, H => by
    obtain ⟨h1, h2⟩ := H.cons
    obtain ⟨c, hc, e⟩ := half_fill (fun m hm => hp m (List.mem_cons_of_mem _ hm)) h2
    cases o with
    | none => exact ⟨0 :: c, Case.cons.mpr ⟨hp n List.mem_cons_self, hc⟩, e⟩
    | some v => exact ⟨v :: c, Case.cons.mpr ⟨h1 v rfl, hc⟩, by rw [cmpB, e]; simp⟩
theorem case_ex {n : Nat} {c : List Nat} (hc : Case (n :: S) c) : ∃ v d, c = v :: d ∧ v < n ∧ Case S d := by
  cases c with
  | nil => have := hc.1; simp at this
  | cons v d => exact ⟨v, d, rfl, Case.cons.mp hc⟩
theorem imp_none {n : Nat} : Imp (n :: S) W (none :: h) ↔ Imp S (fun c => (List.range n).all fun v => W (v :: c)) h := by
  constructor
  · intro H c hc e
    rw [List.all_eq_true]
    intro v hv
    exact H (v :: c) (Case.cons.mpr ⟨List.mem_range.mp hv, hc⟩) e
  · intro H c hc e
    obtain ⟨v, d, rfl, hv, hd⟩ := case_ex hc
    exact List.all_eq_true.mp (H d hd e) v (List.mem_range.mpr hv)
theorem imp_some {n v : Nat} (hv : v < n) : Imp (n :: S) W (some v :: h) ↔ Imp S (fun c => W (v :: c)) h := by
  constructor
  · intro H c hc e
    exact H (v :: c) (Case.cons.mpr ⟨hv, hc⟩) (by rw [cmpB, e]; simp)
  · intro H c hc e
    obtain ⟨w, d, rfl, hw, hd⟩ := case_ex hc
    rw [cmpB, Bool.and_eq_true, beq_iff_eq] at e
    obtain ⟨rfl, e⟩ := e
    exact H d hd e
theorem prime_none {n : Nat} : PrimeR (n :: S) W (none :: h) ↔ PrimeR S (fun c => (List.range n).all fun v => W (v :: c)) h := by
  unfold PrimeR
  rw [half_cons, imp_none]
  constructor
  · rintro ⟨⟨_, h1⟩, h2, h3⟩
    exact ⟨h1, h2, fun i v e z => h3 (i + 1) v (by simpa using e) (by rw [List.set_cons_succ, imp_none]; exact z)⟩
  · rintro ⟨h1, h2, h3⟩
    refine ⟨⟨fun v z => (by cases z), h1⟩, h2, fun i v e z => ?_⟩
    cases i with
    | zero => simp at e
    | succ i => exact h3 i v (by simpa using e) (by rw [List.set_cons_succ, imp_none] at z; exact z)
theorem prime_some {n v : Nat} : PrimeR (n :: S) W (some v :: h) ↔ v < n ∧ PrimeR S (fun c => W (v :: c)) h ∧ ¬ PrimeR S (fun c => (List.range n).all fun v => W (v :: c)) h := by
  constructor
  · rintro ⟨h1, h2, h3⟩
    have hv := h1.cons.1 v rfl
    rw [imp_some hv] at h2
    refine ⟨hv, ⟨h1.cons.2, h2, fun i w e z => h3 (i + 1) w (by simpa using e) (by rw [List.set_cons_succ, imp_some hv]; exact z)⟩, fun z => ?_⟩
    exact h3 0 v rfl (by rw [List.set_cons_zero, imp_none]; exact z.2.1)
  · rintro ⟨hv, ⟨h1, h2, h3⟩, h4⟩
    refine ⟨half_cons.mpr ⟨fun w z => by cases z; exact hv, h1⟩, (imp_some hv).mpr h2, fun i w e z => ?_⟩
    cases i with
    | zero =>
      rw [List.set_cons_zero, imp_none] at z
      refine h4 ⟨h1, z, fun i w e y => h3 i w e fun c hc ec => ?_⟩
      exact List.all_eq_true.mp (y c hc ec) v (List.mem_range.mpr hv)
    | succ i => exact h3 i w (by simpa using e) (by rw [List.set_cons_succ, imp_some hv] at z; exact z)
theorem allc_consV {n : Nat} : allc (n :: S) = (List.range n).flatMap fun v => (allc S).map (v :: ·) := rfl
theorem chunk_all {n v : Nat} (hv : v < n) : chunk ((allc (n :: S)).map W) (prod S) v = (allc S).map fun c => W (v :: c) := by
  have lm : ∀ u, ((allc S).map fun c => W (u :: c)).length = prod S := fun u => by rw [List.length_map, allc_length]
  have e : (allc (n :: S)).map W = (List.range n).flatMap fun u => (allc S).map fun c => W (u :: c) := by
    rw [allc_consV, List.map_flatMap]
    congr 1
    funext u
    rw [List.map_map]
    rfl
  rw [e]
  refine List.ext_getElem? fun j => ?_
  unfold chunk
  rw [List.getElem?_take]
  split
  · rename_i hj
    rw [List.getElem?_drop]
    exact flatMap_at (fun u _ => lm u) hv hj
  · rename_i hj
    rw [List.getElem?_eq_none (by rw [lm]; omega)]
theorem zipAnd_all {n : Nat} : zipAnd ((List.range n).map (chunk ((allc (n :: S)).map W) (prod S))) (prod S) = (allc S).map fun c => (List.range n).all fun v => W (v :: c) := by
  refine List.ext_getElem? fun j => ?_
  unfold zipAnd
  rw [List.getElem?_map, List.getElem?_map]
  by_cases hj : j < prod S
  · have lj : j < (allc S).length := by rw [allc_length]; exact hj
    rw [List.getElem?_range hj, List.getElem?_eq_getElem lj]
    refine congrArg some ?_
    show (((List.range n).map (chunk ((allc (n :: S)).map W) (prod S))).all fun p => p.getD j true) = (List.range n).all fun v => W (v :: (allc S)[j])
    rw [List.all_map, Bool.eq_iff_iff, List.all_eq_true, List.all_eq_true]
    refine forall_congr' fun v => forall_congr' fun hv => ?_
    show (chunk ((allc (n :: S)).map W) (prod S) v).getD j true = true ↔ _
    rw [chunk_all (List.mem_range.mp hv), List.getD_eq_getElem?_getD, List.getElem?_map, List.getElem?_eq_getElem lj]
    rfl
  · rw [List.getElem?_eq_none (by simpa using hj), List.getElem?_eq_none (by rw [allc_length]; omega)]
    rfl
theorem all_none_iff {S : List Nat} {h : Hf} (hl : h.length = S.length) : h = S.map (fun _ => none) ↔ ∀ (i v : Nat), h[i]? ≠ some (some v) := by
  constructor
  · rintro rfl i v
    rw [List.getElem?_map]
    cases S[i]? <;> simp
  · intro H
    refine List.ext_getElem? fun i => ?_
    rw [List.getElem?_map]
    by_cases hi : i < S.length
    · rw [List.getElem?_eq_getElem hi, List.getElem?_eq_getElem (by omega)]
      have := H i
      rw [List.getElem?_eq_getElem (by omega)] at this
      cases q : h[i] with
      | none => rfl
      | some v => rw [q] at this; exact absurd rfl (this v)
    · rw [List.getElem?_eq_none (by omega), List.getElem?_eq_none (by omega)]
      rfl
theorem prime_all (hp : ∀ c, Case S c → W c = true) : PrimeR S W h ↔ h = S.map fun _ => none := by
  constructor
  · rintro ⟨h1, _, h3⟩
    exact (all_none_iff h1.1).mpr fun i v e => h3 i v e fun c hc _ => hp c hc
  · rintro rfl
    refine ⟨⟨by simp, fun i n v _ e => ?_⟩, fun c hc _ => hp c hc, fun i v e => ?_⟩
    · rw [List.getElem?_map] at e
      cases q : S[i]? <;> rw [q] at e <;> simp at e
    · exact absurd e ((all_none_iff (S := S) (by simp)).mp rfl i v)
theorem mem_prm : ∀ {S : List Nat} {W : List Nat → Bool} {h : Hf}, (∀ n ∈ S, 0 < n) → (h ∈ prm S ((allc S).map W) ↔ PrimeR S W h) := by
  intro S
  induction S with
  | nil =>
    intro W h hp
    have a0 : (allc ([] : List Nat)).map W = [W []] := rfl
    rw [a0, prm_nil]
    cases q : W [] with
    | false =>
      rw [if_pos (show [false].contains true = false from rfl)]
      refine ⟨fun z => (by simp at z), fun z => ?_⟩
      obtain ⟨c, hc, e⟩ := half_fill hp z.1
      have := z.2.1 c hc e
      rw [List.eq_nil_of_length_eq_zero hc.1, q] at this
      cases this
    | true =>
      rw [if_neg (show ¬ [true].contains true = false by decide), if_pos (show [true].contains false = false from rfl), prime_all fun c hc => by rw [List.eq_nil_of_length_eq_zero hc.1, q]]
      exact List.mem_singleton
  | cons n S ih =>
    intro W h hp
    have hpS : ∀ m ∈ S, 0 < m := fun m hm => hp m (List.mem_cons_of_mem _ hm)
    rw [prm_cons]
    by_cases t1 : ((allc (n :: S)).map W).contains true = false
    · rw [if_pos t1]
      refine ⟨fun z => (by cases z), fun z => ?_⟩
      obtain ⟨c, hc, e⟩ := half_fill hp z.1
      have := z.2.1 c hc e
      have m : true ∈ (allc (n :: S)).map W := List.mem_map.mpr ⟨c, mem_allc.mpr hc, this⟩
      rw [List.contains_iff_mem.mpr m] at t1
      cases t1
    · rw [if_neg t1]
      by_cases t2 : ((allc (n :: S)).map W).contains false = false
      · rw [if_pos t2, List.mem_singleton, prime_all fun c hc => ?_]
        cases q : W c with
        | true => rfl
        | false =>
          have m : false ∈ (allc (n :: S)).map W := List.mem_map.mpr ⟨c, mem_allc.mpr hc, q⟩
          rw [List.contains_iff_mem.mpr m] at t2
          cases t2
      · rw [if_neg t2, zipAnd_all, List.mem_append]
        constructor
        · rintro (z | z)
          · obtain ⟨v, hv, z⟩ := List.mem_flatMap.mp z
            obtain ⟨g, hg, rfl⟩ := List.mem_map.mp z
            have lv := List.mem_range.mp hv
            obtain ⟨h1, h2⟩ := List.mem_filter.mp hg
            rw [chunk_all lv, ih hpS] at h1
            rw [Bool.not_eq_true', decide_eq_false_iff_not, ih hpS] at h2
            exact prime_some.mpr ⟨lv, h1, h2⟩
          · obtain ⟨g, hg, rfl⟩ := List.mem_map.mp z
            exact prime_none.mpr ((ih hpS).mp hg)
        · intro z
          cases h with
          | nil => have := z.1.1; simp at this
          | cons o h =>
            cases o with
            | none => exact .inr (List.mem_map.mpr ⟨h, (ih hpS).mpr (prime_none.mp z), rfl⟩)
            | some v =>
              obtain ⟨lv, h1, h2⟩ := prime_some.mp z
              refine .inl (List.mem_flatMap.mpr ⟨v, List.mem_range.mpr lv, List.mem_map.mpr ⟨h, List.mem_filter.mpr ⟨?_, ?_⟩, rfl⟩⟩)
              · rw [chunk_all lv, ih hpS]; exact h1
              · rw [Bool.not_eq_true', decide_eq_false_iff_not, ih hpS]; exact h2
noncomputable def pms (ns : List Nat) (x : Frm) (r : Bool) : List Hf := (prm ns ((anss ns x).map (· == r))).mergeSort fun a b => leLen (rlD 0 a) (rlD 0 b)
theorem mem_pms (hn : Sz ns) {r : Bool} : h ∈ pms ns x r ↔ PrimeR ns (fun c => x.ev ns c == r) h := by
  unfold pms
  rw [(List.mergeSort_perm _ _).mem_iff]
  have : (anss ns x).map (· == r) = (allc ns).map fun c => x.ev ns c == r := by
    unfold anss
    rw [List.map_map]
    rfl
  rw [this]
  exact mem_prm fun n hm => by have := hn.2 n hm; omega
theorem g_primes_ok (hn : Sz ns) (sm : prod ns ≤ 1024) {A : List Bool} (hA : A.length = prod ns) {r : Bool} : g_primes_of_answers [nsD ns, bsD A, .bool r] = some (.list (((prm ns (A.map (· == r))).mergeSort fun a b => leLen (rlD 0 a) (rlD 0 b)).map (rlD 0))) := by
  rw [r_primes_of_answers]
  have lc := lcy (vs := [3]) (mi := mSeq (mV 1)) (g := gN 3) (me := mOp2 eqM (mV 3) (mV 2)) (r := [.pl (nsD ns), .pl (bsD A), .pl (.bool r), .un]) PyData.bool (fun c => PyData.bool (c == r)) (fun c => [.pl (nsD ns), .pl (bsD A), .pl (.bool r), .pl (.bool c)]) (xs := A)
    (by simp) (by simp [freeAt]) (by omega) (by simp) (by simp) (by
      intro c _
      have eb : eqM (.bool c) (.bool r) = some (.bool (c == r)) := by
        rw [e_eqD (Sh.bool).sh (Sh.bool).sh, PyData.eqv]
      simp only [e_op2, e_bind, e_V, List.getElem?_cons_zero, List.getElem?_cons_succ, eb, e_lift_some, e_ret])
  have e1 : A.map (fun c => PyData.bool (c == r)) = (A.map (· == r)).map PyData.bool := by rw [List.map_map]; rfl
  rw [e1] at lc
  have go := g_primes_go (ns := ns) hn.2 hn.1 (k := FU) (f := 0) (R := A.map (· == r)) (Nat.zero_le _) (by have := hn.1; unfold FU; omega) (by rw [List.length_map]; exact hA) sm
  rw [List.drop_zero] at go
  have so : sortLenM (.list ((prm ns (A.map (· == r))).map (rlD 0))) = some (((prm ns (A.map (· == r))).mergeSort fun a b => leLen (rlD 0 a) (rlD 0 b)).map (rlD 0)) := by
    show (if ((prm ns (A.map (· == r))).map (rlD 0)).all isLst = true then _ else _) = _
    rw [if_pos (by rw [List.all_map, List.all_eq_true]; intro _ _; rfl)]
    rw [List.map_mergeSort (s := leLen) fun a _ b _ => rfl]
  have n0 : PyData.int 0 = nD 0 := rfl
  simp only [v_primes_of_answers, s_ret, s_bind, e_new, e_bind, e_sortLen, e_call, e_cons, e_V, List.getElem?_cons_zero, List.getElem?_cons_succ, e_nil, e_ret, n0, e_lift_some, lc, go, so, o_rt]
theorem g_find_primes_ok (A : Ask ns x) {r : Bool} : g_find_prime_rules [nsD ns, x.D, .bool r] = some (.list ((pms ns x r).map (rlD 0))) := by
  rw [r_find_prime_rules]
  have gp := g_primes_ok A.sz A.sm (anss_len (x := x)) (r := r)
  have ga := g_all_answers_ok A
  simp only [v_find_prime_rules, s_ret, s_bind, e_call, e_bind, e_cons, e_V, List.getElem?_cons_zero, List.getElem?_cons_succ, e_nil, e_ret, e_lift_some, ga, gp, o_rt]
  rfl
theorem g_prime_rules_ok (A : Ask ns x) {r : Bool} : g_prime_rules [nsD ns, x.D, .bool r] = some (.list ((pms ns x r).map (rlD 0))) := by
  have ca : g_check_answer [.bool r] = some .none := by
    rw [r_check_answer]
    simp [v_check_answer]
  have cf : g_p_check_form_and_answer [nsD ns, x.D, .bool r] = some .none := by
    rw [r_p_check_form_and_answer]
    simp [v_p_check_form_and_answer, g_check_sizes_ok A.sz, g_check_form_ok A.sz A.ok A.s, ca]
  rw [r_prime_rules]
  simp [v_prime_rules, cf, g_check_small_ok A.sz A.sm, g_find_primes_ok A]
end DL
namespace DL
open PySem PySem.Spec PyProof.Rows L2 Lk
variable {ns S : List Nat} {W : List Nat → Bool} {h : Hf} {x : Frm}
def kn (h : Hf) : Nat := (h.filter Option.isSome).length
theorem kn_set : ∀ {h : Hf} {i v : Nat}, h[i]? = some (some v) → kn (h.set i none) < kn h
  | [], i, v, e => by simp at e
  | o :: h, 0, v, e => by
    cases e
    unfold kn
    simp
  | o :: h, i + 1, v, e => by
    have := kn_set (h := h) (i := i) (v := v) (by simpa using e)
    unfold kn at *
    rw [List.set_cons_succ]
    cases o <;> simp [List.filter_cons] <;> omega
theorem cmpV_iff : ∀ {hs : Hf} {cs : List Nat}, hs.length = cs.length → (cmpB hs cs = true ↔ ∀ (k v : Nat), hs[k]? = some (some v) → cs[k]? = some v)
  | [], [], _ => by simp [cmpB]
  | [], _ :: _, h => by simp at h
  | _ :: _, [], h => by simp at h
  | o :: hs, c :: cs, h => by
    have ih := cmpV_iff (hs := hs) (cs := cs) (by simpa using h)
    have st : (∀ (k v : Nat), (o :: hs)[k]? = some (some v) → (c :: cs)[k]? = some v) ↔ (∀ v, o = some v → c = v) ∧ ∀ (k v : Nat), hs[k]? = some (some v) → cs[k]? = some v := by
      constructor
      · intro H
        refine ⟨fun v e => ?_, fun k v e => ?_⟩
        · have := H 0 v (by rw [e]; rfl)
          simpa using this
        · have := H (k + 1) v (by simpa using e)
          simpa using this
      · rintro ⟨h1, h2⟩ k v e
        cases k with
        | zero => have := h1 v (by simpa using e); rw [this]; rfl
        | succ k => have := h2 k v (by simpa using e); simpa using this
    rw [st]
    cases o with
    | none =>
      rw [cmpB, ih]
      simp
    | some v =>
      rw [cmpB, Bool.and_eq_true, ih, beq_iff_eq]
      constructor
      · rintro ⟨rfl, h2⟩; exact ⟨fun w e => by cases e; rfl, h2⟩
      · rintro ⟨h1, h2⟩; exact ⟨(h1 v rfl).symm, h2⟩
theorem half_setN {i : Nat} (H : Half S h) : Half S (h.set i none) := by
  refine ⟨by rw [List.length_set]; exact H.1, fun j n v e1 e2 => ?_⟩
  rw [List.getElem?_set] at e2
  split at e2
  · split at e2 <;> simp at e2
  · exact H.2 j n v e1 e2
end DL
namespace DL
open PySem PySem.Spec PyProof.Rows L2 Lk
end DL
namespace DL
open PySem PySem.Spec PyProof.Rows L2 Lk
variable {ns S : List Nat} {W : List Nat → Bool} {h : Hf} {x : Frm}
theorem prD0 {p : Nat × Nat} : ixM (prD p) (.int 0) = some (nD p.1) := e_at0
theorem rlp_has : ∀ {h : Hf} {b f v : Nat}, h[f]? = some (some v) → (b + f, v) ∈ rlp b h
  | [], b, f, v, e => by simp at e
  | none :: h, b, 0, v, e => by simp at e
  | none :: h, b, f + 1, v, e => by
    have := rlp_has (h := h) (b := b + 1) (f := f) (v := v) (by simpa using e)
    have q : b + (f + 1) = b + 1 + f := by omega
    rw [q]
    exact this
  | some u :: h, b, 0, v, e => by
    cases e
    exact List.mem_cons_self
  | some u :: h, b, f + 1, v, e => by
    have := rlp_has (h := h) (b := b + 1) (f := f) (v := v) (by simpa using e)
    have q : b + (f + 1) = b + 1 + f := by omega
    rw [q]
    exact List.mem_cons_of_mem _ this
end DL
namespace DL
open PySem PySem.Spec PyProof.Rows L2 Lk
variable {ns S : List Nat} {W : List Nat → Bool} {h : Hf} {x : Frm}
def MM (ns : List Nat) (P : Hf → Prop) (g : Nat) : Prop := (∀ d, Case ns d → (∃ h, P h ∧ cmpB h d = true) → ∃ h, P h ∧ cmpB h d = true ∧ kn h ≤ g) ∧ (g = 0 ∨ ∃ d, Case ns d ∧ (∃ h, P h ∧ cmpB h d = true) ∧ ∀ h, P h → cmpB h d = true → g ≤ kn h)
theorem MM.le {P : Hf → Prop} {g k : Nat} (a : MM ns P g) (b : MM ns P k) : g ≤ k := by
  rcases a.2 with h | ⟨d, hd, hc, h⟩
  · omega
  · obtain ⟨z, h1, h2, h3⟩ := b.1 d hd hc
    have := h z h1 h2
    omega
theorem MM.uniq {P : Hf → Prop} {g k : Nat} (a : MM ns P g) (b : MM ns P k) : g = k := Nat.le_antisymm (a.le b) (b.le a)
theorem rlp_kn : ∀ {h : Hf} {b : Nat}, (rlp b h).length = kn h
  | [], b => rfl
  | none :: h, b => by
    show (rlp (b + 1) h).length = _
    rw [rlp_kn]
    unfold kn
    simp
  | some v :: h, b => by
    have := rlp_kn (h := h) (b := b + 1)
    unfold kn at *
    rw [rlp, List.length_cons, this]
    simp
theorem len_rl : lenM [rlD 0 h] = some (nD (kn h)) := by
  show lenM [.tuple ((rlp 0 h).map prD)] = _
  rw [e_lenT, List.length_map, rlp_kn]
  rfl
theorem leLen_rl {a b : Hf} : leLen (rlD 0 a) (rlD 0 b) = decide (kn a ≤ kn b) := by
  have la : ∀ h : Hf, lenOf (rlD 0 h) = kn h := fun h => by
    show ((rlp 0 h).map prD).length = _
    rw [List.length_map, rlp_kn]
  unfold leLen
  rw [la, la]
  congr 1
  exact propext Int.ofNat_le
end DL
namespace Fa
open PySem PySem.Spec PyProof.Rows L2
def lset (n b : Nat) : List Nat := (List.range n).filter b.testBit
end Fa
namespace DL
open PySem PySem.Spec PyProof.Rows L2 Lk
end DL
namespace DL
open PySem PySem.Spec PyProof.Rows L2 Lk
structure Least (M L : List Nat) : Prop where
  sub : ∀ x ∈ L, x ∈ M
  cov : ∀ y ∈ M, ∃ x ∈ L, x &&& y = x
  min : ∀ x ∈ L, ∀ y ∈ M, y &&& x = y → y = x
end DL
namespace DL
open PySem PySem.Spec PyProof.Rows L2 Lk
end DL
namespace DL
open PySem PySem.Spec PyProof.Rows L2 Lk
variable {n : Nat} {S rows : List Nat}
end DL
namespace DL
open PySem PySem.Spec PyProof.Rows L2 Lk
end DL
namespace DL
open PySem PySem.Spec PyProof.Rows L2 Lk
variable {n : Nat}
theorem pair_or {α : Type} {a b : α} : ∀ {l : List α}, a ∈ l → b ∈ l → a ≠ b → List.Sublist [a, b] l ∨ List.Sublist [b, a] l
  | [], h, _, _ => by cases h
  | x :: l, ha, hb, hn => by
    by_cases ea : a = x
    · subst ea
      have hb' : b ∈ l := (List.mem_cons.mp hb).resolve_left fun e => hn e.symm
      exact .inl (List.Sublist.cons_cons _ (List.singleton_sublist.mpr hb'))
    · have ha' : a ∈ l := (List.mem_cons.mp ha).resolve_left ea
      by_cases eb : b = x
      · subst eb
        exact .inr (List.Sublist.cons_cons _ (List.singleton_sublist.mpr ha'))
      · have hb' : b ∈ l := (List.mem_cons.mp hb).resolve_left eb
        rcases pair_or ha' hb' hn with h | h
        · exact .inl (h.cons _)
        · exact .inr (h.cons _)
theorem pair_no {α : Type} {a b : α} : ∀ {l : List α}, l.Nodup → List.Sublist [a, b] l → List.Sublist [b, a] l → False
  | [], _, h, _ => by cases h
  | x :: l, hn, h1, h2 => by
    obtain ⟨nx, nl⟩ := List.nodup_cons.mp hn
    cases h1 with
    | cons _ h1 =>
      cases h2 with
      | cons _ h2 => exact pair_no nl h1 h2
      | cons_cons _ h2 => exact nx (h1.subset (by simp))
    | cons_cons _ h1 =>
      cases h2 with
      | cons _ h2 => exact nx (h2.subset (by simp))
      | cons_cons _ h2 => exact nx (List.singleton_sublist.mp h1)
theorem stable {α : Type} {le : α → α → Bool} (tr : ∀ a b c : α, le a b = true → le b c = true → le a c = true) (tot : ∀ a b : α, (le a b || le b a) = true) {P : α → α → Prop} {l : List α} (hn : l.Nodup) (hp : l.Pairwise P) :
    (l.mergeSort le).Pairwise fun a b => le a b = true ∧ (le b a = true → P a b) := by
  rw [List.pairwise_iff_forall_sublist]
  intro a b hs
  have nd : (l.mergeSort le).Nodup := (List.mergeSort_perm l le).nodup_iff.mpr hn
  have h1 := List.pairwise_iff_forall_sublist.mp (List.pairwise_mergeSort tr tot l) hs
  refine ⟨h1, fun h2 => ?_⟩
  have ne : a ≠ b := List.pairwise_iff_forall_sublist.mp nd hs
  have ma : a ∈ l := (List.mergeSort_perm l le).mem_iff.mp (hs.subset (by simp))
  have mb : b ∈ l := (List.mergeSort_perm l le).mem_iff.mp (hs.subset (by simp))
  rcases pair_or ma mb ne with h | h
  · exact List.pairwise_iff_forall_sublist.mp hp h
  · exact (pair_no nd hs (List.pair_sublist_mergeSort tr tot h2 h)).elim
end DL
namespace DL
open PySem PySem.Spec PyProof.Rows L2 Lk
variable {ns S : List Nat} {W : List Nat → Bool} {h g : Hf} {x : Frm}
def lexC : Hf → Hf → Prop
  | some v :: h, some w :: g => v < w ∨ (v = w ∧ lexC h g)
  | some _ :: _, none :: _ => True
  | none :: h, none :: g => lexC h g
  | _, _ => False
theorem lexC_irr : ∀ {h : Hf}, lexC h h → False
  | [], e => by simp [lexC] at e
  | none :: h, e => lexC_irr (h := h) (by simpa [lexC] using e)
  | some v :: h, e => lexC_irr (h := h) (by simpa [lexC] using e)
theorem prm_lex : ∀ {S : List Nat} {R : List Bool}, (prm S R).Pairwise lexC
  | [], R => by
    rw [prm_nil]
    split
    · exact .nil
    · split
      · exact List.pairwise_singleton _ _
      · exact .nil
  | n :: S, R => by
    rw [prm_cons]
    split
    · exact .nil
    · split
      · exact List.pairwise_singleton _ _
      · rw [List.pairwise_append]
        refine ⟨List.pairwise_flatMap.mpr ⟨fun v _ => ?_, ?_⟩, ?_, ?_⟩
        · rw [List.pairwise_map]
          exact ((prm_lex (S := S)).filter _).imp fun p => by
            rw [lexC]
            exact .inr ⟨rfl, p⟩
        · refine List.pairwise_lt_range.imp fun {v w} hvw a ha b hb => ?_
          obtain ⟨h, _, rfl⟩ := List.mem_map.mp ha
          obtain ⟨g, _, rfl⟩ := List.mem_map.mp hb
          rw [lexC]
          exact .inl hvw
        · rw [List.pairwise_map]
          exact (prm_lex (S := S)).imp fun p => by
            rw [lexC]
            exact p
        · intro a ha b hb
          obtain ⟨v, _, ha⟩ := List.mem_flatMap.mp ha
          obtain ⟨h, _, rfl⟩ := List.mem_map.mp ha
          obtain ⟨g, _, rfl⟩ := List.mem_map.mp hb
          rw [lexC]
          trivial
theorem prm_nodup {S : List Nat} {R : List Bool} : (prm S R).Nodup := prm_lex.imp fun p e => by
  subst e
  exact lexC_irr p
theorem pms_nodup {r : Bool} : (pms ns x r).Nodup := (List.mergeSort_perm _ _).nodup_iff.mpr prm_nodup
theorem pms_lex {r : Bool} : (pms ns x r).Pairwise fun h g => kn h < kn g ∨ (kn h = kn g ∧ lexC h g) := by
  have st := stable (le := fun a b => leLen (rlD 0 a) (rlD 0 b)) (fun a b c => by
    simp only [leLen_rl, decide_eq_true_eq]
    exact Nat.le_trans) (fun a b => by
    simp only [leLen_rl, Bool.or_eq_true, decide_eq_true_eq]
    exact Nat.le_total _ _) (prm_nodup (S := ns) (R := (anss ns x).map (· == r))) prm_lex
  have st : (pms ns x r).Pairwise _ := st
  refine st.imp fun {h g} p => ?_
  simp only [leLen_rl, decide_eq_true_eq] at p
  rcases Nat.lt_or_ge (kn h) (kn g) with c | c
  · exact .inl c
  · exact .inr ⟨Nat.le_antisymm p.1 c, p.2 c⟩
abbrev lnD (h : Hf) : PyData := .tuple [nD (kn h), rlD 0 h]
theorem keyN_ln (h : Hf) : keyN (lnD h) = some (.tup [.num (kn h : Int), rlK 0 h]) := by
  rw [keyN, keyNs, keyNs, keyN_rl, keyNs]
  show Option.map _ (Option.bind (keyN (.int (kn h : Int))) _) = _
  rw [keyN]
  rfl
theorem alike_pr (p q : Nat × Nat) : PySem.W.alike (prD p) (prD q) = true := by
  show PySem.W.alike (.tuple [.int _, .int _]) (.tuple [.int _, .int _]) = true
  simp [PySem.W.alike, PySem.W.alikeAll]
theorem alike_prs : ∀ (l m : List (Nat × Nat)), PySem.W.alikeAll (l.map prD) (m.map prD) = true
  | [], m => by rw [List.map_nil, PySem.W.alikeAll]
  | _ :: _, [] => by rw [List.map_nil, List.map_cons, PySem.W.alikeAll]
  | p :: l, q :: m => by rw [List.map_cons, List.map_cons, PySem.W.alikeAll, alike_pr, alike_prs l m]; rfl
theorem alike_rl (h g : Hf) : PySem.W.alike (rlD 0 h) (rlD 0 g) = true := by
  unfold rlD
  rw [PySem.W.alike]
  exact alike_prs _ _
theorem alike_ln (h g : Hf) : PySem.W.alike (lnD h) (lnD g) = true := by
  show PySem.W.alike (.tuple [.int _, _]) (.tuple [.int _, _]) = true
  rw [PySem.W.alike, PySem.W.alikeAll, PySem.W.alikeAll, PySem.W.alikeAll, alike_rl]
  simp [PySem.W.alike]
theorem depth_prs : ∀ (l : List (Nat × Nat)), PyData.depthAll (l.map prD) ≤ 1
  | [] => by rw [List.map_nil, PyData.depthAll]; omega
  | p :: l => by
    have := depth_prs l
    have e : PyData.depth (prD p) = 1 := by
      show PyData.depth (.tuple [.int _, .int _]) = 1
      simp [PyData.depth, PyData.depthAll]
    rw [List.map_cons, PyData.depthAll, e]
    omega
theorem okN1_ln (h : Hf) : okN1 (lnD h) = true := by
  have k2 : (rlK 0 h).depth ≤ 2 := by
    unfold rlK
    rw [NestedKey.depth]
    have := depthAll_pr (rlp 0 h)
    omega
  have d2 : PyData.depth (rlD 0 h) ≤ 2 := by
    unfold rlD
    rw [PyData.depth]
    have := depth_prs (rlp 0 h)
    omega
  have e1 : (NestedKey.tup [.num (kn h : Int), rlK 0 h]).depth ≤ 8 := by
    simp only [NestedKey.depth, NestedKey.depthAll]
    omega
  have e2 : PyData.depth (.tuple [nD (kn h), rlD 0 h]) ≤ 8 := by
    have e0 : PyData.depth (nD (kn h)) = 0 := by
      show PyData.depth (.int _) = 0
      rw [PyData.depth]
    simp only [PyData.depth, PyData.depthAll, e0]
    omega
  show (match keyN (lnD h) with
    | some k => decide (k.depth ≤ 8) && decide (PyData.depth (lnD h) ≤ 8)
    | none => false) = true
  rw [keyN_ln]
  show (decide _ && decide _) = true
  rw [decide_eq_true e1, decide_eq_true e2]
  rfl
theorem okN_ln (L : List Hf) : okN (L.map lnD) = true := by
  unfold okN
  rw [Bool.and_eq_true]
  constructor
  · rw [List.all_map, List.all_eq_true]
    intro a _
    exact okN1_ln a
  · rw [List.all_map, List.all_eq_true]
    intro a _
    show (List.map lnD L).all _ = true
    rw [List.all_map, List.all_eq_true]
    intro b _
    exact alike_ln a b
theorem pr_lt {p q : Nat × Nat} (h : p.1 < q.1 ∨ (p.1 = q.1 ∧ p.2 < q.2)) : PyData.eqv (prD p) (prD q) = false ∧ PySem.W.dataLt (prD p) (prD q) = true := by
  constructor
  · show PyData.eqv (.tuple [.int _, .int _]) (.tuple [.int _, .int _]) = false
    simp only [PyData.eqv, PyData.eqvAll, Bool.and_true]
    rw [Bool.eq_false_iff]
    intro e
    rw [Bool.and_eq_true, beq_iff_eq, beq_iff_eq] at e
    omega
  · show PySem.W.dataLt (.tuple [.int _, .int _]) (.tuple [.int _, .int _]) = true
    rw [PySem.W.dataLt_ii, decide_eq_true_eq]
    omega
theorem pr_same (p : Nat × Nat) : PyData.eqv (prD p) (prD p) = true := by
  show PyData.eqv (.tuple [.int _, .int _]) (.tuple [.int _, .int _]) = true
  simp [PyData.eqv, PyData.eqvAll]
theorem rl_lt : ∀ {h g : Hf} {b : Nat}, h.length = g.length → kn h = kn g → lexC h g → PySem.W.rowLt ((rlp b h).map prD) ((rlp b g).map prD) = true
  | [], _, _, _, _, e => by simp [lexC] at e
  | some _ :: _, [], _, _, _, e => by simp [lexC] at e
  | none :: _, [], _, _, _, e => by simp [lexC] at e
  | none :: _, some _ :: _, _, _, _, e => by simp [lexC] at e
  | none :: h, none :: g, b, hl, hk, e => by
    rw [lexC] at e
    exact rl_lt (h := h) (g := g) (b := b + 1) (by simpa using hl) (by simpa [kn] using hk) e
  | some v :: h, none :: g, b, hl, hk, _ => by
    have kg : kn (none :: g) = kn g := by simp [kn]
    have kh : kn (some v :: h) = kn h + 1 := by simp [kn]
    rw [kg, kh] at hk
    show PySem.W.rowLt (prD (b, v) :: (rlp (b + 1) h).map prD) ((rlp (b + 1) g).map prD) = true
    cases r : rlp (b + 1) g with
    | nil =>
      have := rlp_kn (h := g) (b := b + 1)
      rw [r] at this
      simp at this
      omega
    | cons q l =>
      have ge := rlp_ge (h := g) (f := b + 1) (p := q) (by rw [r]; exact List.mem_cons_self)
      obtain ⟨e1, e2⟩ := pr_lt (p := (b, v)) (q := q) (.inl (by show b < q.1; omega))
      rw [List.map_cons]
      unfold PySem.W.rowLt
      rw [PySem.W.dataLt_cons (alike_pr _ _), e1]
      exact e2
  | some v :: h, some w :: g, b, hl, hk, e => by
    rw [lexC] at e
    show PySem.W.rowLt (prD (b, v) :: (rlp (b + 1) h).map prD) (prD (b, w) :: (rlp (b + 1) g).map prD) = true
    rcases e with e | ⟨rfl, e⟩
    · obtain ⟨e1, e2⟩ := pr_lt (p := (b, v)) (q := (b, w)) (.inr ⟨rfl, e⟩)
      unfold PySem.W.rowLt
      rw [PySem.W.dataLt_cons (alike_pr _ _), e1]
      exact e2
    · have := rl_lt (h := h) (g := g) (b := b + 1) (by simpa using hl) (by simpa [kn] using hk) e
      unfold PySem.W.rowLt at this ⊢
      rw [PySem.W.dataLt_cons (alike_pr _ _), pr_same, if_pos rfl]
      exact this
theorem dlt_ln (hl : h.length = g.length) (o : kn h < kn g ∨ (kn h = kn g ∧ lexC h g)) : dlt (lnD h) (lnD g) = true := by
  show PySem.W.dataLt (.tuple [.int (kn h : Int), rlD 0 h]) (.tuple [.int (kn g : Int), rlD 0 g]) = true
  rw [PySem.W.dataLt_pair (by simp [PySem.W.alike]) (alike_rl h g)]
  rcases o with o | ⟨o, e⟩
  · have : PyData.eqv (.int (kn h : Int)) (.int (kn g : Int)) = false := by
      simp [PyData.eqv]
      omega
    rw [this]
    simp only [Bool.false_eq_true, if_false]
    rw [PySem.W.dataLt_int]
    simp
    omega
  · have e1 : PyData.eqv (.int (kn h : Int)) (.int (kn g : Int)) = true := by
      simp [PyData.eqv]
      omega
    have lt : PySem.W.dataLt (rlD 0 h) (rlD 0 g) = true := by
      unfold rlD
      rw [PySem.W.dataLt_tuple]
      exact rl_lt hl o e
    rw [e1]
    simp only [if_true]
    cases q : PyData.eqv (rlD 0 h) (rlD 0 g) with
    | false => simp only [Bool.false_eq_true, if_false]; exact lt
    | true =>
      have e := keyN_eqv keyN_rl keyN_rl q
      rw [e] at lt
      have : PySem.W.dataLt (rlD 0 g) (rlD 0 g) = false := dlt_irr _
      rw [this] at lt
      cases lt
/-- rules in their order -/
theorem sortN_ln {n : Nat} {X R : List Hf} (hl : ∀ h ∈ R, h.length = n) (up : R.Pairwise fun h g => kn h < kn g ∨ (kn h = kn g ∧ lexC h g)) (m : ∀ h, h ∈ R ↔ h ∈ X) (few : R.length < 77) : sortNM (.list (X.map lnD)) = some (R.map lnD) :=
  sortNM_is (okN_ln X) (List.pairwise_map.mpr (up.imp_of_mem fun {h g} hh hg o => dlt_ln ((hl h hh).trans (hl g hg).symm) o)) (fun d => by
    rw [List.mem_map, List.mem_map]
    constructor
    · rintro ⟨x, hx, e⟩; exact ⟨x, (m x).mp hx, e⟩
    · rintro ⟨x, hx, e⟩; exact ⟨x, (m x).mpr hx, e⟩) (by rw [List.length_map]; exact few)
end DL
namespace DL
open PySem PySem.Spec PyProof.Rows L2 Lk
variable {ns S : List Nat} {W : List Nat → Bool} {h : Hf} {x : Frm}
theorem MM.step {L : List Hf} {g : Nat} {p : List Nat → Bool} (m : MM ns (· ∈ L) g) (h1 : ∀ q ∈ L, kn q ≤ kn h) (h2 : g ≤ kn h) (hp : ∀ d, Case ns d → p d = L.any (cmpB · d)) :
    MM ns (· ∈ L ++ [h]) (if ((allc ns).filter (cmpB h)).any (fun d => !p d) = true then kn h else g) := by
  by_cases nw : ((allc ns).filter (cmpB h)).any (fun d => !p d) = true
  · rw [if_pos nw]
    obtain ⟨d0, hd0, n0⟩ := List.any_eq_true.mp nw
    obtain ⟨a0, c0⟩ := List.mem_filter.mp hd0
    have k0 : Case ns d0 := mem_allc.mp a0
    refine ⟨fun d hd ⟨z, hz, ez⟩ => ⟨z, hz, ez, ?_⟩, .inr ⟨d0, k0, ⟨h, by simp, c0⟩, fun z hz ez => ?_⟩⟩
    · rcases List.mem_append.mp hz with hz | hz
      · exact h1 z hz
      · rw [List.mem_singleton.mp hz]; exact Nat.le_refl _
    · rcases List.mem_append.mp hz with hz | hz
      · rw [hp d0 k0] at n0
        rw [List.any_eq_true.mpr ⟨z, hz, ez⟩] at n0
        cases n0
      · rw [List.mem_singleton.mp hz]; exact Nat.le_refl _
  · rw [if_neg nw]
    have old : ∀ d, Case ns d → cmpB h d = true → ∃ z, z ∈ L ∧ cmpB z d = true := fun d hd e => by
      cases q : p d with
      | true =>
        rw [hp d hd] at q
        obtain ⟨z, hz, ez⟩ := List.any_eq_true.mp q
        exact ⟨z, hz, ez⟩
      | false => exact absurd (List.any_eq_true.mpr ⟨d, List.mem_filter.mpr ⟨mem_allc.mpr hd, e⟩, by rw [q]; rfl⟩) nw
    refine ⟨fun d hd ⟨z, hz, ez⟩ => ?_, ?_⟩
    · have : ∃ z, z ∈ L ∧ cmpB z d = true := by
        rcases List.mem_append.mp hz with hz | hz
        · exact ⟨z, hz, ez⟩
        · rw [List.mem_singleton.mp hz] at ez
          exact old d hd ez
      obtain ⟨y, hy, ey, ly⟩ := m.1 d hd this
      exact ⟨y, by simp [hy], ey, ly⟩
    · rcases m.2 with e | ⟨d, hd, ⟨z, hz, ez⟩, e⟩
      · exact .inl e
      · refine .inr ⟨d, hd, ⟨z, by simp [hz], ez⟩, fun y hy ey => ?_⟩
        rcases List.mem_append.mp hy with hy | hy
        · exact e y hy ey
        · rw [List.mem_singleton.mp hy]; exact h2
end DL
namespace DL
open PySem PySem.Spec PyProof.Rows L2 Lk
end DL
namespace DL
open PySem PySem.Spec PyProof.Rows L2 Lk
variable {ns S : List Nat} {W : List Nat → Bool} {h : Hf} {x : Frm}
def partK (ns : List Nat) : Nat → List Hf
  | 0 => [[]]
  | k + 1 => (partK ns k).map (fun h => h ++ [none]) ++ (partK ns k).flatMap fun h => (List.range (ns.getD k 0)).map fun p => h ++ [some p]
theorem half_snoc55 {n : Nat} {o : Option Nat} (hl : h.length = S.length) : Half (S ++ [n]) (h ++ [o]) ↔ Half S h ∧ ∀ v, o = some v → v < n := by
  constructor
  · intro H
    refine ⟨⟨hl, fun i m v e1 e2 => ?_⟩, fun v e => ?_⟩
    · have l1 := (List.getElem?_eq_some_iff.mp e1).1
      exact H.2 i m v (by rw [List.getElem?_append_left l1]; exact e1) (by rw [List.getElem?_append_left (by omega)]; exact e2)
    · exact H.2 S.length n v (by rw [List.getElem?_append_right (Nat.le_refl _)]; simp) (by rw [List.getElem?_append_right (by omega), hl, e]; simp)
  · rintro ⟨H, H2⟩
    refine ⟨by simp [hl], fun i m v e1 e2 => ?_⟩
    by_cases hi : i < S.length
    · rw [List.getElem?_append_left hi] at e1
      rw [List.getElem?_append_left (by omega)] at e2
      exact H.2 i m v e1 e2
    · rw [List.getElem?_append_right (by omega)] at e1
      rw [List.getElem?_append_right (by omega)] at e2
      cases q : i - S.length with
      | zero =>
        rw [q] at e1
        have q2 : i - h.length = 0 := by omega
        rw [q2] at e2
        cases e1
        exact H2 v (by simpa using e2)
      | succ j => rw [q] at e1; simp at e1
theorem mem_partK : ∀ {k : Nat} {h : Hf}, k ≤ ns.length → (h ∈ partK ns k ↔ Half (ns.take k) h)
  | 0, h, _ => by
    rw [partK, List.mem_singleton, List.take_zero]
    exact ⟨fun e => by rw [e]; exact Half.nil, fun H => List.eq_nil_of_length_eq_zero H.1⟩
  | k + 1, h, hk => by
    have lk : k < ns.length := hk
    have tk : ns.take (k + 1) = ns.take k ++ [ns[k]] := by rw [List.take_add_one, List.getElem?_eq_getElem lk]; rfl
    have gd : ns.getD k 0 = ns[k] := getD_of (List.getElem?_eq_getElem lk)
    rw [partK, tk, gd, List.mem_append]
    constructor
    · rintro (e | e)
      · obtain ⟨g, hg, rfl⟩ := List.mem_map.mp e
        have hh := (mem_partK (Nat.le_of_lt lk)).mp hg
        exact (half_snoc55 hh.1).mpr ⟨hh, fun v z => by cases z⟩
      · obtain ⟨g, hg, e⟩ := List.mem_flatMap.mp e
        obtain ⟨p, hp, rfl⟩ := List.mem_map.mp e
        have hh := (mem_partK (Nat.le_of_lt lk)).mp hg
        exact (half_snoc55 hh.1).mpr ⟨hh, fun v z => by cases z; exact List.mem_range.mp hp⟩
    · intro H
      have hne : h ≠ [] := fun z => by have := H.1; rw [z] at this; simp at this; omega
      obtain ⟨g, o, rfl⟩ : ∃ g o, h = g ++ [o] := ⟨h.dropLast, h.getLast hne, (List.dropLast_concat_getLast hne).symm⟩
      have lg : g.length = (ns.take k).length := by have := H.1; simp at this ⊢; omega
      obtain ⟨H1, H2⟩ := (half_snoc55 lg).mp H
      have hg := (mem_partK (Nat.le_of_lt lk)).mpr H1
      cases o with
      | none => exact .inl (List.mem_map.mpr ⟨g, hg, rfl⟩)
      | some p => exact .inr (List.mem_flatMap.mpr ⟨g, hg, List.mem_map.mpr ⟨p, List.mem_range.mpr (H2 p rfl), rfl⟩⟩)
theorem partK_len : ∀ {k : Nat}, k ≤ ns.length → (partK ns k).length = pls (ns.take k)
  | 0, _ => rfl
  | k + 1, hk => by
    have lk : k < ns.length := hk
    have tk : ns.take (k + 1) = ns.take k ++ [ns[k]] := by rw [List.take_add_one, List.getElem?_eq_getElem lk]; rfl
    have gd : ns.getD k 0 = ns[k] := getD_of (List.getElem?_eq_getElem lk)
    have ih := partK_len (k := k) (Nat.le_of_lt lk)
    have fl : ∀ L : List Hf, (L.flatMap fun h => (List.range ns[k]).map fun p => h ++ [some p]).length = L.length * ns[k] := fun L => by
      induction L with
      | nil => simp
      | cons a L ih => rw [List.flatMap_cons, List.length_append, ih, List.length_map, List.length_range, List.length_cons, Nat.succ_mul]; omega
    rw [partK, List.length_append, List.length_map, gd, fl, ih, tk]
    unfold pls
    rw [List.map_append, prod_app]
    show _ = _ * ((ns[k] + 1) * 1)
    rw [Nat.mul_one, Nat.mul_add, Nat.mul_one]
    omega
end DL
namespace DL
open PySem PySem.Spec PyProof.Rows L2 Lk
variable {ns S : List Nat} {W : List Nat → Bool} {h g : Hf} {x : Frm}
def AC (P : List Hf) : Prop := ∀ h ∈ P, ∀ i v : Nat, h[i]? = some (some v) → h.set i none ∉ P
theorem len_parts {α : Type} : ∀ (P : List α) (p : α → Bool), P.length = (P.filter p).length + (P.filter fun h => !p h).length
  | [], _ => rfl
  | a :: P, p => by
    have ih := len_parts P p
    rw [List.filter_cons, List.filter_cons, List.length_cons]
    cases q : p a <;> simp <;> omega
theorem fib_len {B : Nat} : ∀ (O : List (Option Nat)) (P : List Hf), (∀ h ∈ P, ∃ o ∈ O, h.head? = some o) → (∀ o ∈ O, (P.filter fun h => h.head? == some o).length ≤ B) → P.length ≤ O.length * B
  | [], P, h, _ => by
    cases P with
    | nil => simp
    | cons a P =>
      obtain ⟨o, ho, _⟩ := h a List.mem_cons_self
      cases ho
  | o :: O, P, h, hb => by
    have e := len_parts P (fun h => h.head? == some o)
    have ih := fib_len O (P.filter fun h => !(h.head? == some o)) (fun a ha => by
      obtain ⟨ma, na⟩ := List.mem_filter.mp ha
      obtain ⟨u, hu, eu⟩ := h a ma
      rcases List.mem_cons.mp hu with rfl | hu
      · rw [eu] at na
        simp at na
      · exact ⟨u, hu, eu⟩) (fun u hu => by
      refine Nat.le_trans (List.Sublist.length_le ?_) (hb u (List.mem_cons_of_mem _ hu))
      exact (List.filter_sublist (l := P)).filter _)
    have b0 := hb o List.mem_cons_self
    rw [List.length_cons, Nat.succ_mul]
    omega
def bnd : List Nat → Nat
  | [] => 1
  | n :: S => min (n * pls S) ((n + 1) * bnd S)
theorem head_some {h : Hf} {o : Option Nat} (e : h.head? = some o) : ∃ t, h = o :: t := by
  cases h with
  | nil => simp at e
  | cons a t =>
    simp at e
    exact ⟨t, by rw [e]⟩
theorem fib_tails {P : List Hf} {o : Option Nat} (nd : P.Nodup) : ((P.filter fun h => h.head? == some o).map List.tail).Nodup := by
  refine List.pairwise_map.mpr (((nd.filter _)).imp_of_mem fun {a b} ha hb hne e => hne ?_)
  have h1 := (List.mem_filter.mp ha).2
  have h2 := (List.mem_filter.mp hb).2
  obtain ⟨t, rfl⟩ := head_some (beq_iff_eq.mp h1)
  obtain ⟨u, rfl⟩ := head_some (beq_iff_eq.mp h2)
  have e : t = u := e
  rw [e]
def colZ : Hf → Hf
  | some 0 :: t => none :: t
  | h => h
theorem colZ_inj {P : List Hf} (ac : AC P) {a b : Hf} (ha : a ∈ P) (hb : b ∈ P) (e : colZ a = colZ b) : a = b := by
  have key : ∀ {t : Hf} {c : Hf}, (some 0 :: t) ∈ P → c ∈ P → none :: t = c → False := fun {t c} h1 h2 e => ac _ h1 0 0 rfl (by
    rw [List.set_cons_zero, e]
    exact h2)
  cases a with
  | nil =>
    cases b with
    | nil => rfl
    | cons o u =>
      cases o with
      | none => cases e
      | some v => cases v <;> cases e
  | cons o t =>
    cases b with
    | nil =>
      cases o with
      | none => cases e
      | some v => cases v <;> cases e
    | cons o' u =>
      cases o with
      | none =>
        cases o' with
        | none => exact e
        | some w =>
          cases w with
          | zero => exact (key hb ha (by exact e.symm)).elim
          | succ w => exact e
      | some v =>
        cases v with
        | zero =>
          cases o' with
          | none => exact (key ha hb (by exact e)).elim
          | some w =>
            cases w with
            | zero =>
              have e : (none : Option Nat) :: t = none :: u := e
              rw [(List.cons.inj e).2]
            | succ w => exact absurd (List.cons.inj e).1 (by simp)
        | succ v =>
          cases o' with
          | none => exact e
          | some w =>
            cases w with
            | zero => exact absurd (List.cons.inj e).1 (by simp)
            | succ w => exact e
theorem ac_bound : ∀ {S : List Nat} {P : List Hf}, (∀ n ∈ S, 0 < n) → P.Nodup → (∀ h ∈ P, Half S h) → AC P → P.length ≤ bnd S
  | [], P, _, nd, hh, _ => by
    have : ∀ h ∈ P, h ∈ [([] : Hf)] := fun h m => by
      have := (hh h m).1
      cases h with
      | nil => simp
      | cons _ _ => simp at this
    exact nodup_within P [[]] nd this
  | n :: S, P, hp, nd, hh, ac => by
    have pn := hp n List.mem_cons_self
    have pS : ∀ m ∈ S, 0 < m := fun m hm => hp m (List.mem_cons_of_mem _ hm)
    have hd : ∀ h ∈ P, ∃ o t, h = o :: t ∧ (∀ v, o = some v → v < n) ∧ Half S t := fun h m => by
      have H := hh h m
      cases h with
      | nil => have := H.1; simp at this
      | cons o t =>
        obtain ⟨h1, h2⟩ := half_cons.mp H
        exact ⟨o, t, rfl, h1, h2⟩
    rw [bnd, Nat.le_min]
    constructor
    · have ndc : (P.map colZ).Nodup := List.pairwise_map.mpr (nd.imp_of_mem fun {a b} ha hb hne e => hne (colZ_inj ac ha hb e))
      have hc : ∀ h ∈ P.map colZ, ∃ o t, h = o :: t ∧ (∀ v, o = some v → v < n ∧ v ≠ 0) ∧ Half S t := fun h m => by
        obtain ⟨g, hg, rfl⟩ := List.mem_map.mp m
        obtain ⟨o, t, rfl, h1, h2⟩ := hd g hg
        cases o with
        | none => exact ⟨none, t, rfl, fun v e => (by cases e), h2⟩
        | some v =>
          cases v with
          | zero => exact ⟨none, t, rfl, fun v e => (by cases e), h2⟩
          | succ v => exact ⟨some (v + 1), t, rfl, fun w e => (by cases e; exact ⟨h1 _ rfl, by omega⟩), h2⟩
      have L := fib_len (B := pls S) (none :: (List.range (n - 1)).map fun k => some (k + 1)) (P.map colZ) (fun h m => by
        obtain ⟨o, t, rfl, h1, _⟩ := hc h m
        cases o with
        | none => exact ⟨none, List.mem_cons_self, rfl⟩
        | some v =>
          obtain ⟨h2, h3⟩ := h1 v rfl
          exact ⟨some v, List.mem_cons_of_mem _ (List.mem_map.mpr ⟨v - 1, List.mem_range.mpr (by omega), by congr 1; omega⟩), rfl⟩) (fun o _ => by
        have := nodup_within _ (partK S S.length) (fib_tails (o := o) ndc) fun t ht => by
          obtain ⟨g, hg, rfl⟩ := List.mem_map.mp ht
          obtain ⟨_, t, rfl, _, h2⟩ := hc g (List.mem_filter.mp hg).1
          rw [mem_partK (Nat.le_refl _), List.take_length]
          exact h2
        rw [List.length_map, partK_len (Nat.le_refl _), List.take_length] at this
        exact this)
      rw [List.length_map, List.length_cons, List.length_map, List.length_range, show n - 1 + 1 = n by omega] at L
      exact L
    · have L := fib_len (B := bnd S) (none :: (List.range n).map some) P (fun h m => by
        obtain ⟨o, t, rfl, h1, _⟩ := hd h m
        cases o with
        | none => exact ⟨none, List.mem_cons_self, rfl⟩
        | some v => exact ⟨some v, List.mem_cons_of_mem _ (List.mem_map.mpr ⟨v, List.mem_range.mpr (h1 v rfl), rfl⟩), rfl⟩) (fun o _ => by
        have back : ∀ t ∈ (P.filter fun h => h.head? == some o).map List.tail, o :: t ∈ P := fun t ht => by
          obtain ⟨g, hg, rfl⟩ := List.mem_map.mp ht
          obtain ⟨g1, g2⟩ := List.mem_filter.mp hg
          obtain ⟨u, rfl⟩ := head_some (beq_iff_eq.mp g2)
          exact g1
        have := ac_bound (S := S) pS (fib_tails (o := o) nd) (fun t ht => by
          obtain ⟨_, u, e, _, h2⟩ := hd _ (back t ht)
          cases e
          exact h2) (fun t ht i v e m => ac _ (back t ht) (i + 1) v (by simpa using e) (by
          rw [List.set_cons_succ]
          exact back _ m))
        rw [List.length_map] at this
        exact this)
      rw [List.length_cons, List.length_map, List.length_range] at L
      exact L
theorem bnd4 : ∀ a ∈ [2, 3, 4, 5, 6], pls [a] ≤ 108 → bnd [a] ≤ 76 := by decide +kernel
theorem bnd42 : ∀ a ∈ [2, 3, 4, 5, 6], ∀ b ∈ [2, 3, 4, 5, 6], pls [a, b] ≤ 108 → bnd [a, b] ≤ 76 := by decide +kernel
theorem bnd43 : ∀ a ∈ [2, 3, 4, 5, 6], ∀ b ∈ [2, 3, 4, 5, 6], ∀ c ∈ [2, 3, 4, 5, 6], pls [a, b, c] ≤ 108 → bnd [a, b, c] ≤ 76 := by decide +kernel
theorem bnd44 : ∀ a ∈ [2, 3, 4, 5, 6], ∀ b ∈ [2, 3, 4, 5, 6], ∀ c ∈ [2, 3, 4, 5, 6], ∀ d ∈ [2, 3, 4, 5, 6], pls [a, b, c, d] ≤ 108 → bnd [a, b, c, d] ≤ 76 := by decide +kernel
theorem mem26 {a : Nat} (h : 2 ≤ a ∧ a ≤ 6) : a ∈ [2, 3, 4, 5, 6] := by
  simp
  omega
theorem pls3 : ∀ {S : List Nat}, (∀ n ∈ S, 2 ≤ n ∧ n ≤ 6) → 3 ^ S.length ≤ pls S
  | [], _ => Nat.le_refl _
  | n :: S, h => by
    have ih := pls3 (S := S) fun m hm => h m (List.mem_cons_of_mem _ hm)
    have hn := (h n List.mem_cons_self).1
    show 3 ^ (S.length + 1) ≤ (n + 1) * pls S
    rw [Nat.pow_succ, Nat.mul_comm]
    exact Nat.mul_le_mul (by omega) ih
theorem bnd_le {S : List Nat} (h : ∀ n ∈ S, 2 ≤ n ∧ n ≤ 6) (hp : pls S ≤ 108) : bnd S ≤ 76 := by
  have p3 := pls3 h
  match S, h, hp, p3 with
  | [], _, _, _ => decide
  | [a], h, hp, _ => exact bnd4 a (mem26 (h a (by simp))) hp
  | [a, b], h, hp, _ => exact bnd42 a (mem26 (h a (by simp))) b (mem26 (h b (by simp))) hp
  | [a, b, c], h, hp, _ => exact bnd43 a (mem26 (h a (by simp))) b (mem26 (h b (by simp))) c (mem26 (h c (by simp))) hp
  | [a, b, c, d], h, hp, _ => exact bnd44 a (mem26 (h a (by simp))) b (mem26 (h b (by simp))) c (mem26 (h c (by simp))) d (mem26 (h d (by simp))) hp
  | a :: b :: c :: d :: e :: S, _, hp, p3 =>
    exfalso
    have : 3 ^ 5 ≤ 3 ^ (a :: b :: c :: d :: e :: S).length := Nat.pow_le_pow_right (by decide) (by simp)
    have : (243 : Nat) = 3 ^ 5 := by decide
    omega
theorem pms_76 (hn : Sz ns) (hp : pls ns ≤ 108) {r : Bool} : (pms ns x r).length ≤ 76 := by
  refine Nat.le_trans (ac_bound (S := ns) (fun n hm => by have := hn.2 n hm; omega) pms_nodup (fun h hm => ((mem_pms hn).mp hm).1) fun h hm i v e hm2 => ?_) (bnd_le hn.2 hp)
  exact ((mem_pms hn).mp hm).2.2 i v e ((mem_pms hn).mp hm2).2.1
end DL
namespace DL
open PySem PySem.Spec PyProof.Rows L2 Lk
end DL
namespace DL
open PySem PySem.Spec PyProof.Rows L2 Lk
variable {ns S : List Nat} {W : List Nat → Bool} {h g : Hf} {x : Frm}
theorem sh_prK {p : Nat × Nat} : Sh 1 (prD p) := by
  have := Sh.tup (f := nD) (xs := [p.1, p.2]) (n := 0) fun _ _ => Sh.n
  exact this
theorem sh_rlK {f : Nat} : Sh 2 (rlD f h) := Sh.tup fun _ _ => sh_prK
theorem sh_rlsK {L : List Hf} : Sh 3 (.list (L.map (rlD 0))) := Sh.list fun _ _ => sh_rlK
theorem eqv_prsK : ∀ (l : List (Nat × Nat)), PyData.eqvAll (l.map prD) (l.map prD) = true
  | [] => by rw [List.map_nil, PyData.eqvAll]
  | p :: l => by
    rw [List.map_cons, PyData.eqvAll, pr_same, eqv_prsK l]
    rfl
theorem eqv_rlK (h : Hf) : PyData.eqv (rlD 0 h) (rlD 0 h) = true := by
  unfold rlD
  rw [PyData.eqv]
  exact eqv_prsK _
theorem eqv_rlsK : ∀ (L : List Hf), PyData.eqvAll (L.map (rlD 0)) (L.map (rlD 0)) = true
  | [] => by rw [List.map_nil, PyData.eqvAll]
  | h :: L => by
    rw [List.map_cons, PyData.eqvAll, eqv_rlK, eqv_rlsK L]
    rfl
theorem ne_rlsK {L : List Hf} : neM (.list (L.map (rlD 0))) (.list (L.map (rlD 0))) = some (.bool false) := by
  rw [e_neD (sh_rlsK).sh (sh_rlsK).sh, PyData.eqv, eqv_rlsK]
  rfl
theorem eqv_rl2 (hl : h.length = g.length) : PyData.eqv (rlD 0 h) (rlD 0 g) = decide (h = g) := by
  by_cases e : h = g
  · rw [e, decide_eq_true rfl]
    exact eqv_rlK g
  · rw [decide_eq_false e, Bool.eq_false_iff]
    intro z
    have q := keyN_eqv keyN_rl keyN_rl z
    have k1 := keyN_rl (f := 0) (h := h)
    rw [q, keyN_rl] at k1
    exact e (rlK_inj hl (Option.some.inj k1).symm)
theorem notIn_rls {C : List Hf} (hC : ∀ c ∈ C, c.length = g.length) : notInM (rlD 0 g) (.list (C.map (rlD 0))) = some (.bool (!decide (g ∈ C))) := by
  show (if SeqAt.shaped (rlD 0 g) && SeqAt.shaped (.list (C.map (rlD 0))) then _ else _) = _
  rw [(sh_rlK).sh, (sh_rlsK).sh]
  show some (PyData.bool (!memD _ _)) = _
  rw [memD_map (p := fun c => decide (c = g)) fun c hc => eqv_rl2 (hC c hc)]
  have : (C.any fun c => decide (c = g)) = decide (g ∈ C) := by
    rw [Bool.eq_iff_iff, List.any_eq_true, decide_eq_true_eq]
    constructor
    · rintro ⟨c, hc, e⟩
      rw [← of_decide_eq_true e]
      exact hc
    · intro hg
      exact ⟨g, hg, decide_eq_true rfl⟩
  rw [this]
theorem rlp_unset : ∀ {h : Hf} {b k f v : Nat}, (rlp b h)[k]? = some (f, v) → b ≤ f ∧ h[f - b]? = some (some v) ∧ (rlp b h).take k ++ (rlp b h).drop (k + 1) = rlp b (h.set (f - b) none)
  | [], b, k, f, v, e => by simp [rlp] at e
  | none :: h, b, k, f, v, e => by
    have e : (rlp (b + 1) h)[k]? = some (f, v) := e
    obtain ⟨h1, h2, h3⟩ := rlp_unset e
    have : f - b = f - (b + 1) + 1 := by omega
    refine ⟨by omega, by rw [this]; simpa using h2, ?_⟩
    rw [this, List.set_cons_succ]
    exact h3
  | some u :: h, b, 0, f, v, e => by
    have e : some (b, u) = some (f, v) := e
    cases e
    rw [Nat.sub_self]
    exact ⟨Nat.le_refl _, rfl, rfl⟩
  | some u :: h, b, k + 1, f, v, e => by
    have e : (rlp (b + 1) h)[k]? = some (f, v) := e
    obtain ⟨h1, h2, h3⟩ := rlp_unset e
    have : f - b = f - (b + 1) + 1 := by omega
    refine ⟨by omega, by rw [this]; simpa using h2, ?_⟩
    rw [this, List.set_cons_succ]
    show (b, u) :: ((rlp (b + 1) h).take k ++ (rlp (b + 1) h).drop (k + 1)) = (b, u) :: rlp (b + 1) (h.set (f - (b + 1)) none)
    rw [h3]
end DL
namespace DL
open PySem PySem.Spec PyProof.Rows L2 Lk
end DL
namespace DL
open PySem PySem.Spec PyProof.Rows L2 Lk
variable {ns cs : List Nat} {c : Int} {hs : List (Option Nat)} {x y : Frm}
section
variable {α : Type} {f g : α → Bool} {A : List α}
end
structure AskB (ns : List Nat) (x : Frm) (d s : Nat) : Prop where
  sz : Sz ns
  sm : prod ns ≤ 1024
  ok : x.Ok ns
  dp : x.dp ≤ d
  s : x.sz ≤ s
theorem AskB.ask {d s : Nat} (A : AskB ns x d s) (h1 : d < 60 := by decide) (h2 : s ≤ 900000 := by decide) : Ask ns x := ⟨A.sz, A.sm, A.ok, by have := A.dp; omega, by have := A.s; omega⟩
theorem AskB.neg {d s : Nat} (A : AskB ns x d s) : AskB ns (.neg x) (d + 1) (s + 1) := ⟨A.sz, A.sm, by rw [Frm.Ok]; exact A.ok, by rw [Frm.dp]; have := A.dp; omega, by rw [Frm.sz]; have := A.s; omega⟩
theorem AskB.two {d s : Nat} (A : AskB ns x d s) (B : AskB ns y d s) (w : Jw) : AskB ns (.join w [x, y]) (d + 1) (s + s + 1) := ⟨A.sz, A.sm, by rw [Frm.Ok, Frm.Oks, Frm.Oks, Frm.Oks]; exact ⟨by simp, A.ok, B.ok, trivial⟩,
  by rw [Frm.dp, Frm.dps, Frm.dps, Frm.dps]; have := A.dp; have := B.dp; omega, by rw [Frm.sz, Frm.szs, Frm.szs, Frm.szs]; have := A.s; have := B.s; omega⟩
theorem AskB.up {d s d' s' : Nat} (A : AskB ns x d s) (h1 : d ≤ d' := by decide) (h2 : s ≤ s' := by decide) : AskB ns x d' s' := ⟨A.sz, A.sm, A.ok, by have := A.dp; omega, by have := A.s; omega⟩
theorem D_and : PyData.tuple [.str "and", .tuple [x.D, y.D]] = (Frm.join .and [x, y]).D := by simp [Frm.D, Frm.Ds, Jw.str]
theorem D_or : PyData.tuple [.str "or", .tuple [x.D, y.D]] = (Frm.join .or [x, y]).D := by simp [Frm.D, Frm.Ds, Jw.str]
theorem D_not : PyData.tuple [.str "not", x.D] = (Frm.neg x).D := by simp [Frm.D]
theorem ev_and {a : List Nat} : (Frm.join .and [x, y]).ev ns a = (x.ev ns a && y.ev ns a) := by simp [Frm.ev, Frm.evs, Jw.ev]
theorem ev_or {a : List Nat} : (Frm.join .or [x, y]).ev ns a = (x.ev ns a || y.ev ns a) := by simp [Frm.ev, Frm.evs, Jw.ev]
theorem ev_not {a : List Nat} : (Frm.neg x).ev ns a = !x.ev ns a := by simp [Frm.ev]
theorem e_sumN {α : Type} {xs : List α} {f : α → Nat} : sumM [.list (xs.map fun x => nD (f x))] = some (nD (xs.map f).sum) := by
  have := e_sumF (xs := xs) (f := fun x => (f x : Int))
  have e : (xs.map fun x => ((f x : Nat) : Int)).sum = ((xs.map f).sum : Nat) := by
    clear this
    induction xs with
    | nil => rfl
    | cons a l ih => simp only [List.map_cons, List.sum_cons, ih]; omega
  unfold nD
  rw [this, e]
theorem szs_sum : ∀ {xs : List Frm}, Frm.szs xs = (xs.map Frm.sz).sum
  | [] => by rw [Frm.szs]; rfl
  | x :: xs => by rw [Frm.szs, szs_sum (xs := xs)]; rfl
theorem g_many_ok (x : Frm) : ∀ k, x.Ok ns → Sz ns → x.dp < k → g_law_many_bf8ac k [x.D] = some (nD x.sz) := by
  have cj : PyData.tuple [.str "and", .str "or", .str "odd"] = c_JOINING_WORDS := rfl
  have n1 : PyData.int 1 = nD 1 := rfl
  induction x using Frm.ind with
  | say b => intro k h hn hk; cases k with | zero => omega | succ k => rw [r_law_many_bf8ac]; simp [v_law_many_bf8ac, Frm.D, Frm.sz, cj]; exact n1
  | test f vs => intro k h hn hk; cases k with | zero => omega | succ k => rw [r_law_many_bf8ac]; simp [v_law_many_bf8ac, Frm.D, Frm.sz, cj]; exact n1
  | rules rs l => intro k h hn hk; cases k with | zero => omega | succ k => rw [r_law_many_bf8ac]; simp [v_law_many_bf8ac, Frm.D, Frm.sz, cj]; exact n1
  | card ws t => intro k h hn hk; cases k with | zero => omega | succ k => rw [r_law_many_bf8ac]; simp [v_law_many_bf8ac, Frm.D, Frm.sz, cj]; exact n1
  | table rs => intro k h hn hk; cases k with | zero => omega | succ k => rw [r_law_many_bf8ac]; simp [v_law_many_bf8ac, Frm.D, Frm.sz, cj]; exact n1
  | neg x ih =>
    intro k h hn hk
    cases k with
    | zero => omega
    | succ k =>
      rw [Frm.Ok] at h
      rw [Frm.dp] at hk
      have := ih k h hn (by omega)
      rw [r_law_many_bf8ac]
      simp [v_law_many_bf8ac, Frm.D, Frm.sz, cj, this]
  | tree f bs ih =>
    intro k h hn hk
    cases k with
    | zero => omega
    | succ k =>
      rw [Frm.Ok] at h
      rw [Frm.dp] at hk
      have b6 := hn.2 _ (List.mem_of_getElem? h.1)
      rw [r_law_many_bf8ac]
      simp [v_law_many_bf8ac, Frm.D, Frm.Ds_eq]
      rw [lcy Frm.D (fun y => nD y.sz) (fun y => [.pl (.tuple [.str "tree", nD f, .tuple (bs.map Frm.D)]), .pl y.D]) (xs := bs) (by simp) (by simp [freeAt]) (by omega) (by simp) (by simp) (by
        intro y hy
        have := ih y hy k (Frm.Oks_iff.mp h.2 _ hy) hn (by have := Frm.dps_le hy; omega)
        simp [this])]
      simp [e_sumN, Frm.sz, szs_sum]
  | join w xs ih =>
    intro k h hn hk
    cases k with
    | zero => omega
    | succ k =>
      rw [Frm.Ok] at h
      rw [Frm.dp] at hk
      rw [r_law_many_bf8ac]
      have lc := lcy (vs := [1]) (mi := mSeq (mOp2 ixM (mV 0) (M.ret (.int 1)))) (g := gN 1) (me := mCall (g_law_many_bf8ac k) (mCons (mV 1) mNil)) (r := [.pl (.tuple [.str w.str, .tuple (xs.map Frm.D)]), .un]) Frm.D (fun y => nD y.sz) (fun y => [.pl (.tuple [.str w.str, .tuple (xs.map Frm.D)]), .pl y.D]) (xs := xs) (by simp) (by simp [freeAt]) (by omega) (by simp) (by simp) (by
        intro y hy
        have := ih y hy k (Frm.Oks_iff.mp h.2 _ hy) hn (by have := Frm.dps_le hy; omega)
        simp [this])
      cases w <;> (simp only [Jw.str] at lc; simp [v_law_many_bf8ac, Frm.D, Frm.Ds_eq, Jw.str, cj, lc, e_sumN, Frm.sz, szs_sum])
theorem g_brief_ok {cells : List Int} (hn : Sz ns) (hp : prod ns ≤ 1024) (hb : ∀ c ∈ cells, Bits c) (hl : cells.length ≤ 1000) : ∃ x : Frm, g_law_brief_4e244 [nsD ns, isD cells] = some x.D ∧ AskB ns x 3 60 := by
  rw [r_law_brief_4e244]
  obtain ⟨x, e, ok, hd, hs⟩ := g_form_ok hn (by omega) hb hl
  have mx := g_many_ok x FU ok hn (show x.dp < 60 by omega)
  have c3 : cutD (cells.map PyData.int) none (some 3) = (cells.take 3).map PyData.int := e_cut0 (hi := 3)
  by_cases q : 17 < x.sz
  · obtain ⟨y, e2, ok2, hd2, hs2, hy⟩ := g_form_ok2 (cells := cells.take 3) hn (by omega) (fun c h => hb c (List.mem_of_mem_take h)) (by simp; omega)
    have my := g_many_ok y FU ok2 hn (show y.dp < 60 by omega)
    have e2' : g_law_form_06328 [nsD ns, .list ((cells.take 3).map PyData.int)] = some y.D := e2
    by_cases q2 : 17 < y.sz
    · obtain ⟨f, bs, rfl⟩ := (hy (by simp; omega)).resolve_left (by omega)
      rw [Frm.Ok] at ok2
      have b6 := hn.2 _ (List.mem_of_getElem? ok2.1)
      obtain ⟨z, bs', rfl⟩ : ∃ z bs', bs = z :: bs' := by
        cases bs with
        | nil => simp at b6
        | cons z bs' => exact ⟨z, bs', rfl⟩
      rw [Frm.dp, Frm.dps] at hd2
      have szz := hs2
      rw [Frm.sz, Frm.szs] at szz
      refine ⟨z, ?_, hn, hp, by have := ok2.2; rw [Frm.Oks] at this; exact this.1, by omega, by omega⟩
      have i2 : ixM (Frm.tree f (z :: bs')).D (.int 2) = some (.tuple (Frm.Ds (z :: bs'))) := by rw [Frm.D]; exact e_at2
      have i0 : ixM (.tuple (Frm.Ds (z :: bs'))) (.int 0) = some z.D := by rw [Frm.Ds]; exact e_at0
      simp [-List.map_take, v_law_brief_4e244, e, mx, q, c3, e2', my, q2, i2, i0]
    · exact ⟨y, by simp [-List.map_take, v_law_brief_4e244, e, mx, q, c3, e2', my, q2], hn, hp, ok2, hd2, hs2⟩
  · exact ⟨x, by simp [v_law_brief_4e244, e, mx, q], hn, hp, ok, hd, hs⟩
end DL
namespace DL
open PySem PySem.Spec PyProof.Rows L2 Lk
variable {ns S : List Nat} {W WA WB : List Nat → Bool} {h g q r : Hf} {x : Frm}
def cfH : Hf → Hf → Bool
  | [], _ => false
  | _ :: _, [] => false
  | none :: h, _ :: g => cfH h g
  | some _ :: h, none :: g => cfH h g
  | some v :: h, some w :: g => !(v == w) || cfH h g
def jnH : Hf → Hf → Hf
  | [], _ => []
  | _ :: _, [] => []
  | none :: h, o :: g => o :: jnH h g
  | some v :: h, _ :: g => some v :: jnH h g
def mrgH : Nat → Hf → Hf → List (Nat × Nat)
  | _, [], _ => []
  | _, _ :: _, [] => []
  | b, none :: h, none :: g => mrgH (b + 1) h g
  | b, none :: h, some w :: g => (b, w) :: mrgH (b + 1) h g
  | b, some v :: h, none :: g => (b, v) :: mrgH (b + 1) h g
  | b, some v :: h, some w :: g => if v < w then (b, v) :: (b, w) :: mrgH (b + 1) h g else if w < v then (b, w) :: (b, v) :: mrgH (b + 1) h g else (b, v) :: mrgH (b + 1) h g
/-- one rule is a part of another -/
def LeH (h g : Hf) : Prop := ∀ i v : Nat, h[i]? = some (some v) → g[i]? = some (some v)
theorem jnH_len : ∀ {h g : Hf}, h.length = g.length → (jnH h g).length = h.length
  | [], _, _ => by simp [jnH]
  | _ :: _, [], e => by simp at e
  | none :: h, o :: g, e => by
    have := jnH_len (h := h) (g := g) (by simpa using e)
    simp [jnH, this]
  | some v :: h, o :: g, e => by
    have := jnH_len (h := h) (g := g) (by simpa using e)
    simp [jnH, this]
theorem jnH_get : ∀ {h g : Hf} {i v : Nat}, h.length = g.length → cfH h g = false → ((jnH h g)[i]? = some (some v) ↔ h[i]? = some (some v) ∨ g[i]? = some (some v))
  | [], [], i, v, _, _ => by simp [jnH]
  | [], _ :: _, _, _, e, _ => by simp at e
  | _ :: _, [], _, _, e, _ => by simp at e
  | none :: h, o :: g, i, v, e, c => by
    rw [cfH] at c
    rw [jnH]
    cases i with
    | zero => simp
    | succ i => simpa using jnH_get (h := h) (g := g) (i := i) (v := v) (by simpa using e) c
  | some u :: h, none :: g, i, v, e, c => by
    rw [cfH] at c
    rw [jnH]
    cases i with
    | zero => simp
    | succ i => simpa using jnH_get (h := h) (g := g) (i := i) (v := v) (by simpa using e) c
  | some u :: h, some w :: g, i, v, e, c => by
    rw [cfH, Bool.or_eq_false_iff] at c
    have uw : u = w := by simpa using c.1
    rw [jnH]
    cases i with
    | zero => simp [uw]
    | succ i => simpa using jnH_get (h := h) (g := g) (i := i) (v := v) (by simpa using e) c.2
theorem cfH_le : ∀ {h g r : Hf}, LeH h r → LeH g r → cfH h g = false
  | [], _, _, _, _ => by rw [cfH]
  | _ :: _, [], _, _, _ => by rw [cfH]
  | none :: h, o :: g, r, H, G => by
    rw [cfH]
    exact cfH_le (r := r.tail) (fun i v e => by have := H (i + 1) v (by simpa using e); simpa using this) (fun i v e => by have := G (i + 1) v (by simpa using e); simpa using this)
  | some u :: h, none :: g, r, H, G => by
    rw [cfH]
    exact cfH_le (r := r.tail) (fun i v e => by have := H (i + 1) v (by simpa using e); simpa using this) (fun i v e => by have := G (i + 1) v (by simpa using e); simpa using this)
  | some u :: h, some w :: g, r, H, G => by
    have h0 := H 0 u rfl
    have g0 := G 0 w rfl
    rw [h0] at g0
    have : u = w := by simpa using g0
    rw [cfH, Bool.or_eq_false_iff]
    exact ⟨by simp [this], cfH_le (r := r.tail) (fun i v e => by have := H (i + 1) v (by simpa using e); simpa using this) (fun i v e => by have := G (i + 1) v (by simpa using e); simpa using this)⟩
theorem jnH_le (hl : h.length = g.length) (H : LeH h r) (G : LeH g r) : LeH (jnH h g) r := fun i v e => by
  rcases (jnH_get hl (cfH_le H G)).mp e with e | e
  · exact H i v e
  · exact G i v e
theorem jnH_half (H : Half S h) (G : Half S g) (c : cfH h g = false) : Half S (jnH h g) := by
  have hl : h.length = g.length := H.1.trans G.1.symm
  refine ⟨(jnH_len hl).trans H.1, fun i n v e1 e2 => ?_⟩
  rcases (jnH_get hl c).mp e2 with e | e
  · exact H.2 i n v e1 e
  · exact G.2 i n v e1 e
theorem cmp_le {c : List Nat} (hl : q.length = r.length) (hc : r.length = c.length) (L : LeH q r) (e : cmpB r c = true) : cmpB q c = true := by
  rw [cmpV_iff (hl.trans hc)]
  intro k v e2
  exact (cmpV_iff hc).mp e k v (L k v e2)
theorem imp_le (hl : q.length = r.length) (hr : r.length = S.length) (L : LeH q r) (I : Imp S W q) : Imp S W r := fun c hc e => I c hc (cmp_le hl (hr.trans hc.1.symm) L e)
theorem le_set {i : Nat} : LeH (h.set i none) h := fun k v e => by
  rw [List.getElem?_set] at e
  split at e
  · split at e <;> simp at e
  · exact e
theorem le_trans' (a : LeH h g) (b : LeH g r) : LeH h r := fun i v e => b i v (a i v e)
theorem prime_sub : ∀ {m : Nat} {h : Hf}, kn h ≤ m → Half S h → Imp S W h → ∃ g, PrimeR S W g ∧ LeH g h
  | 0, h, hm, H, I => ⟨h, ⟨H, I, fun i v e1 => by have := kn_set e1; omega⟩, fun _ _ e => e⟩
  | m + 1, h, hm, H, I => by
    by_cases p : ∀ (i v : Nat), h[i]? = some (some v) → ¬ Imp S W (h.set i none)
    · exact ⟨h, ⟨H, I, p⟩, fun _ _ e => e⟩
    · simp only [Classical.not_forall, Classical.not_not] at p
      obtain ⟨i, v, e1, I2⟩ := p
      have := kn_set e1
      obtain ⟨g, hg, le⟩ := prime_sub (m := m) (h := h.set i none) (by omega) (half_setN H) I2
      exact ⟨g, hg, le_trans' le le_set⟩
theorem le_kn : ∀ {q r : Hf}, q.length = r.length → LeH q r → kn q ≤ kn r ∧ (kn r ≤ kn q → q = r)
  | [], [], _, _ => ⟨Nat.le_refl _, fun _ => rfl⟩
  | [], _ :: _, e, _ => by simp at e
  | _ :: _, [], e, _ => by simp at e
  | a :: q, b :: r, e, L => by
    obtain ⟨h1, h2⟩ := le_kn (q := q) (r := r) (by simpa using e) (fun i v e => by have := L (i + 1) v (by simpa using e); simpa using this)
    have kc : ∀ (o : Option Nat) (t : Hf), kn (o :: t) = (if o.isSome = true then 1 else 0) + kn t := fun o t => by
      cases o <;> simp [kn, Nat.add_comm]
    rw [kc, kc]
    cases a with
    | some v =>
      have := L 0 v rfl
      have e2 : b = some v := by simpa using this
      subst e2
      refine ⟨by omega, fun z => ?_⟩
      rw [h2 (by omega)]
    | none =>
      cases b with
      | none =>
        refine ⟨by omega, fun z => ?_⟩
        rw [h2 (by omega)]
      | some w =>
        refine ⟨by simp; omega, fun z => ?_⟩
        simp at z
        omega
theorem prime_least (R : PrimeR S W r) (hl : q.length = r.length) (L : LeH q r) (I : Imp S W q) : q = r := by
  refine (le_kn hl L).2 (Nat.le_of_not_lt fun lt => ?_)
  have : ∃ (i v : Nat), r[i]? = some (some v) ∧ q[i]? ≠ some (some v) := by
    refine Classical.byContradiction fun z => ?_
    have : LeH r q := fun i v e => Classical.byContradiction fun n => z ⟨i, v, e, n⟩
    have := (le_kn hl.symm this).1
    omega
  obtain ⟨i, v, e, n⟩ := this
  refine R.2.2 i v e (imp_le (by rw [List.length_set]; exact hl) (by rw [List.length_set]; exact R.1.1) (fun k u e2 => ?_) I)
  rw [List.getElem?_set]
  split
  · rename_i ik
    subst ik
    have := L i u e2
    rw [e] at this
    cases this
    exact absurd e2 n
  · exact L k u e2
theorem imp_jn (H : PrimeR S WA h) (G : PrimeR S WB g) (c : cfH h g = false) (eW : ∀ c, W c = (WA c && WB c)) : Imp S W (jnH h g) := fun d hd e => by
  have hl : h.length = g.length := H.1.1.trans G.1.1.symm
  have ld : (jnH h g).length = d.length := (jnH_len hl).trans (H.1.1.trans hd.1.symm)
  rw [eW, H.2.1 d hd (cmp_le (jnH_len hl).symm ld (fun i v e => (jnH_get hl c).mpr (.inl e)) e), G.2.1 d hd (cmp_le (by rw [jnH_len hl, hl]) ld (fun i v e => (jnH_get hl c).mpr (.inr e)) e)]
  rfl
theorem prime_and1 (eW : ∀ c, W c = (WA c && WB c)) (R : PrimeR S W r) : ∃ h g, PrimeR S WA h ∧ PrimeR S WB g ∧ cfH h g = false ∧ r = jnH h g := by
  obtain ⟨h, H, lh⟩ := prime_sub (W := WA) (Nat.le_refl _) R.1 (fun c hc e => by have := R.2.1 c hc e; rw [eW, Bool.and_eq_true] at this; exact this.1)
  obtain ⟨g, G, lg⟩ := prime_sub (W := WB) (Nat.le_refl _) R.1 (fun c hc e => by have := R.2.1 c hc e; rw [eW, Bool.and_eq_true] at this; exact this.2)
  have hl : h.length = g.length := H.1.1.trans G.1.1.symm
  have c := cfH_le lh lg
  refine ⟨h, g, H, G, c, (prime_least R ((jnH_len hl).trans (H.1.1.trans R.1.1.symm)) (jnH_le hl lh lg) (imp_jn H G c eW)).symm⟩
theorem prime_and (eW : ∀ c, W c = (WA c && WB c)) : PrimeR S W r ↔ (∃ h g, PrimeR S WA h ∧ PrimeR S WB g ∧ cfH h g = false ∧ r = jnH h g) ∧ ∀ h g, PrimeR S WA h → PrimeR S WB g → cfH h g = false → LeH (jnH h g) r → jnH h g = r := by
  constructor
  · intro R
    refine ⟨prime_and1 eW R, fun h g H G c L => ?_⟩
    have hl : h.length = g.length := H.1.1.trans G.1.1.symm
    exact prime_least R ((jnH_len hl).trans (H.1.1.trans R.1.1.symm)) L (imp_jn H G c eW)
  · rintro ⟨⟨h, g, H, G, c, rfl⟩, least⟩
    have hr := jnH_half H.1 G.1 c
    refine ⟨hr, imp_jn H G c eW, fun i v e I => ?_⟩
    obtain ⟨p, P, lp⟩ := prime_sub (Nat.le_refl _) (half_setN hr) I
    obtain ⟨h', g', H', G', c', rfl⟩ := prime_and1 eW P
    have := least h' g' H' G' c' (le_trans' lp le_set)
    rw [← this] at e
    have := lp i v e
    rw [List.getElem?_set] at this
    split at this
    · split at this <;> simp at this
    · rename_i ni
      exact ni rfl
theorem mem_rlp {b i v : Nat} : (i, v) ∈ rlp b h ↔ b ≤ i ∧ h[i - b]? = some (some v) := by
  constructor
  · intro m
    obtain ⟨k, hk⟩ := List.getElem?_of_mem m
    obtain ⟨h1, h2, _⟩ := rlp_unset hk
    exact ⟨h1, h2⟩
  · rintro ⟨h1, h2⟩
    have := rlp_has (b := b) h2
    rwa [show b + (i - b) = i by omega] at this
def subB (h g : Hf) : Bool := (rlp 0 h).all fun p => decide (p ∈ rlp 0 g)
theorem subB_iff : subB h g = true ↔ LeH h g := by
  unfold subB
  rw [List.all_eq_true]
  constructor
  · intro a i v e
    have := of_decide_eq_true (a (i, v) (mem_rlp.mpr ⟨Nat.zero_le _, e⟩))
    exact (mem_rlp.mp this).2
  · rintro a ⟨i, v⟩ m
    rw [decide_eq_true_eq]
    have := (mem_rlp.mp m).2
    exact mem_rlp.mpr ⟨Nat.zero_le _, a _ _ this⟩
theorem mrg_ge : ∀ {h g : Hf} {b : Nat} {p : Nat × Nat}, p ∈ mrgH b h g → b ≤ p.1
  | [], _, _, _, m => by simp [mrgH] at m
  | _ :: _, [], _, _, m => by simp [mrgH] at m
  | none :: h, none :: g, b, p, m => by
    rw [mrgH] at m
    have := mrg_ge m
    omega
  | none :: h, some w :: g, b, p, m => by
    rw [mrgH, List.mem_cons] at m
    rcases m with rfl | m
    · exact Nat.le_refl _
    · have := mrg_ge m
      omega
  | some v :: h, none :: g, b, p, m => by
    rw [mrgH, List.mem_cons] at m
    rcases m with rfl | m
    · exact Nat.le_refl _
    · have := mrg_ge m
      omega
  | some v :: h, some w :: g, b, p, m => by
    rw [mrgH] at m
    split at m
    · simp only [List.mem_cons] at m
      rcases m with rfl | rfl | m
      · exact Nat.le_refl _
      · exact Nat.le_refl _
      · have := mrg_ge m
        omega
    · split at m
      · simp only [List.mem_cons] at m
        rcases m with rfl | rfl | m
        · exact Nat.le_refl _
        · exact Nat.le_refl _
        · have := mrg_ge m
          omega
      · simp only [List.mem_cons] at m
        rcases m with rfl | m
        · exact Nat.le_refl _
        · have := mrg_ge m
          omega
theorem mrg_len : ∀ {h g : Hf} {b : Nat}, (mrgH b h g).length ≤ 2 * h.length
  | [], _, _ => by simp [mrgH]
  | _ :: _, [], _ => by simp [mrgH]
  | none :: h, none :: g, b => by have := mrg_len (h := h) (g := g) (b := b + 1); rw [mrgH]; simp; omega
  | none :: h, some w :: g, b => by have := mrg_len (h := h) (g := g) (b := b + 1); rw [mrgH]; simp; omega
  | some v :: h, none :: g, b => by have := mrg_len (h := h) (g := g) (b := b + 1); rw [mrgH]; simp; omega
  | some v :: h, some w :: g, b => by
    have := mrg_len (h := h) (g := g) (b := b + 1)
    rw [mrgH]
    split
    · simp; omega
    · split <;> simp <;> omega
def ltP (p q : Nat × Nat) : Prop := p.1 < q.1 ∨ (p.1 = q.1 ∧ p.2 < q.2)
theorem mrg_up : ∀ {h g : Hf} {b : Nat}, (mrgH b h g).Pairwise ltP
  | [], _, _ => by simp [mrgH]
  | _ :: _, [], _ => by simp [mrgH]
  | none :: h, none :: g, b => by rw [mrgH]; exact mrg_up
  | none :: h, some w :: g, b => by
    rw [mrgH]
    exact List.pairwise_cons.mpr ⟨fun p m => .inl (by have := mrg_ge m; show b < p.1; omega), mrg_up⟩
  | some v :: h, none :: g, b => by
    rw [mrgH]
    exact List.pairwise_cons.mpr ⟨fun p m => .inl (by have := mrg_ge m; show b < p.1; omega), mrg_up⟩
  | some v :: h, some w :: g, b => by
    have up := mrg_up (h := h) (g := g) (b := b + 1)
    have ge : ∀ (u : Nat) (p : Nat × Nat), p ∈ mrgH (b + 1) h g → ltP (b, u) p := fun u p m => .inl (by have := mrg_ge m; show b < p.1; omega)
    rw [mrgH]
    split
    · rename_i c
      refine List.pairwise_cons.mpr ⟨fun p m => ?_, List.pairwise_cons.mpr ⟨ge w, up⟩⟩
      rcases List.mem_cons.mp m with rfl | m
      · exact .inr ⟨rfl, c⟩
      · exact ge v p m
    · split
      · rename_i c
        refine List.pairwise_cons.mpr ⟨fun p m => ?_, List.pairwise_cons.mpr ⟨ge v, up⟩⟩
        rcases List.mem_cons.mp m with rfl | m
        · exact .inr ⟨rfl, c⟩
        · exact ge w p m
      · exact List.pairwise_cons.mpr ⟨ge v, up⟩
theorem mem_mrg : ∀ {h g : Hf} {b : Nat} {p : Nat × Nat}, h.length = g.length → (p ∈ mrgH b h g ↔ p ∈ rlp b h ++ rlp b g)
  | [], [], _, _, _ => by simp [mrgH, rlp]
  | [], _ :: _, _, _, e => by simp at e
  | _ :: _, [], _, _, e => by simp at e
  | none :: h, none :: g, b, p, e => by
    have ih := mem_mrg (h := h) (g := g) (b := b + 1) (p := p) (by simpa using e)
    rw [mrgH, ih]
    simp only [rlp]
  | none :: h, some w :: g, b, p, e => by
    have ih := mem_mrg (h := h) (g := g) (b := b + 1) (p := p) (by simpa using e)
    rw [mrgH, List.mem_cons, ih]
    simp only [rlp, List.mem_append, List.mem_cons]
    grind
  | some v :: h, none :: g, b, p, e => by
    have ih := mem_mrg (h := h) (g := g) (b := b + 1) (p := p) (by simpa using e)
    rw [mrgH, List.mem_cons, ih]
    simp only [rlp, List.mem_append, List.mem_cons]
    grind
  | some v :: h, some w :: g, b, p, e => by
    have ih := mem_mrg (h := h) (g := g) (b := b + 1) (p := p) (by simpa using e)
    rw [List.mem_append] at ih
    rw [mrgH]
    simp only [rlp, List.mem_append, List.mem_cons]
    split
    · simp only [List.mem_cons, ih]
      grind
    · split
      · simp only [List.mem_cons, ih]
        grind
      · have : w = v := by omega
        subst this
        simp only [List.mem_cons, ih]
        grind
theorem mrg_jn : ∀ {h g : Hf} {b : Nat}, h.length = g.length → cfH h g = false → mrgH b h g = rlp b (jnH h g)
  | [], [], _, _, _ => by simp [mrgH, rlp, jnH]
  | [], _ :: _, _, e, _ => by simp at e
  | _ :: _, [], _, e, _ => by simp at e
  | none :: h, none :: g, b, e, c => by
    rw [cfH] at c
    rw [mrgH, jnH, rlp]
    exact mrg_jn (by simpa using e) c
  | none :: h, some w :: g, b, e, c => by
    rw [cfH] at c
    rw [mrgH, jnH, rlp, mrg_jn (by simpa using e) c]
  | some v :: h, none :: g, b, e, c => by
    rw [cfH] at c
    rw [mrgH, jnH, rlp, mrg_jn (by simpa using e) c]
  | some v :: h, some w :: g, b, e, c => by
    rw [cfH, Bool.or_eq_false_iff] at c
    have uw : v = w := by simpa using c.1
    subst uw
    rw [mrgH, if_neg (Nat.lt_irrefl _), if_neg (Nat.lt_irrefl _), jnH, rlp, mrg_jn (by simpa using e) c.2]
theorem mrg_fields : ∀ {h g : Hf} {b : Nat}, h.length = g.length → ∀ f, f ∈ (mrgH b h g).map (·.1) ↔ f ∈ (rlp b (jnH h g)).map (·.1)
  | [], [], _, _, f => by simp [mrgH, rlp, jnH]
  | [], _ :: _, _, e, _ => by simp at e
  | _ :: _, [], _, e, _ => by simp at e
  | none :: h, none :: g, b, e, f => by
    rw [mrgH, jnH, rlp]
    exact mrg_fields (by simpa using e) f
  | none :: h, some w :: g, b, e, f => by
    rw [mrgH, jnH, rlp, List.map_cons, List.map_cons, List.mem_cons, List.mem_cons, mrg_fields (by simpa using e) f]
  | some v :: h, none :: g, b, e, f => by
    rw [mrgH, jnH, rlp, List.map_cons, List.map_cons, List.mem_cons, List.mem_cons, mrg_fields (by simpa using e) f]
  | some v :: h, some w :: g, b, e, f => by
    have ih := mrg_fields (h := h) (g := g) (b := b + 1) (by simpa using e) f
    rw [mrgH, jnH, rlp, List.map_cons, List.mem_cons, ← ih]
    split
    · simp
    · split <;> simp
theorem mrg_more : ∀ {h g : Hf} {b : Nat}, h.length = g.length → kn (jnH h g) ≤ (mrgH b h g).length ∧ (cfH h g = true → kn (jnH h g) < (mrgH b h g).length)
  | [], [], _, _ => by simp [mrgH, cfH, jnH, kn]
  | [], _ :: _, _, e => by simp at e
  | _ :: _, [], _, e => by simp at e
  | none :: h, none :: g, b, e => by
    obtain ⟨h1, h2⟩ := mrg_more (h := h) (g := g) (b := b + 1) (by simpa using e)
    rw [mrgH, jnH, cfH]
    have k : kn (none :: jnH h g) = kn (jnH h g) := by simp [kn]
    rw [k]
    exact ⟨h1, h2⟩
  | none :: h, some w :: g, b, e => by
    obtain ⟨h1, h2⟩ := mrg_more (h := h) (g := g) (b := b + 1) (by simpa using e)
    rw [mrgH, jnH, cfH]
    have k : kn (some w :: jnH h g) = kn (jnH h g) + 1 := by simp [kn]
    rw [k, List.length_cons]
    exact ⟨by omega, fun z => by have := h2 z; omega⟩
  | some v :: h, none :: g, b, e => by
    obtain ⟨h1, h2⟩ := mrg_more (h := h) (g := g) (b := b + 1) (by simpa using e)
    rw [mrgH, jnH, cfH]
    have k : kn (some v :: jnH h g) = kn (jnH h g) + 1 := by simp [kn]
    rw [k, List.length_cons]
    exact ⟨by omega, fun z => by have := h2 z; omega⟩
  | some v :: h, some w :: g, b, e => by
    obtain ⟨h1, h2⟩ := mrg_more (h := h) (g := g) (b := b + 1) (by simpa using e)
    have k : kn (some v :: jnH h g) = kn (jnH h g) + 1 := by simp [kn]
    rw [mrgH, jnH, cfH, k]
    split
    · simp only [List.length_cons]
      exact ⟨by omega, fun _ => by omega⟩
    · split
      · simp only [List.length_cons]
        exact ⟨by omega, fun _ => by omega⟩
      · have : v = w := by omega
        subst this
        simp only [List.length_cons]
        refine ⟨by omega, fun z => ?_⟩
        have := h2 (by simpa using z)
        omega
theorem rlp_up : ∀ {h : Hf} {b : Nat}, ((rlp b h).map (·.1)).Pairwise (· < ·)
  | [], _ => by simp [rlp]
  | none :: h, b => by rw [rlp]; exact rlp_up
  | some v :: h, b => by
    rw [rlp, List.map_cons]
    refine List.pairwise_cons.mpr ⟨fun f m => ?_, rlp_up⟩
    obtain ⟨p, hp, rfl⟩ := List.mem_map.mp m
    have := rlp_ge hp
    show b < p.1
    omega
end DL
namespace DL
open PySem PySem.Spec PyProof.Rows L2 Lk
variable {ns S : List Nat} {W WA WB : List Nat → Bool} {h g q r : Hf} {x : Frm}
theorem okN1_pr (p : Nat × Nat) : okN1 (prD p) = true := by
  show okN1 (.tuple [.int _, .int _]) = true
  have k : keyN (.tuple [.int (p.1 : Int), .int (p.2 : Int)]) = some (.tup [.num p.1, .num p.2]) := by
    have := keyNs_prs [p]
    simp only [List.map_cons, List.map_nil] at this
    rw [keyNs, keyNs] at this
    have h : keyN (prD p) = some (prK p) := by
      cases e : keyN (prD p) with
      | none => rw [e] at this; simp at this
      | some k => rw [e] at this; simpa using this
    exact h
  have d : PyData.depth (.tuple [.int (p.1 : Int), .int (p.2 : Int)]) = 1 := by simp [PyData.depth, PyData.depthAll]
  have d2 : (NestedKey.tup [.num (p.1 : Int), .num (p.2 : Int)]).depth ≤ 8 := by simp [NestedKey.depth, NestedKey.depthAll]
  unfold okN1
  dsimp only
  rw [k]
  dsimp only
  rw [d]
  simp [d2]
theorem okN_prs (L : List (Nat × Nat)) : okN (L.map prD) = true := by
  unfold okN
  rw [Bool.and_eq_true]
  constructor
  · rw [List.all_map, List.all_eq_true]
    intro a _
    exact okN1_pr a
  · rw [List.all_map, List.all_eq_true]
    intro a _
    show (List.map prD L).all _ = true
    rw [List.all_map, List.all_eq_true]
    intro b _
    exact alike_pr a b
theorem sort_mrg (hl : h.length = g.length) (h24 : h.length ≤ 24) : sortNM (.list ((rlp 0 h ++ rlp 0 g).map prD)) = some ((mrgH 0 h g).map prD) :=
  sortNM_is (okN_prs _) (List.pairwise_map.mpr (mrg_up.imp fun {p q} o => (pr_lt o).2)) (fun d => by
    rw [List.mem_map, List.mem_map]
    constructor
    · rintro ⟨p, hp, e⟩; exact ⟨p, (mem_mrg hl).mp hp, e⟩
    · rintro ⟨p, hp, e⟩; exact ⟨p, (mem_mrg hl).mpr hp, e⟩) (by
    have := mrg_len (h := h) (g := g) (b := 0)
    rw [List.length_map]
    omega)
theorem asInts_nD {α : Type} {f : α → Nat} : ∀ (xs : List α), asInts (xs.map fun y => nD (f y)) = some (xs.map fun y => (f y : Int))
  | [] => rfl
  | a :: l => by
    have ih := asInts_nD (f := f) l
    show (asInts (l.map fun y => nD (f y))).map ((f a : Int) :: ·) = _
    rw [ih]
    rfl
theorem sortU_mrg (hl : h.length = g.length) : sortU ((mrgH 0 h g).map fun p => (p.1 : Int)) = (rlp 0 (jnH h g)).map fun p => (p.1 : Int) := by
  refine up_unique (sortU_up _) ?_ fun j => ?_
  · have := rlp_up (h := jnH h g) (b := 0)
    rw [List.pairwise_map] at this ⊢
    exact this.imp fun {p q} o => by omega
  · rw [mem_sortU]
    have m := mrg_fields (b := 0) hl
    simp only [List.mem_map] at m ⊢
    constructor
    · rintro ⟨p, hp, e⟩
      obtain ⟨p', hp', e'⟩ := (m p.1).mp ⟨p, hp, rfl⟩
      exact ⟨p', hp', by rw [e']; exact e⟩
    · rintro ⟨p, hp, e⟩
      obtain ⟨p', hp', e'⟩ := (m p.1).mpr ⟨p, hp, rfl⟩
      exact ⟨p', hp', by rw [e']; exact e⟩
theorem len_mrg (hl : h.length = g.length) (h24 : h.length ≤ 24) : lenSetUM (.list ((mrgH 0 h g).map fun p => nD p.1)) = some (nD (kn (jnH h g))) := by
  show (asInts ((mrgH 0 h g).map fun p => nD p.1)).bind _ = _
  rw [asInts_nD]
  show (if (sortU ((mrgH 0 h g).map fun p => (p.1 : Int))).length < 4000 then _ else _) = _
  have l := rlp_len (h := jnH h g) (f := 0)
  have l2 := jnH_len hl
  rw [sortU_mrg hl, List.length_map, if_pos (by omega), rlp_kn]
  rfl
noncomputable def jnD (h g : Hf) : PyData := if cfH h g = true then .none else rlD 0 (jnH h g)
theorem g_joined_ok (hl : h.length = g.length) (h24 : h.length ≤ 24) : g_law_joined_f4720 [rlD 0 h, rlD 0 g] = some (jnD h g) := by
  have l1 := rlp_len (h := h) (f := 0)
  have l2 := rlp_len (h := g) (f := 0)
  have lm := mrg_len (h := h) (g := g) (b := 0)
  have lt : ∀ z : Hf, listM [rlD 0 z] = some ((rlp 0 z).map prD) := fun _ => rfl
  have ad : addM (.list ((rlp 0 h).map prD)) (.list ((rlp 0 g).map prD)) = some (.list ((rlp 0 h ++ rlp 0 g).map prD)) := by
    rw [e_addL (by simp; omega), List.map_append]
  have so := sort_mrg hl h24
  have le := len_mrg hl h24
  obtain ⟨m1, m2⟩ := mrg_more (h := h) (g := g) (b := 0) hl
  have mj := mrg_jn (h := h) (g := g) (b := 0) hl
  have ln : lenM [.list ((mrgH 0 h g).map prD)] = some (nD (mrgH 0 h g).length) := by
    show some (PyData.int ((mrgH 0 h g).map prD).length) = _
    rw [List.length_map]
    rfl
  have tp : tupleM [.list ((mrgH 0 h g).map prD)] = some (.tuple ((mrgH 0 h g).map prD)) := rfl
  have as2 : ∀ l : List PyData, asSeq (.list l) = some l := fun _ => rfl
  have lc := lcy (vs := [3]) (mi := mSeq (mV 2)) (g := gN 3) (me := mOp2 ixM (mV 3) (M.ret (.int 0))) (r := [.pl (rlD 0 h), .pl (rlD 0 g), .pl (.list ((mrgH 0 h g).map prD)), .un]) prD (fun p => nD p.1) (fun p => [.pl (rlD 0 h), .pl (rlD 0 g), .pl (.list ((mrgH 0 h g).map prD)), .pl (prD p)]) (xs := mrgH 0 h g)
    (by simp [as2]) (by simp [freeAt]) (by omega) (by simp) (by simp) (by
      intro p _
      have i0 := prD0 (p := p)
      simp [i0])
  have lt2 : ∀ a b : Nat, ltM (nD a) (nD b) = some (.bool (decide (a < b))) := fun a b => by
    show some (PyData.bool (decide ((a : Int) < (b : Int)))) = _
    simp
  rw [r_law_joined_f4720]
  have cd : (mOpT ltM (mLenSetU (mNew (mLc [3] (mSeq (mV 2)) (gN 3) mYes (mOp2 ixM (mV 3) (M.ret (.int 0)))))) (mCall lenM (mCons (mV 2) mNil))) [.pl (rlD 0 h), .pl (rlD 0 g), .pl (.list ((mrgH 0 h g).map prD)), .un] = some (.ok (cfH h g) [.pl (rlD 0 h), .pl (rlD 0 g), .pl (.list ((mrgH 0 h g).map prD)), .un]) := by
    have dc : decide (kn (jnH h g) < (mrgH 0 h g).length) = cfH h g := by
      cases q : cfH h g with
      | true => exact decide_eq_true (m2 q)
      | false => rw [mj q, rlp_kn]; exact decide_eq_false (Nat.lt_irrefl _)
    simp only [e_opT, e_lenSetU, e_new, e_bind, lc, e_ret, e_lift_some, le, e_call, e_cons, e_V, List.getElem?_cons_zero, List.getElem?_cons_succ, e_nil, ln, lt2, Option.bind_some, dc]
    rfl
  simp only [v_law_joined_f4720, s_seq, s_set, s_bind, e_new, e_bind, e_sortN, e_op2, e_callF, e_cons, e_V, List.getElem?_cons_zero, List.getElem?_cons_succ, e_nil, e_ret, e_lift_some, lt, ad, so, s_put, List.set_cons_zero, List.set_cons_succ, s_if, cd]
  unfold jnD
  cases q : cfH h g with
  | true =>
    simp only [if_true, s_ret, s_bind, e_ret, o_rt]
  | false =>
    rw [mj q] at tp ⊢
    simp only [Bool.false_eq_true, if_false, s_nil, s_ret, s_bind, e_call, e_bind, e_cons, e_V, List.getElem?_cons_zero, List.getElem?_cons_succ, e_nil, e_ret, tp, e_lift_some, o_rt]
    rfl
end DL
namespace DL
open PySem PySem.Spec PyProof.Rows L2 Lk
variable {ns S : List Nat} {W WA WB : List Nat → Bool} {h g q r : Hf} {x : Frm}
theorem eqv_prB (p q : Nat × Nat) : PyData.eqv (prD p) (prD q) = decide (p = q) := by
  show PyData.eqv (.tuple [.int _, .int _]) (.tuple [.int _, .int _]) = _
  simp only [PyData.eqv, PyData.eqvAll, Bool.and_true]
  rw [Bool.eq_iff_iff, Bool.and_eq_true, beq_iff_eq, beq_iff_eq, decide_eq_true_eq]
  constructor
  · rintro ⟨a, b⟩
    exact Prod.ext (by omega) (by omega)
  · rintro rfl
    exact ⟨rfl, rfl⟩
theorem anyT95 {α : Type} {xs : List α} {f : α → Bool} : anyM [.list (xs.map fun x => PyData.bool (f x))] = some (.bool (xs.any f)) := by
  have := e_any (bs := xs.map f)
  rw [List.map_map] at this
  rw [show (xs.map fun x => PyData.bool (f x)) = xs.map (PyData.bool ∘ f) from rfl, this, List.any_map]
  rfl
theorem in_prM {p : Nat × Nat} : inM (prD p) (rlD 0 g) = some (.bool (decide (p ∈ rlp 0 g))) := by
  show (if flatD (prD p) && ((rlp 0 g).map prD).all flatD then some (PyData.bool (memD (prD p) ((rlp 0 g).map prD))) else if SeqAt.shaped (prD p) && SeqAt.shaped (rlD 0 g) then some (PyData.bool (memD (prD p) ((rlp 0 g).map prD))) else none) = _
  rw [(sh_prK).sh, (sh_rlK).sh, show flatD (prD p) = false from rfl]
  rw [memD_map (p := fun c => decide (c = p)) fun c _ => eqv_prB c p]
  have : ((rlp 0 g).any fun c => decide (c = p)) = decide (p ∈ rlp 0 g) := by
    rw [Bool.eq_iff_iff, List.any_eq_true, decide_eq_true_eq]
    constructor
    · rintro ⟨c, hc, e⟩
      rw [← of_decide_eq_true e]
      exact hc
    · intro hg
      exact ⟨p, hg, decide_eq_true rfl⟩
  rw [this]
  rfl
def minB (L : List Hf) (h : Hf) : Bool := !(L.any fun one => decide (kn one < kn h) && subB one h)
theorem minB_iff {L : List Hf} (hl : ∀ g ∈ L, g.length = h.length) : minB L h = true ↔ ∀ g ∈ L, LeH g h → g = h := by
  unfold minB
  rw [Bool.not_eq_true', ← Bool.not_eq_true, List.any_eq_true]
  constructor
  · intro n g hg le
    refine (le_kn (hl g hg) le).2 (Nat.le_of_not_lt fun lt => n ⟨g, hg, ?_⟩)
    rw [Bool.and_eq_true, decide_eq_true_eq]
    exact ⟨lt, subB_iff.mpr le⟩
  · rintro n ⟨g, hg, e⟩
    rw [Bool.and_eq_true, decide_eq_true_eq] at e
    have := n g hg (subB_iff.mp e.2)
    rw [this] at e
    exact Nat.lt_irrefl _ e.1
def envLst (L acc : List Hf) (c2 : Cel) : En := [.pl (.list (L.map (rlD 0))), .ow (acc.map lnD), c2, .un, .un]
def in95L : SM := (sIf (mNotT (mTru (mCall anyM (mCons (mNew (mLc [4] (mSeq (mV 0)) (gN 4) mYes (mAndV (mOp2 ltM (mCall lenM (mCons (mV 4) mNil)) (mCall lenM (mCons (mV 2) mNil))) (mCall allM (mCons (mNew (mLc [3] (mSeq (mV 4)) (gN 3) mYes (mOp2 inM (mV 3) (mV 2)))) mNil))))) mNil))))
    (sApp 1 (mTup (mCons (mCall lenM (mCons (mV 2) mNil)) (mCons (mV 2) mNil))))
    sNil)
theorem in95L_ok {L acc : List Hf} (hL : ∀ g ∈ L, g.length ≤ 24) (lL : L.length ≤ 900000) (ha : acc.length ≤ 900000) :
    in95L (envLst L acc (.pl (rlD 0 h))) = some (.nx (envLst L (if minB L h = true then acc ++ [h] else acc) (.pl (rlD 0 h)))) := by
  have ln : ∀ z : Hf, lenM [rlD 0 z] = some (nD (kn z)) := fun z => len_rl
  have lt2 : ∀ a b : Nat, ltM (nD a) (nD b) = some (.bool (decide (a < b))) := fun a b => by
    show some (PyData.bool (decide ((a : Int) < (b : Int)))) = _
    simp
  have asT : ∀ z : Hf, asSeq (rlD 0 z) = some ((rlp 0 z).map prD) := fun _ => rfl
  have asL : ∀ l : List PyData, asSeq (.list l) = some l := fun _ => rfl
  have tr : ∀ b, truD (.bool b) = some b := fun _ => rfl
  have lc := lcy (vs := [4]) (mi := mSeq (mV 0)) (g := gN 4) (me := mAndV (mOp2 ltM (mCall lenM (mCons (mV 4) mNil)) (mCall lenM (mCons (mV 2) mNil))) (mCall allM (mCons (mNew (mLc [3] (mSeq (mV 4)) (gN 3) mYes (mOp2 inM (mV 3) (mV 2)))) mNil))) (r := envLst L acc (.pl (rlD 0 h)))
    (rlD 0) (fun one => .bool (decide (kn one < kn h) && subB one h)) (fun one => [.pl (.list (L.map (rlD 0))), .ow (acc.map lnD), .pl (rlD 0 h), .un, .pl (rlD 0 one)]) (xs := L) (by simp [envLst, asL]) (by simp [envLst, freeAt]) (by omega) (by simp [envLst]) (by simp [envLst]) (by
      intro one ho
      have l1 := rlp_len (h := one) (f := 0)
      have := hL one ho
      generalize L.map (rlD 0) = Z
      generalize acc.map lnD = Y
      have lc3 := lcy (vs := [3]) (mi := mSeq (mV 4)) (g := gN 3) (me := mOp2 inM (mV 3) (mV 2)) (r := [.pl (.list Z), .ow Y, .pl (rlD 0 h), .un, .pl (rlD 0 one)])
        prD (fun p => .bool (decide (p ∈ rlp 0 h))) (fun p => [.pl (.list Z), .ow Y, .pl (rlD 0 h), .pl (prD p), .pl (rlD 0 one)]) (xs := rlp 0 one) (by simp [asT]) (by simp [freeAt]) (by omega) (by simp) (by simp) (by
          intro p _
          have i := in_prM (p := p) (g := h)
          simp [i])
      have al := e_allT (xs := rlp 0 one) (f := fun p => decide (p ∈ rlp 0 h))
      have al : allM [.list ((rlp 0 one).map fun p => PyData.bool (decide (p ∈ rlp 0 h)))] = some (.bool (subB one h)) := al
      cases q : decide (kn one < kn h) with
      | false => simp [ln, lt2, q]
      | true => simp [-List.map_map, ln, lt2, q, lc3, al])
  have an := anyT95 (xs := L) (f := fun one => decide (kn one < kn h) && subB one h)
  have cd : (mNotT (mTru (mCall anyM (mCons (mNew (mLc [4] (mSeq (mV 0)) (gN 4) mYes (mAndV (mOp2 ltM (mCall lenM (mCons (mV 4) mNil)) (mCall lenM (mCons (mV 2) mNil))) (mCall allM (mCons (mNew (mLc [3] (mSeq (mV 4)) (gN 3) mYes (mOp2 inM (mV 3) (mV 2)))) mNil))))) mNil)))) (envLst L acc (.pl (rlD 0 h))) = some (.ok (minB L h) (envLst L acc (.pl (rlD 0 h)))) := by
    simp only [e_notT, e_tru, e_call, e_bind, e_cons, e_new, lc, e_ret, e_nil, e_lift_some, an, tr]
    rfl
  have ln2 := ln h
  have tp : tupM [nD (kn h), rlD 0 h] = some (lnD h) := rfl
  unfold in95L
  rw [s_if, s_bind, cd]
  dsimp only
  cases q : minB L h with
  | true =>
    rw [if_pos rfl, if_pos rfl]
    simp only [envLst, s_app, e_own_ow, Option.isSome_some, if_true, s_bind, e_tup, e_bind, e_cons, e_call, e_V, List.getElem?_cons_zero, List.getElem?_cons_succ, e_nil, e_ret, e_lift_some, ln2, tp, List.length_map]
    simp [s_upO]
    omega
  | false =>
    rw [if_neg (by decide), if_neg (by decide), s_nil]
theorem g_least_ok95 {n : Nat} {L R : List Hf} (hn : n ≤ 24) (hL : ∀ g ∈ L, g.length = n) (lL : L.length ≤ 900000) (up : R.Pairwise fun h g => kn h < kn g ∨ (kn h = kn g ∧ lexC h g)) (m : ∀ h, h ∈ R ↔ h ∈ L ∧ ∀ g ∈ L, LeH g h → g = h) (few : R.length < 77) :
    g_law_least_64473 [.list (L.map (rlD 0))] = some (.list (R.map (rlD 0))) := by
  rw [r_law_least_64473]
  have asL : ∀ l : List PyData, asSeq (.list l) = some l := fun _ => rfl
  obtain ⟨r2, e, P, c2, rfl, h2, hP⟩ := for_i (g := gN 2) (b := in95L) (rlD 0)
    (fun xs r2 => ∃ P c2, r2 = envLst L (P.filter (minB L)) c2 ∧ c2.own = false ∧ L = P ++ xs)
    (xs := L) (r := envLst L [] .un) ⟨[], .un, rfl, rfl, rfl⟩ (by
      rintro h xs r2 ⟨P, c2, rfl, h2, hP⟩
      have lP : (P.filter (minB L)).length ≤ 900000 := by
        have := List.length_filter_le (minB L) P
        have := congrArg List.length hP
        rw [List.length_append] at this
        omega
      have i := in95L_ok (h := h) (L := L) (acc := P.filter (minB L)) (fun g hg => by rw [hL g hg]; exact hn) lL lP
      refine ⟨envLst L (P.filter (minB L)) (.pl (rlD 0 h)), _, by simp [envLst, h2], i, P ++ [h], .pl (rlD 0 h), ?_, rfl, by rw [List.append_assoc]; exact hP⟩
      rw [List.filter_append]
      cases q : minB L h <;> simp [q])
  rw [List.append_nil] at hP
  subst hP
  have hm : ∀ h, h ∈ R ↔ h ∈ L.filter (minB L) := fun h => by
    rw [m h, List.mem_filter]
    refine and_congr_right fun hh => ?_
    rw [minB_iff fun g hg => by rw [hL g hg, hL h hh]]
  have so := sortN_ln (n := n) (X := L.filter (minB L)) (R := R) (fun h hh => hL h ((m h).mp hh).1) up hm few
  have ix1 : ∀ h : Hf, ixM (lnD h) (.int 1) = some (rlD 0 h) := fun h => by
    show atI [nD (kn h), rlD 0 h] 1 = _
    exact e_at1
  have lo := lcy (vs := [3]) (mi := mSeq (mNew (mSortN (mV 1)))) (g := gN 3) (me := mOp2 ixM (mV 3) (M.ret (.int 1))) (r := [.pl (.list (L.map (rlD 0))), .pl (.list ((L.filter (minB L)).map lnD)), c2, .un, .un])
    lnD (rlD 0) (fun h => [.pl (.list (L.map (rlD 0))), .pl (.list ((L.filter (minB L)).map lnD)), c2, .pl (lnD h), .un]) (xs := R) (by simp only [e_seqI, e_bind, e_new, e_sortN, e_V, List.getElem?_cons_zero, List.getElem?_cons_succ, e_lift_some, so, e_ret, asL]) (by simp [freeAt]) (by omega) (by simp) (by simp) (by
      intro h _
      simp only [e_op2, e_bind, e_V, List.getElem?_cons_zero, List.getElem?_cons_succ, e_ret, e_lift_some, ix1])
  have l0 : lstM [] = some [] := rfl
  have e : forGo (gN 2) in95L (L.map (rlD 0)) [.pl (.list (L.map (rlD 0))), .ow [], .un, .un, .un] = _ := e
  unfold in95L envLst at e
  simp only [v_law_least_64473, s_seq, s_own, s_bind, e_lst, e_bind, e_nil, l0, e_lift_some, s_putO, List.getElem?_cons_zero, List.getElem?_cons_succ, List.set_cons_zero, List.set_cons_succ, s_for, e_seqI, e_V, asL, e, s_frz, s_ret, e_new, lo, e_ret, o_rt]
def envJ (P Q acc : List Hf) (c3 c4 c5 : Cel) : En := [.pl (.list (P.map (rlD 0))), .pl (.list (Q.map (rlD 0))), .ow (acc.map (rlD 0)), c3, c4, c5]
def in95J : SM := (sSeq (sSet 5 (mCall g_law_joined_f4720 (mCons (mV 3) (mCons (mV 4) mNil))))
  (sIf (mPeek (mAnd (mOpT isNotM (mV 5) (M.ret .none)) (mOpT notInM (mV 5) (mV 2))))
    (sApp 2 (mV 5))
    sNil))
def stJ (acc : List Hf) (h g : Hf) : List Hf := if cfH h g = true then acc else if jnH h g ∈ acc then acc else acc ++ [jnH h g]
theorem in95J_ok {P Q acc : List Hf} {n : Nat} {c5 : Cel} (hn : n ≤ 24) (hh : h.length = n) (hg : g.length = n) (ha : ∀ a ∈ acc, a.length = n) (la : acc.length ≤ 900000) (h5 : c5.own = false) :
    in95J (envJ P Q acc (.pl (rlD 0 h)) (.pl (rlD 0 g)) c5) = some (.nx (envJ P Q (stJ acc h g) (.pl (rlD 0 h)) (.pl (rlD 0 g)) (.pl (jnD h g)))) := by
  have gj := g_joined_ok (h := h) (g := g) (hh.trans hg.symm) (by omega)
  unfold in95J
  rw [s_seq, s_set_c (d := jnD h g) (c := c5) (by simp only [envJ, e_call, e_bind, e_cons, e_V, List.getElem?_cons_zero, List.getElem?_cons_succ, e_nil, e_ret, gj, e_lift_some]) rfl h5]
  dsimp only
  unfold stJ jnD
  cases q : cfH h g with
  | true =>
    simp [envJ]
  | false =>
    have ni := notIn_rls (g := jnH h g) (C := acc) fun c hc => by rw [ha c hc, jnH_len (hh.trans hg.symm), hh]
    have isn : isNotM (rlD 0 (jnH h g)) .none = some (.bool true) := rfl
    have mr : (acc.map (rlD 0)).length ≤ 1000000 := by rw [List.length_map]; omega
    by_cases z : jnH h g ∈ acc
    · rw [decide_eq_true z] at ni
      simp [envJ, isn, ni, z]
    · rw [decide_eq_false z] at ni
      simp [envJ, isn, ni, z]
      omega
theorem stJ_len {acc : List Hf} : (stJ acc h g).length ≤ acc.length + 1 := by
  unfold stJ
  split
  · omega
  · split
    · omega
    · simp
theorem mem_stJ {acc : List Hf} : r ∈ stJ acc h g ↔ r ∈ acc ∨ (cfH h g = false ∧ r = jnH h g) := by
  unfold stJ
  cases q : cfH h g with
  | true => simp
  | false =>
    rw [if_neg (by decide)]
    split
    · rename_i m
      constructor
      · exact .inl
      · rintro (a | ⟨_, rfl⟩)
        · exact a
        · exact m
    · simp
theorem fold_len {h : Hf} : ∀ {xs acc : List Hf}, (xs.foldl (fun a g => stJ a h g) acc).length ≤ acc.length + xs.length
  | [], acc => Nat.le_refl _
  | g :: xs, acc => by
    have ih := fold_len (h := h) (xs := xs) (acc := stJ acc h g)
    have := stJ_len (h := h) (g := g) (acc := acc)
    rw [List.foldl_cons, List.length_cons]
    omega
theorem mem_fold {h : Hf} : ∀ {xs acc : List Hf}, r ∈ xs.foldl (fun a g => stJ a h g) acc ↔ r ∈ acc ∨ ∃ g ∈ xs, cfH h g = false ∧ r = jnH h g
  | [], acc => by simp
  | g :: xs, acc => by
    rw [List.foldl_cons, mem_fold (xs := xs), mem_stJ]
    constructor
    · rintro ((a | a) | ⟨g', m, a⟩)
      · exact .inl a
      · exact .inr ⟨g, List.mem_cons_self, a⟩
      · exact .inr ⟨g', List.mem_cons_of_mem _ m, a⟩
    · rintro (a | ⟨g', m, a⟩)
      · exact .inl (.inl a)
      · rcases List.mem_cons.mp m with rfl | m
        · exact .inl (.inr a)
        · exact .inr ⟨g', m, a⟩
def allJ (P Q acc : List Hf) : List Hf := P.foldl (fun a h => Q.foldl (fun a g => stJ a h g) a) acc
theorem allJ_len {Q : List Hf} : ∀ {P acc : List Hf}, (allJ P Q acc).length ≤ acc.length + P.length * Q.length
  | [], acc => by simp [allJ]
  | h :: P, acc => by
    have ih := allJ_len (Q := Q) (P := P) (acc := Q.foldl (fun a g => stJ a h g) acc)
    have := fold_len (h := h) (xs := Q) (acc := acc)
    show (allJ P Q (Q.foldl (fun a g => stJ a h g) acc)).length ≤ _
    rw [List.length_cons, Nat.succ_mul]
    omega
theorem mem_allJ {Q : List Hf} : ∀ {P acc : List Hf}, r ∈ allJ P Q acc ↔ r ∈ acc ∨ ∃ h ∈ P, ∃ g ∈ Q, cfH h g = false ∧ r = jnH h g
  | [], acc => by simp [allJ]
  | h :: P, acc => by
    show r ∈ allJ P Q (Q.foldl (fun a g => stJ a h g) acc) ↔ _
    rw [mem_allJ (P := P), mem_fold]
    constructor
    · rintro ((a | a) | ⟨h', m, a⟩)
      · exact .inl a
      · exact .inr ⟨h, List.mem_cons_self, a⟩
      · exact .inr ⟨h', List.mem_cons_of_mem _ m, a⟩
    · rintro (a | ⟨h', m, a⟩)
      · exact .inl (.inl a)
      · rcases List.mem_cons.mp m with rfl | m
        · exact .inl (.inr a)
        · exact .inr ⟨h', m, a⟩
theorem inner95 {n : Nat} {P Q acc : List Hf} {c4 c5 : Cel} (hn : n ≤ 24) (hh : h.length = n) (hQ : ∀ g ∈ Q, g.length = n) (ha : ∀ a ∈ acc, a.length = n) (la : acc.length + Q.length ≤ 900000) (h4 : c4.own = false) (h5 : c5.own = false) :
    ∃ c4' c5', forGo (gN 4) in95J (Q.map (rlD 0)) (envJ P Q acc (.pl (rlD 0 h)) c4 c5) = some (.nx (envJ P Q (Q.foldl (fun a g => stJ a h g) acc) (.pl (rlD 0 h)) c4' c5')) ∧ c4'.own = false ∧ c5'.own = false := by
  obtain ⟨r2, e, acc', c4', c5', rfl, h4', h5', hf, _⟩ := for_i (g := gN 4) (b := in95J) (rlD 0)
    (fun xs r2 => ∃ acc' c4' c5', r2 = envJ P Q acc' (.pl (rlD 0 h)) c4' c5' ∧ c4'.own = false ∧ c5'.own = false ∧ xs.foldl (fun a g => stJ a h g) acc' = Q.foldl (fun a g => stJ a h g) acc ∧ (∀ a ∈ acc', a.length = n) ∧ (∀ g ∈ xs, g.length = n) ∧ acc'.length + xs.length ≤ 900000)
    (xs := Q) (r := envJ P Q acc (.pl (rlD 0 h)) c4 c5) ⟨acc, c4, c5, rfl, h4, h5, rfl, ha, hQ, la⟩ (by
      rintro g xs r2 ⟨acc', c4', c5', rfl, h4', h5', hf, ha', hx, la'⟩
      have hg := hx g List.mem_cons_self
      rw [List.length_cons] at la'
      have i := in95J_ok (P := P) (Q := Q) (acc := acc') (h := h) (g := g) hn hh hg ha' (by omega) h5'
      have sl := stJ_len (h := h) (g := g) (acc := acc')
      refine ⟨envJ P Q acc' (.pl (rlD 0 h)) (.pl (rlD 0 g)) c5', _, by simp [envJ, h4'], i, stJ acc' h g, _, _, rfl, rfl, rfl, hf, fun a m => ?_, fun g' m => hx g' (List.mem_cons_of_mem _ m), by omega⟩
      rcases mem_stJ.mp m with m | ⟨_, rfl⟩
      · exact ha' a m
      · rw [jnH_len (hh.trans hg.symm), hh])
  rw [List.foldl_nil] at hf
  subst hf
  exact ⟨c4', c5', e, h4', h5'⟩
theorem g_joins_ok95 {n : Nat} {P Q R : List Hf} (hn : n ≤ 24) (hP : ∀ h ∈ P, h.length = n) (hQ : ∀ g ∈ Q, g.length = n) (lP : P.length ≤ 76) (lQ : Q.length ≤ 76) (up : R.Pairwise fun h g => kn h < kn g ∨ (kn h = kn g ∧ lexC h g))
    (m : ∀ r, r ∈ R ↔ (∃ h ∈ P, ∃ g ∈ Q, cfH h g = false ∧ r = jnH h g) ∧ ∀ h ∈ P, ∀ g ∈ Q, cfH h g = false → LeH (jnH h g) r → jnH h g = r) (few : R.length < 77) :
    g_law_joins_cd054 [.list (P.map (rlD 0)), .list (Q.map (rlD 0))] = some (.list (R.map (rlD 0))) := by
  rw [r_law_joins_cd054]
  have asL : ∀ l : List PyData, asSeq (.list l) = some l := fun _ => rfl
  have l76 : P.length * Q.length ≤ 76 * 76 := Nat.mul_le_mul lP lQ
  obtain ⟨r2, e, acc', c3, c4', c5', rfl, h3, h4', h5', hf, _⟩ := for_i (g := gN 3) (b := sFor (mSeq (mV 1)) (gN 4) in95J) (rlD 0)
    (fun xs r2 => ∃ acc' c3 c4' c5', r2 = envJ P Q acc' c3 c4' c5' ∧ c3.own = false ∧ c4'.own = false ∧ c5'.own = false ∧ allJ xs Q acc' = allJ P Q [] ∧ (∀ a ∈ acc', a.length = n) ∧ (∀ g ∈ xs, g.length = n) ∧ acc'.length + xs.length * Q.length ≤ 10000)
    (xs := P) (r := envJ P Q [] .un .un .un) ⟨[], .un, .un, .un, rfl, rfl, rfl, rfl, rfl, (by simp), hP, (by simp; omega)⟩ (by
      rintro h xs r2 ⟨acc', c3, c4', c5', rfl, h3, h4', h5', hf, ha', hx, la'⟩
      have hh := hx h List.mem_cons_self
      rw [List.length_cons, Nat.succ_mul] at la'
      obtain ⟨c4, c5, i, h4, h5⟩ := inner95 (h := h) (P := P) (Q := Q) (acc := acc') hn hh hQ ha' (by omega) h4' h5'
      have fl := fold_len (h := h) (xs := Q) (acc := acc')
      refine ⟨envJ P Q acc' (.pl (rlD 0 h)) c4' c5', _, by simp [envJ, h3], ?_, Q.foldl (fun a g => stJ a h g) acc', .pl (rlD 0 h), c4, c5, rfl, rfl, h4, h5, hf, fun a m => ?_, fun g' m => hx g' (List.mem_cons_of_mem _ m), by omega⟩
      · have sq : mSeq (mV 1) (envJ P Q acc' (.pl (rlD 0 h)) c4' c5') = some (.ok (Q.map (rlD 0)) (envJ P Q acc' (.pl (rlD 0 h)) c4' c5')) := by
          simp only [envJ, e_seqI, e_bind, e_V, List.getElem?_cons_zero, List.getElem?_cons_succ, asL, e_lift_some]
        rw [s_for, s_bind, sq]
        exact i
      · rcases mem_fold.mp m with m | ⟨g, hg, _, rfl⟩
        · exact ha' a m
        · rw [jnH_len (hh.trans (hQ g hg).symm), hh])
  have hf : acc' = allJ P Q [] := hf
  subst hf
  have lL := allJ_len (Q := Q) (P := P) (acc := [])
  have mL : ∀ r, r ∈ allJ P Q [] ↔ ∃ h ∈ P, ∃ g ∈ Q, cfH h g = false ∧ r = jnH h g := fun r => by rw [mem_allJ]; simp
  have gl := g_least_ok95 (n := n) (L := allJ P Q []) (R := R) hn (fun r hr => by
    obtain ⟨h, hh, g, hg, _, rfl⟩ := (mL r).mp hr
    rw [jnH_len ((hP h hh).trans (hQ g hg).symm), hP h hh]) (by simp at lL; omega) up (fun r => by
    rw [m r, mL r]
    refine and_congr_right fun _ => ?_
    constructor
    · intro a q hq le
      obtain ⟨h, hh, g, hg, c, rfl⟩ := (mL q).mp hq
      exact a h hh g hg c le
    · intro a h hh g hg c le
      exact a _ ((mL _).mpr ⟨h, hh, g, hg, c, rfl⟩) le) few
  have l0 : lstM [] = some [] := rfl
  have e : forGo (gN 3) (sFor (mSeq (mV 1)) (gN 4) in95J) (P.map (rlD 0)) [.pl (.list (P.map (rlD 0))), .pl (.list (Q.map (rlD 0))), .ow [], .un, .un, .un] = _ := e
  unfold in95J envJ at e
  simp only [v_law_joins_cd054, s_seq, s_own, s_bind, e_lst, e_bind, e_nil, l0, e_lift_some, s_putO, List.getElem?_cons_zero, List.getElem?_cons_succ, List.set_cons_zero, List.set_cons_succ, s_for, e_seqI, e_V, asL, e, s_frz, s_ret, e_call, e_cons, gl, e_ret, o_rt]
variable {y z : Frm}
theorem g_joins_pms (hn : Sz ns) (hp : pls ns ≤ 108) {r1 r2 s : Bool} (eW : ∀ c, (z.ev ns c == s) = ((x.ev ns c == r1) && (y.ev ns c == r2))) :
    g_law_joins_cd054 [.list ((pms ns x r1).map (rlD 0)), .list ((pms ns y r2).map (rlD 0))] = some (.list ((pms ns z s).map (rlD 0))) :=
  g_joins_ok95 (n := ns.length) hn.1 (fun h hh => ((mem_pms hn).mp hh).1.1) (fun h hh => ((mem_pms hn).mp hh).1.1) (pms_76 hn hp) (pms_76 hn hp) pms_lex (fun r => by
    rw [mem_pms hn, prime_and (WA := fun c => x.ev ns c == r1) (WB := fun c => y.ev ns c == r2) eW]
    constructor
    · rintro ⟨⟨h, g, H, G, c, e⟩, a⟩
      exact ⟨⟨h, (mem_pms hn).mpr H, g, (mem_pms hn).mpr G, c, e⟩, fun h hh g hg => a h g ((mem_pms hn).mp hh) ((mem_pms hn).mp hg)⟩
    · rintro ⟨⟨h, H, g, G, c, e⟩, a⟩
      exact ⟨⟨h, g, (mem_pms hn).mp H, (mem_pms hn).mp G, c, e⟩, fun h g H G => a h ((mem_pms hn).mpr H) g ((mem_pms hn).mpr G)⟩) (by have := pms_76 (x := z) hn hp (r := s); omega)
end DL
namespace DL
open PySem PySem.Spec PyProof.Rows L2 Lk
variable {ns S : List Nat} {h g q r : Hf} {x y : Frm}
theorem prod_le95 : ∀ {ns : List Nat}, prod ns ≤ pls ns
  | [] => Nat.le_refl _
  | n :: ns => by
    show n * prod ns ≤ (n + 1) * pls ns
    exact Nat.mul_le_mul (Nat.le_succ _) prod_le95
noncomputable abbrev rs95 (ns : List Nat) (x : Frm) (r : Bool) : PyData := .list ((pms ns x r).map (rlD 0))
theorem pms_not {r : Bool} : pms ns (.neg x) r = pms ns x (!r) := by
  unfold pms
  have : (anss ns (.neg x)).map (· == r) = (anss ns x).map (· == !r) := by
    unfold anss
    rw [List.map_map, List.map_map]
    refine List.map_congr_left fun c _ => ?_
    show ((Frm.neg x).ev ns c == r) = (x.ev ns c == !r)
    rw [ev_not]
    cases x.ev ns c <;> cases r <;> rfl
  rw [this]
noncomputable def env95 (s : PyData) (c : Int) (ns : List Nat) (x y : Frm) (d5 d6 : PyData) (c7 : Cel) : En := [.pl s, .pl (.int c), .pl (nsD ns), .pl x.D, .pl y.D, .pl d5, .pl d6, c7]
def in95 : SM := (sIf (mOpT neM (mCall g_prime_rules (mCons (mNew (mCallF listM (mCons (mV 2) mNil))) (mCons (mTup (mCons (M.ret (.str "not")) (mCons (mV 4) mNil))) (mCons (mV 7) mNil)))) (mCall g_prime_rules (mCons (mNew (mCallF listM (mCons (mV 2) mNil))) (mCons (mV 4) (mCons (mNotV (mV 7)) mNil)))))
    (sRet (M.ret (.bool false)))
    sNil)
theorem in95_ok (A : AskB ns y 5 125) {s : PyData} {c : Int} {d5 d6 : PyData} {f : Bool} :
    in95 (env95 s c ns x y d5 d6 (.pl (.bool f))) = some (.nx (env95 s c ns x y d5 d6 (.pl (.bool f)))) := by
  have g1 := g_prime_rules_ok A.neg.ask (r := f)
  have g2 := g_prime_rules_ok A.ask (r := !f)
  rw [pms_not] at g1
  rw [← D_not] at g1
  have n1 := ne_rlsK (L := pms ns y (!f))
  have lm : listM [nsD ns] = some (ns.map nD) := rfl
  have tp : tupM [.str "not", y.D] = some (.tuple [.str "not", y.D]) := rfl
  generalize (pms ns y (!f)).map (rlD 0) = L at g1 g2 n1
  have g1 : g_prime_rules [.list (ns.map nD), .tuple [.str "not", y.D], .bool f] = some (.list L) := g1
  have g2 : g_prime_rules [.list (ns.map nD), y.D, .bool (!f)] = some (.list L) := g2
  unfold in95
  rw [s_if, s_bind]
  simp only [env95, e_opT, e_bind, e_call, e_cons, e_new, e_callF, e_V, List.getElem?_cons_zero, List.getElem?_cons_succ, e_nil, e_ret, e_lift_some, lm, e_tup, tp, g1, g2, e_notV, e_asBool, n1, Option.bind_some]
  simp [s_nil]
theorem true_k95 (l : List Int) (hl : l.length ≤ 63) (hb : ∀ z ∈ l, Builtin.Int.intBits z ≤ 1048576) : g_law_k95 [.list (l.map PyData.int)] = some (.bool true) := by
  rw [r_law_k95]
  have hb' : ∀ z ∈ l, Bits z := hb
  have b0 := bits_getD hb' (k := 0)
  have g0 : g_law_cell_98eb9 [isD l, .int 0] = some (.int (l.getD 0 0)) := g_cell_ok (k := 0)
  generalize l.getD 0 0 = c0 at b0 g0
  have cut1 : cutD (l.map PyData.int) (some 1) (some 14) = ((l.drop 1).take 13).map PyData.int := e_cut (lo := 1) (hi := 14)
  have cut2 : cutD (l.map PyData.int) (some 14) (some 27) = ((l.drop 14).take 13).map PyData.int := e_cut (lo := 14) (hi := 27)
  have bc1 : ∀ z ∈ (l.drop 1).take 13, Bits z := fun z h => hb z (List.mem_of_mem_drop (List.mem_of_mem_take h))
  have bc2 : ∀ z ∈ (l.drop 14).take 13, Bits z := fun z h => hb z (List.mem_of_mem_drop (List.mem_of_mem_take h))
  have lc1 : ((l.drop 1).take 13).length ≤ 1000 := by simp; omega
  have lc2 : ((l.drop 14).take 13).length ≤ 1000 := by simp; omega
  generalize (l.drop 1).take 13 = cells1 at cut1 bc1 lc1
  generalize (l.drop 14).take 13 = cells2 at cut2 bc2 lc2
  obtain ⟨ns, e1, hn, l10, hp⟩ := g_sizes_ok (m := 1) (k := 64) b0 (by decide) (by decide) (by decide)
  have e1' : g_law_sizes_48d55 [.int c0, .int 1, .int 64] = some (nsD ns) := e1
  have hp : pls ns ≤ 64 := hp
  have hp' : prod ns ≤ 64 := Nat.le_trans prod_le95 hp
  obtain ⟨x, ex, A⟩ := g_brief_ok (cells := cells1) hn (by omega) bc1 lc1
  obtain ⟨y0, ey, B0⟩ := g_brief_ok (cells := cells2) hn (by omega) bc2 lc2
  have d0 : g_law_draw_48e0b [.int c0, .int 46, .int 4] = some (nD (drw c0 46 4)) := g_draw (k := 46) (l := 4) b0 (by decide) (by decide)
  obtain ⟨b, eb⟩ : ∃ b, eqM (nD (drw c0 46 4)) (.int 0) = some (.bool b) := ⟨_, e_eq_n (b := 0)⟩
  obtain ⟨y, ey2, B⟩ : ∃ y : Frm, (if b = true then PyData.tuple [.str "and", .tuple [x.D, .tuple [.str "not", y0.D]]] else y0.D) = y.D ∧ AskB ns y 5 125 := by
    cases b with
    | true => exact ⟨.join .and [x, .neg y0], by rw [if_pos rfl, D_not, D_and], ((A.up (d' := 4) (s' := 61)).two B0.neg .and).up⟩
    | false => exact ⟨y0, by rw [if_neg (by decide)], B0.up⟩
  have A := A.up (d' := 5) (s' := 125)
  have p1 := g_prime_rules_ok A.ask (r := true)
  have p2 := g_prime_rules_ok B.ask (r := true)
  have p3 := g_prime_rules_ok (A.two B .and).ask (r := true)
  have p4 := g_prime_rules_ok A.ask (r := false)
  have p5 := g_prime_rules_ok B.ask (r := false)
  have p6 := g_prime_rules_ok (B.two A .or).ask (r := false)
  rw [← D_and] at p3
  rw [← D_or] at p6
  have j1 := g_joins_pms (x := x) (y := y) (z := .join .and [x, y]) hn (show pls ns ≤ 108 by omega) (r1 := true) (r2 := true) (s := true) fun c => by
    rw [ev_and]
    cases x.ev ns c <;> cases y.ev ns c <;> rfl
  have j2 := g_joins_pms (x := x) (y := y) (z := .join .or [y, x]) hn (show pls ns ≤ 108 by omega) (r1 := false) (r2 := false) (s := false) fun c => by
    rw [ev_or]
    cases x.ev ns c <;> cases y.ev ns c <;> rfl
  have n1 := ne_rlsK (L := pms ns (.join .and [x, y]) true)
  have n2 := ne_rlsK (L := pms ns (.join .or [y, x]) false)
  have lm : listM [nsD ns] = some (ns.map nD) := rfl
  have as2 : ∀ l : List PyData, asSeq (.list l) = some l := fun _ => rfl
  have l2 : lstM [.bool true, .bool false] = some ([true, false].map PyData.bool) := rfl
  obtain ⟨r2, eL, _⟩ := for_i (g := gN 7) (b := in95) PyData.bool
    (fun xs r => ∃ c7, r = env95 (isD l) c0 ns x y (rs95 ns (.join .and [x, y]) true) (rs95 ns (.join .or [y, x]) false) c7 ∧ c7.own = false)
    (xs := [true, false]) (r := env95 (isD l) c0 ns x y (rs95 ns (.join .and [x, y]) true) (rs95 ns (.join .or [y, x]) false) .un) ⟨_, rfl, rfl⟩ (by
      rintro f xs r ⟨c7, rfl, h7⟩
      exact ⟨env95 (isD l) c0 ns x y (rs95 ns (.join .and [x, y]) true) (rs95 ns (.join .or [y, x]) false) (.pl (.bool f)), _, by simp [env95, h7], in95_ok B, .pl (.bool f), rfl, rfl⟩)
  have tp1 : tupM [.str "not", y0.D] = some (.tuple [.str "not", y0.D]) := rfl
  have tp2 : tupM [x.D, .tuple [.str "not", y0.D]] = some (.tuple [x.D, .tuple [.str "not", y0.D]]) := rfl
  have tp3 : tupM [.str "and", .tuple [x.D, .tuple [.str "not", y0.D]]] = some (.tuple [.str "and", .tuple [x.D, .tuple [.str "not", y0.D]]]) := rfl
  have tp4 : tupM [x.D, y.D] = some (.tuple [x.D, y.D]) := rfl
  have tp5 : tupM [.str "and", .tuple [x.D, y.D]] = some (.tuple [.str "and", .tuple [x.D, y.D]]) := rfl
  have tp6 : tupM [y.D, x.D] = some (.tuple [y.D, x.D]) := rfl
  have tp7 : tupM [.str "or", .tuple [y.D, x.D]] = some (.tuple [.str "or", .tuple [y.D, x.D]]) := rfl
  have st : (sIf (mOpT eqM (mCall g_law_draw_48e0b (mCons (mV 1) (mCons (M.ret (.int 46)) (mCons (M.ret (.int 4)) mNil)))) (M.ret (.int 0)))
    (sSet 4 (mTup (mCons (M.ret (.str "and")) (mCons (mTup (mCons (mV 3) (mCons (mTup (mCons (M.ret (.str "not")) (mCons (mV 4) mNil))) mNil))) mNil))))
    sNil) [.pl (isD l), .pl (.int c0), .pl (nsD ns), .pl x.D, .pl y0.D, .un, .un, .un] = some (.nx [.pl (isD l), .pl (.int c0), .pl (nsD ns), .pl x.D, .pl y.D, .un, .un, .un]) := by
    rw [← ey2]
    cases b with
    | true => simp [d0, eb, tp1, tp2, tp3]
    | false => simp [d0, eb]
  unfold in95 env95 rs95 at eL
  have p1 : g_prime_rules [.list (ns.map nD), x.D, .bool true] = _ := p1
  have p2 : g_prime_rules [.list (ns.map nD), y.D, .bool true] = _ := p2
  have p3 : g_prime_rules [.list (ns.map nD), .tuple [.str "and", .tuple [x.D, y.D]], .bool true] = _ := p3
  have p4 : g_prime_rules [.list (ns.map nD), x.D, .bool false] = _ := p4
  have p5 : g_prime_rules [.list (ns.map nD), y.D, .bool false] = _ := p5
  have p6 : g_prime_rules [.list (ns.map nD), .tuple [.str "or", .tuple [y.D, x.D]], .bool false] = _ := p6
  simp only [v_law_k95, s_seq, s_set, s_bind, e_call, e_bind, e_cons, e_V, List.getElem?_cons_zero, List.getElem?_cons_succ, e_ret, e_nil, e_lift_some, g0, e1', s_put, List.set_cons_succ, List.set_cons_zero, e_new, e_slice, e_part, e_asInt, Option.map_some, e_asList, cut1, cut2, ex, ey, st, e_callF, lm, p1, p2, j1]
  rw [s_if, s_bind]
  simp only [e_opT, e_bind, e_call, e_cons, e_new, e_callF, e_V, List.getElem?_cons_zero, List.getElem?_cons_succ, e_nil, e_ret, e_lift_some, lm, e_tup, tp4, tp5, p3, n1, e_asBool, Option.bind_some, Bool.false_eq_true, if_false, s_nil, s_seq, s_set, s_bind, s_put, List.set_cons_succ, List.set_cons_zero, p4, p5, j2]
  rw [s_if, s_bind]
  simp only [e_opT, e_bind, e_call, e_cons, e_new, e_callF, e_V, List.getElem?_cons_zero, List.getElem?_cons_succ, e_nil, e_ret, e_lift_some, lm, e_tup, tp6, tp7, p6, n2, e_asBool, Option.bind_some, Bool.false_eq_true, if_false, s_nil, s_for, s_seq]
  rw [s_bind]
  simp only [e_seqI, e_bind, e_new, e_lst, e_cons, e_ret, e_nil, e_lift_some, l2, as2, eL, s_ret, s_bind, o_rt]
end DL
namespace DL
open PySem PySem.Spec PyProof.Rows L2 Lk
theorem all_mk {l : PySem.W.OpenLaw} {w : World} {K : PySem.W.Frag} {h : Heap} {mg : Str → Option Value} {fa : Addr} (X : K.In h) (G : h.Ns mainGlobals mg) (hfa : mg "law" = some (.ref fa))
    {f0 : Addr} {od0 an0 : Option Addr} {sl0 : Array (Option Value)} {oc0 kV0 dc0 pm0 cd0 ct0 : Value}
    {f1 : Addr} {od1 an1 : Option Addr} {sl1 : Array (Option Value)} {oc1 kV1 dc1 pm1 cd1 ct1 : Value}
    {f2 : Addr} {od2 an2 : Option Addr} {sl2 : Array (Option Value)} {oc2 kV2 dc2 pm2 cd2 ct2 : Value}
    {f3 : Addr} {od3 an3 : Option Addr} {sl3 : Array (Option Value)} {oc3 kV3 dc3 pm3 cd3 ct3 : Value}
    {f4 : Addr} {od4 an4 : Option Addr} {sl4 : Array (Option Value)} {oc4 kV4 dc4 pm4 cd4 ct4 : Value}
    {f5 : Addr} {od5 an5 : Option Addr} {sl5 : Array (Option Value)} {oc5 kV5 dc5 pm5 cd5 ct5 : Value}
    {f6 : Addr} {od6 an6 : Option Addr} {sl6 : Array (Option Value)} {oc6 kV6 dc6 pm6 cd6 ct6 : Value}
    {f7 : Addr} {od7 an7 : Option Addr} {sl7 : Array (Option Value)} {oc7 kV7 dc7 pm7 cd7 ct7 : Value}
    {f8 : Addr} {od8 an8 : Option Addr} {sl8 : Array (Option Value)} {oc8 kV8 dc8 pm8 cd8 ct8 : Value}
    {f9 : Addr} {od9 an9 : Option Addr} {sl9 : Array (Option Value)} {oc9 kV9 dc9 pm9 cd9 ct9 : Value}
    {f10 : Addr} {od10 an10 : Option Addr} {sl10 : Array (Option Value)} {oc10 kV10 dc10 pm10 cd10 ct10 : Value}
    {f11 : Addr} {od11 an11 : Option Addr} {sl11 : Array (Option Value)} {oc11 kV11 dc11 pm11 cd11 ct11 : Value}
    {f12 : Addr} {od12 an12 : Option Addr} {sl12 : Array (Option Value)} {oc12 kV12 dc12 pm12 cd12 ct12 : Value}
    {f13 : Addr} {od13 an13 : Option Addr} {sl13 : Array (Option Value)} {oc13 kV13 dc13 pm13 cd13 ct13 : Value}
    {f14 : Addr} {od14 an14 : Option Addr} {sl14 : Array (Option Value)} {oc14 kV14 dc14 pm14 cd14 ct14 : Value}
    {f15 : Addr} {od15 an15 : Option Addr} {sl15 : Array (Option Value)} {oc15 kV15 dc15 pm15 cd15 ct15 : Value}
    {f16 : Addr} {od16 an16 : Option Addr} {sl16 : Array (Option Value)} {oc16 kV16 dc16 pm16 cd16 ct16 : Value}
    {f17 : Addr} {od17 an17 : Option Addr} {sl17 : Array (Option Value)} {oc17 kV17 dc17 pm17 cd17 ct17 : Value}
    {f18 : Addr} {od18 an18 : Option Addr} {sl18 : Array (Option Value)} {oc18 kV18 dc18 pm18 cd18 ct18 : Value}
    {f19 : Addr} {od19 an19 : Option Addr} {sl19 : Array (Option Value)} {oc19 kV19 dc19 pm19 cd19 ct19 : Value}
    {f20 : Addr} {od20 an20 : Option Addr} {sl20 : Array (Option Value)} {oc20 kV20 dc20 pm20 cd20 ct20 : Value}
    {f21 : Addr} {od21 an21 : Option Addr} {sl21 : Array (Option Value)} {oc21 kV21 dc21 pm21 cd21 ct21 : Value}
    {f22 : Addr} {od22 an22 : Option Addr} {sl22 : Array (Option Value)} {oc22 kV22 dc22 pm22 cd22 ct22 : Value}
    {f23 : Addr} {od23 an23 : Option Addr} {sl23 : Array (Option Value)} {oc23 kV23 dc23 pm23 cd23 ct23 : Value}
    {f24 : Addr} {od24 an24 : Option Addr} {sl24 : Array (Option Value)} {oc24 kV24 dc24 pm24 cd24 ct24 : Value}
    {f25 : Addr} {od25 an25 : Option Addr} {sl25 : Array (Option Value)} {oc25 kV25 dc25 pm25 cd25 ct25 : Value}
    {f26 : Addr} {od26 an26 : Option Addr} {sl26 : Array (Option Value)} {oc26 kV26 dc26 pm26 cd26 ct26 : Value}
    {f27 : Addr} {od27 an27 : Option Addr} {sl27 : Array (Option Value)} {oc27 kV27 dc27 pm27 cd27 ct27 : Value}
    {f28 : Addr} {od28 an28 : Option Addr} {sl28 : Array (Option Value)} {oc28 kV28 dc28 pm28 cd28 ct28 : Value}
    {f29 : Addr} {od29 an29 : Option Addr} {sl29 : Array (Option Value)} {oc29 kV29 dc29 pm29 cd29 ct29 : Value}
    {f30 : Addr} {od30 an30 : Option Addr} {sl30 : Array (Option Value)} {oc30 kV30 dc30 pm30 cd30 ct30 : Value}
    {f31 : Addr} {od31 an31 : Option Addr} {sl31 : Array (Option Value)} {oc31 kV31 dc31 pm31 cd31 ct31 : Value}
    {f32 : Addr} {od32 an32 : Option Addr} {sl32 : Array (Option Value)} {oc32 kV32 dc32 pm32 cd32 ct32 : Value}
    {f33 : Addr} {od33 an33 : Option Addr} {sl33 : Array (Option Value)} {oc33 kV33 dc33 pm33 cd33 ct33 : Value}
    {f34 : Addr} {od34 an34 : Option Addr} {sl34 : Array (Option Value)} {oc34 kV34 dc34 pm34 cd34 ct34 : Value}
    {f35 : Addr} {od35 an35 : Option Addr} {sl35 : Array (Option Value)} {oc35 kV35 dc35 pm35 cd35 ct35 : Value}
    {f36 : Addr} {od36 an36 : Option Addr} {sl36 : Array (Option Value)} {oc36 kV36 dc36 pm36 cd36 ct36 : Value}
    {f37 : Addr} {od37 an37 : Option Addr} {sl37 : Array (Option Value)} {oc37 kV37 dc37 pm37 cd37 ct37 : Value}
    {f38 : Addr} {od38 an38 : Option Addr} {sl38 : Array (Option Value)} {oc38 kV38 dc38 pm38 cd38 ct38 : Value}
    {f39 : Addr} {od39 an39 : Option Addr} {sl39 : Array (Option Value)} {oc39 kV39 dc39 pm39 cd39 ct39 : Value}
    {f40 : Addr} {od40 an40 : Option Addr} {sl40 : Array (Option Value)} {oc40 kV40 dc40 pm40 cd40 ct40 : Value}
    {f41 : Addr} {od41 an41 : Option Addr} {sl41 : Array (Option Value)} {oc41 kV41 dc41 pm41 cd41 ct41 : Value}
    {f42 : Addr} {od42 an42 : Option Addr} {sl42 : Array (Option Value)} {oc42 kV42 dc42 pm42 cd42 ct42 : Value}
    {f43 : Addr} {od43 an43 : Option Addr} {sl43 : Array (Option Value)} {oc43 kV43 dc43 pm43 cd43 ct43 : Value}
    {f44 : Addr} {od44 an44 : Option Addr} {sl44 : Array (Option Value)} {oc44 kV44 dc44 pm44 cd44 ct44 : Value}
    {f45 : Addr} {od45 an45 : Option Addr} {sl45 : Array (Option Value)} {oc45 kV45 dc45 pm45 cd45 ct45 : Value}
    {f46 : Addr} {od46 an46 : Option Addr} {sl46 : Array (Option Value)} {oc46 kV46 dc46 pm46 cd46 ct46 : Value}
    {f47 : Addr} {od47 an47 : Option Addr} {sl47 : Array (Option Value)} {oc47 kV47 dc47 pm47 cd47 ct47 : Value}
    {f48 : Addr} {od48 an48 : Option Addr} {sl48 : Array (Option Value)} {oc48 kV48 dc48 pm48 cd48 ct48 : Value}
    {f49 : Addr} {od49 an49 : Option Addr} {sl49 : Array (Option Value)} {oc49 kV49 dc49 pm49 cd49 ct49 : Value}
    {f50 : Addr} {od50 an50 : Option Addr} {sl50 : Array (Option Value)} {oc50 kV50 dc50 pm50 cd50 ct50 : Value}
    {f51 : Addr} {od51 an51 : Option Addr} {sl51 : Array (Option Value)} {oc51 kV51 dc51 pm51 cd51 ct51 : Value}
    {f52 : Addr} {od52 an52 : Option Addr} {sl52 : Array (Option Value)} {oc52 kV52 dc52 pm52 cd52 ct52 : Value}
    {f53 : Addr} {od53 an53 : Option Addr} {sl53 : Array (Option Value)} {oc53 kV53 dc53 pm53 cd53 ct53 : Value}
    {t0 : Tok}
    {t1 : Tok}
    {t2 : Tok}
    {t3 : Tok}
    {tj0 : Addr} {odj0 : Option Addr} {nj0 : Nat} {slj0 : Array (Option Value)} {u0_0 u0_1 u0_2 : Tok}
    (a0 : PySem.W.nsIn K mainGlobals "number_of_cases" = some (some (.ref f0))) (l0 : K.lookup f0 = some ⟨oc0, od0, .func (PySem.W.fnOf "number_of_cases" "number_of_cases" (defArgs s_number_of_cases) (defBody s_number_of_cases) (defScope s_number_of_cases) .none kV0 dc0 pm0 an0 cd0 ct0), sl0⟩)
    (c0 : PySem.W.codeIn K cd0 "number_of_cases" = true) (k0 : PySem.W.keepIn K (.ref f0) = true)
    (a1 : PySem.W.nsIn K mainGlobals "is_small_sheet" = some (some (.ref f1))) (l1 : K.lookup f1 = some ⟨oc1, od1, .func (PySem.W.fnOf "is_small_sheet" "is_small_sheet" (defArgs s_is_small_sheet) (defBody s_is_small_sheet) (defScope s_is_small_sheet) .none kV1 dc1 pm1 an1 cd1 ct1), sl1⟩)
    (c1 : PySem.W.codeIn K cd1 "is_small_sheet" = true) (k1 : PySem.W.keepIn K (.ref f1) = true)
    (a2 : PySem.W.nsIn K mainGlobals "check_small" = some (some (.ref f2))) (l2 : K.lookup f2 = some ⟨oc2, od2, .func (PySem.W.fnOf "check_small" "check_small" (defArgs s_check_small) (defBody s_check_small) (defScope s_check_small) .none kV2 dc2 pm2 an2 cd2 ct2), sl2⟩)
    (c2 : PySem.W.codeIn K cd2 "check_small" = true) (k2 : PySem.W.keepIn K (.ref f2) = true)
    (a3 : PySem.W.nsIn K mainGlobals "list_completing" = some (some (.ref f3))) (l3 : K.lookup f3 = some ⟨oc3, od3, .func (PySem.W.fnOf "list_completing" "list_completing" (defArgs s_list_completing) (defBody s_list_completing) (defScope s_list_completing) .none kV3 dc3 pm3 an3 cd3 ct3), sl3⟩)
    (c3 : PySem.W.codeIn K cd3 "list_completing" = true) (k3 : PySem.W.keepIn K (.ref f3) = true)
    (a4 : PySem.W.nsIn K mainGlobals "_join_answers" = some (some (.ref f4))) (l4 : K.lookup f4 = some ⟨oc4, od4, .func (PySem.W.fnOf "_join_answers" "_join_answers" (defArgs s_p_join_answers) (defBody s_p_join_answers) (defScope s_p_join_answers) .none kV4 dc4 pm4 an4 cd4 ct4), sl4⟩)
    (c4 : PySem.W.codeIn K cd4 "_join_answers" = true) (k4 : PySem.W.keepIn K (.ref f4) = true)
    (a5 : PySem.W.nsIn K mainGlobals "place_of_case" = some (some (.ref f5))) (l5 : K.lookup f5 = some ⟨oc5, od5, .func (PySem.W.fnOf "place_of_case" "place_of_case" (defArgs s_place_of_case) (defBody s_place_of_case) (defScope s_place_of_case) .none kV5 dc5 pm5 an5 cd5 ct5), sl5⟩)
    (c5 : PySem.W.codeIn K cd5 "place_of_case" = true) (k5 : PySem.W.keepIn K (.ref f5) = true)
    (a6 : PySem.W.nsIn K mainGlobals "sum_of_weights" = some (some (.ref f6))) (l6 : K.lookup f6 = some ⟨oc6, od6, .func (PySem.W.fnOf "sum_of_weights" "sum_of_weights" (defArgs s_sum_of_weights) (defBody s_sum_of_weights) (defScope s_sum_of_weights) .none kV6 dc6 pm6 an6 cd6 ct6), sl6⟩)
    (c6 : PySem.W.codeIn K cd6 "sum_of_weights" = true) (k6 : PySem.W.keepIn K (.ref f6) = true)
    (a7 : PySem.W.nsIn K mainGlobals "fits" = some (some (.ref f7))) (l7 : K.lookup f7 = some ⟨oc7, od7, .func (PySem.W.fnOf "fits" "fits" (defArgs s_fits) (defBody s_fits) (defScope s_fits) .none kV7 dc7 pm7 an7 cd7 ct7), sl7⟩)
    (c7 : PySem.W.codeIn K cd7 "fits" = true) (k7 : PySem.W.keepIn K (.ref f7) = true)
    (a8 : PySem.W.nsIn K mainGlobals "_first_result" = some (some (.ref f8))) (l8 : K.lookup f8 = some ⟨oc8, od8, .func (PySem.W.fnOf "_first_result" "_first_result" (defArgs s_p_first_result) (defBody s_p_first_result) (defScope s_p_first_result) .none kV8 dc8 pm8 an8 cd8 ct8), sl8⟩)
    (c8 : PySem.W.codeIn K cd8 "_first_result" = true) (k8 : PySem.W.keepIn K (.ref f8) = true)
    (a9 : PySem.W.nsIn K mainGlobals "_says_alone" = some (some (.ref f9))) (l9 : K.lookup f9 = some ⟨oc9, od9, .func (PySem.W.fnOf "_says_alone" "_says_alone" (defArgs s_p_says_alone) (defBody s_p_says_alone) (defScope s_p_says_alone) .none kV9 dc9 pm9 an9 cd9 ct9), sl9⟩)
    (c9 : PySem.W.codeIn K cd9 "_says_alone" = true) (k9 : PySem.W.keepIn K (.ref f9) = true)
    (a10 : PySem.W.nsIn K mainGlobals "says" = some (some (.ref f10))) (l10 : K.lookup f10 = some ⟨oc10, od10, .func (PySem.W.fnOf "says" "says" (defArgs s_says) (defBody s_says) (defScope s_says) .none kV10 dc10 pm10 an10 cd10 ct10), sl10⟩)
    (c10 : PySem.W.codeIn K cd10 "says" = true) (k10 : PySem.W.keepIn K (.ref f10) = true)
    (a11 : PySem.W.nsIn K mainGlobals "answers_completing" = some (some (.ref f11))) (l11 : K.lookup f11 = some ⟨oc11, od11, .func (PySem.W.fnOf "answers_completing" "answers_completing" (defArgs s_answers_completing) (defBody s_answers_completing) (defScope s_answers_completing) .none kV11 dc11 pm11 an11 cd11 ct11), sl11⟩)
    (c11 : PySem.W.codeIn K cd11 "answers_completing" = true) (k11 : PySem.W.keepIn K (.ref f11) = true)
    (a12 : PySem.W.nsIn K mainGlobals "all_answers" = some (some (.ref f12))) (l12 : K.lookup f12 = some ⟨oc12, od12, .func (PySem.W.fnOf "all_answers" "all_answers" (defArgs s_all_answers) (defBody s_all_answers) (defScope s_all_answers) .none kV12 dc12 pm12 an12 cd12 ct12), sl12⟩)
    (c12 : PySem.W.codeIn K cd12 "all_answers" = true) (k12 : PySem.W.keepIn K (.ref f12) = true)
    (a13 : PySem.W.nsIn K mainGlobals "_find_primes_from" = some (some (.ref f13))) (l13 : K.lookup f13 = some ⟨oc13, od13, .func (PySem.W.fnOf "_find_primes_from" "_find_primes_from" (defArgs s_p_find_primes_from) (defBody s_p_find_primes_from) (defScope s_p_find_primes_from) .none kV13 dc13 pm13 an13 cd13 ct13), sl13⟩)
    (c13 : PySem.W.codeIn K cd13 "_find_primes_from" = true) (k13 : PySem.W.keepIn K (.ref f13) = true)
    (a14 : PySem.W.nsIn K mainGlobals "primes_of_answers" = some (some (.ref f14))) (l14 : K.lookup f14 = some ⟨oc14, od14, .func (PySem.W.fnOf "primes_of_answers" "primes_of_answers" (defArgs s_primes_of_answers) (defBody s_primes_of_answers) (defScope s_primes_of_answers) .none kV14 dc14 pm14 an14 cd14 ct14), sl14⟩)
    (c14 : PySem.W.codeIn K cd14 "primes_of_answers" = true) (k14 : PySem.W.keepIn K (.ref f14) = true)
    (a15 : PySem.W.nsIn K mainGlobals "find_prime_rules" = some (some (.ref f15))) (l15 : K.lookup f15 = some ⟨oc15, od15, .func (PySem.W.fnOf "find_prime_rules" "find_prime_rules" (defArgs s_find_prime_rules) (defBody s_find_prime_rules) (defScope s_find_prime_rules) .none kV15 dc15 pm15 an15 cd15 ct15), sl15⟩)
    (c15 : PySem.W.codeIn K cd15 "find_prime_rules" = true) (k15 : PySem.W.keepIn K (.ref f15) = true)
    (a16 : PySem.W.nsIn K mainGlobals "is_integer" = some (some (.ref f16))) (l16 : K.lookup f16 = some ⟨oc16, od16, .func (PySem.W.fnOf "is_integer" "is_integer" (defArgs s_is_integer) (defBody s_is_integer) (defScope s_is_integer) .none kV16 dc16 pm16 an16 cd16 ct16), sl16⟩)
    (c16 : PySem.W.codeIn K cd16 "is_integer" = true) (k16 : PySem.W.keepIn K (.ref f16) = true)
    (a17 : PySem.W.nsIn K mainGlobals "is_sizes" = some (some (.ref f17))) (l17 : K.lookup f17 = some ⟨oc17, od17, .func (PySem.W.fnOf "is_sizes" "is_sizes" (defArgs s_is_sizes) (defBody s_is_sizes) (defScope s_is_sizes) .none kV17 dc17 pm17 an17 cd17 ct17), sl17⟩)
    (c17 : PySem.W.codeIn K cd17 "is_sizes" = true) (k17 : PySem.W.keepIn K (.ref f17) = true)
    (a18 : PySem.W.nsIn K mainGlobals "check_sizes" = some (some (.ref f18))) (l18 : K.lookup f18 = some ⟨oc18, od18, .func (PySem.W.fnOf "check_sizes" "check_sizes" (defArgs s_check_sizes) (defBody s_check_sizes) (defScope s_check_sizes) .none kV18 dc18 pm18 an18 cd18 ct18), sl18⟩)
    (c18 : PySem.W.codeIn K cd18 "check_sizes" = true) (k18 : PySem.W.keepIn K (.ref f18) = true)
    (a19 : PySem.W.nsIn K mainGlobals "inner_forms" = some (some (.ref f19))) (l19 : K.lookup f19 = some ⟨oc19, od19, .func (PySem.W.fnOf "inner_forms" "inner_forms" (defArgs s_inner_forms) (defBody s_inner_forms) (defScope s_inner_forms) .none kV19 dc19 pm19 an19 cd19 ct19), sl19⟩)
    (c19 : PySem.W.codeIn K cd19 "inner_forms" = true) (k19 : PySem.W.keepIn K (.ref f19) = true)
    (a20 : PySem.W.nsIn K mainGlobals "_is_tuple_of" = some (some (.ref f20))) (l20 : K.lookup f20 = some ⟨oc20, od20, .func (PySem.W.fnOf "_is_tuple_of" "_is_tuple_of" (defArgs s_p_is_tuple_of) (defBody s_p_is_tuple_of) (defScope s_p_is_tuple_of) .none kV20 dc20 pm20 an20 cd20 ct20), sl20⟩)
    (c20 : PySem.W.codeIn K cd20 "_is_tuple_of" = true) (k20 : PySem.W.keepIn K (.ref f20) = true)
    (a21 : PySem.W.nsIn K mainGlobals "_is_results" = some (some (.ref f21))) (l21 : K.lookup f21 = some ⟨oc21, od21, .func (PySem.W.fnOf "_is_results" "_is_results" (defArgs s_p_is_results) (defBody s_p_is_results) (defScope s_p_is_results) .none kV21 dc21 pm21 an21 cd21 ct21), sl21⟩)
    (c21 : PySem.W.codeIn K cd21 "_is_results" = true) (k21 : PySem.W.keepIn K (.ref f21) = true)
    (a22 : PySem.W.nsIn K mainGlobals "_is_short_form_outside" = some (some (.ref f22))) (l22 : K.lookup f22 = some ⟨oc22, od22, .func (PySem.W.fnOf "_is_short_form_outside" "_is_short_form_outside" (defArgs s_p_is_short_form_outside) (defBody s_p_is_short_form_outside) (defScope s_p_is_short_form_outside) .none kV22 dc22 pm22 an22 cd22 ct22), sl22⟩)
    (c22 : PySem.W.codeIn K cd22 "_is_short_form_outside" = true) (k22 : PySem.W.keepIn K (.ref f22) = true)
    (a23 : PySem.W.nsIn K mainGlobals "is_integer_below" = some (some (.ref f23))) (l23 : K.lookup f23 = some ⟨oc23, od23, .func (PySem.W.fnOf "is_integer_below" "is_integer_below" (defArgs s_is_integer_below) (defBody s_is_integer_below) (defScope s_is_integer_below) .none kV23 dc23 pm23 an23 cd23 ct23), sl23⟩)
    (c23 : PySem.W.codeIn K cd23 "is_integer_below" = true) (k23 : PySem.W.keepIn K (.ref f23) = true)
    (a24 : PySem.W.nsIn K mainGlobals "are_ascending_below" = some (some (.ref f24))) (l24 : K.lookup f24 = some ⟨oc24, od24, .func (PySem.W.fnOf "are_ascending_below" "are_ascending_below" (defArgs s_are_ascending_below) (defBody s_are_ascending_below) (defScope s_are_ascending_below) .none kV24 dc24 pm24 an24 cd24 ct24), sl24⟩)
    (c24 : PySem.W.codeIn K cd24 "are_ascending_below" = true) (k24 : PySem.W.keepIn K (.ref f24) = true)
    (a25 : PySem.W.nsIn K mainGlobals "_is_test" = some (some (.ref f25))) (l25 : K.lookup f25 = some ⟨oc25, od25, .func (PySem.W.fnOf "_is_test" "_is_test" (defArgs s_p_is_test) (defBody s_p_is_test) (defScope s_p_is_test) .none kV25 dc25 pm25 an25 cd25 ct25), sl25⟩)
    (c25 : PySem.W.codeIn K cd25 "_is_test" = true) (k25 : PySem.W.keepIn K (.ref f25) = true)
    (a26 : PySem.W.nsIn K mainGlobals "_is_condition" = some (some (.ref f26))) (l26 : K.lookup f26 = some ⟨oc26, od26, .func (PySem.W.fnOf "_is_condition" "_is_condition" (defArgs s_p_is_condition) (defBody s_p_is_condition) (defScope s_p_is_condition) .none kV26 dc26 pm26 an26 cd26 ct26), sl26⟩)
    (c26 : PySem.W.codeIn K cd26 "_is_condition" = true) (k26 : PySem.W.keepIn K (.ref f26) = true)
    (a27 : PySem.W.nsIn K mainGlobals "is_conditions" = some (some (.ref f27))) (l27 : K.lookup f27 = some ⟨oc27, od27, .func (PySem.W.fnOf "is_conditions" "is_conditions" (defArgs s_is_conditions) (defBody s_is_conditions) (defScope s_is_conditions) .none kV27 dc27 pm27 an27 cd27 ct27), sl27⟩)
    (c27 : PySem.W.codeIn K cd27 "is_conditions" = true) (k27 : PySem.W.keepIn K (.ref f27) = true)
    (a28 : PySem.W.nsIn K mainGlobals "_is_rule" = some (some (.ref f28))) (l28 : K.lookup f28 = some ⟨oc28, od28, .func (PySem.W.fnOf "_is_rule" "_is_rule" (defArgs s_p_is_rule) (defBody s_p_is_rule) (defScope s_p_is_rule) .none kV28 dc28 pm28 an28 cd28 ct28), sl28⟩)
    (c28 : PySem.W.codeIn K cd28 "_is_rule" = true) (k28 : PySem.W.keepIn K (.ref f28) = true)
    (a29 : PySem.W.nsIn K mainGlobals "_is_rules" = some (some (.ref f29))) (l29 : K.lookup f29 = some ⟨oc29, od29, .func (PySem.W.fnOf "_is_rules" "_is_rules" (defArgs s_p_is_rules) (defBody s_p_is_rules) (defScope s_p_is_rules) .none kV29 dc29 pm29 an29 cd29 ct29), sl29⟩)
    (c29 : PySem.W.codeIn K cd29 "_is_rules" = true) (k29 : PySem.W.keepIn K (.ref f29) = true)
    (a30 : PySem.W.nsIn K mainGlobals "_are_integers" = some (some (.ref f30))) (l30 : K.lookup f30 = some ⟨oc30, od30, .func (PySem.W.fnOf "_are_integers" "_are_integers" (defArgs s_p_are_integers) (defBody s_p_are_integers) (defScope s_p_are_integers) .none kV30 dc30 pm30 an30 cd30 ct30), sl30⟩)
    (c30 : PySem.W.codeIn K cd30 "_are_integers" = true) (k30 : PySem.W.keepIn K (.ref f30) = true)
    (a31 : PySem.W.nsIn K mainGlobals "_is_weights" = some (some (.ref f31))) (l31 : K.lookup f31 = some ⟨oc31, od31, .func (PySem.W.fnOf "_is_weights" "_is_weights" (defArgs s_p_is_weights) (defBody s_p_is_weights) (defScope s_p_is_weights) .none kV31 dc31 pm31 an31 cd31 ct31), sl31⟩)
    (c31 : PySem.W.codeIn K cd31 "_is_weights" = true) (k31 : PySem.W.keepIn K (.ref f31) = true)
    (a32 : PySem.W.nsIn K mainGlobals "_is_long_form_outside" = some (some (.ref f32))) (l32 : K.lookup f32 = some ⟨oc32, od32, .func (PySem.W.fnOf "_is_long_form_outside" "_is_long_form_outside" (defArgs s_p_is_long_form_outside) (defBody s_p_is_long_form_outside) (defScope s_p_is_long_form_outside) .none kV32 dc32 pm32 an32 cd32 ct32), sl32⟩)
    (c32 : PySem.W.codeIn K cd32 "_is_long_form_outside" = true) (k32 : PySem.W.keepIn K (.ref f32) = true)
    (a33 : PySem.W.nsIn K mainGlobals "_is_form_outside" = some (some (.ref f33))) (l33 : K.lookup f33 = some ⟨oc33, od33, .func (PySem.W.fnOf "_is_form_outside" "_is_form_outside" (defArgs s_p_is_form_outside) (defBody s_p_is_form_outside) (defScope s_p_is_form_outside) .none kV33 dc33 pm33 an33 cd33 ct33), sl33⟩)
    (c33 : PySem.W.codeIn K cd33 "_is_form_outside" = true) (k33 : PySem.W.keepIn K (.ref f33) = true)
    (a34 : PySem.W.nsIn K mainGlobals "has_form_shape" = some (some (.ref f34))) (l34 : K.lookup f34 = some ⟨oc34, od34, .func (PySem.W.fnOf "has_form_shape" "has_form_shape" (defArgs s_has_form_shape) (defBody s_has_form_shape) (defScope s_has_form_shape) .none kV34 dc34 pm34 an34 cd34 ct34), sl34⟩)
    (c34 : PySem.W.codeIn K cd34 "has_form_shape" = true) (k34 : PySem.W.keepIn K (.ref f34) = true)
    (a35 : PySem.W.nsIn K mainGlobals "check_form" = some (some (.ref f35))) (l35 : K.lookup f35 = some ⟨oc35, od35, .func (PySem.W.fnOf "check_form" "check_form" (defArgs s_check_form) (defBody s_check_form) (defScope s_check_form) .none kV35 dc35 pm35 an35 cd35 ct35), sl35⟩)
    (c35 : PySem.W.codeIn K cd35 "check_form" = true) (k35 : PySem.W.keepIn K (.ref f35) = true)
    (a36 : PySem.W.nsIn K mainGlobals "check_answer" = some (some (.ref f36))) (l36 : K.lookup f36 = some ⟨oc36, od36, .func (PySem.W.fnOf "check_answer" "check_answer" (defArgs s_check_answer) (defBody s_check_answer) (defScope s_check_answer) .none kV36 dc36 pm36 an36 cd36 ct36), sl36⟩)
    (c36 : PySem.W.codeIn K cd36 "check_answer" = true) (k36 : PySem.W.keepIn K (.ref f36) = true)
    (a37 : PySem.W.nsIn K mainGlobals "_check_form_and_answer" = some (some (.ref f37))) (l37 : K.lookup f37 = some ⟨oc37, od37, .func (PySem.W.fnOf "_check_form_and_answer" "_check_form_and_answer" (defArgs s_p_check_form_and_answer) (defBody s_p_check_form_and_answer) (defScope s_p_check_form_and_answer) .none kV37 dc37 pm37 an37 cd37 ct37), sl37⟩)
    (c37 : PySem.W.codeIn K cd37 "_check_form_and_answer" = true) (k37 : PySem.W.keepIn K (.ref f37) = true)
    (a38 : PySem.W.nsIn K mainGlobals "prime_rules" = some (some (.ref f38))) (l38 : K.lookup f38 = some ⟨oc38, od38, .func (PySem.W.fnOf "prime_rules" "prime_rules" (defArgs s_prime_rules) (defBody s_prime_rules) (defScope s_prime_rules) .none kV38 dc38 pm38 an38 cd38 ct38), sl38⟩)
    (c38 : PySem.W.codeIn K cd38 "prime_rules" = true) (k38 : PySem.W.keepIn K (.ref f38) = true)
    (a39 : PySem.W.nsIn K mainGlobals "_law_cell" = some (some (.ref f39))) (l39 : K.lookup f39 = some ⟨oc39, od39, .func (PySem.W.fnOf "_law_cell" "_law_cell" (defArgs s_law_cell_98eb9) (defBody s_law_cell_98eb9) (defScope s_law_cell_98eb9) .none kV39 dc39 pm39 an39 cd39 ct39), sl39⟩)
    (c39 : PySem.W.codeIn K cd39 "_law_cell" = true) (k39 : PySem.W.keepIn K (.ref f39) = true)
    (a40 : PySem.W.nsIn K mainGlobals "_law_draw" = some (some (.ref f40))) (l40 : K.lookup f40 = some ⟨oc40, od40, .func (PySem.W.fnOf "_law_draw" "_law_draw" (defArgs s_law_draw_48e0b) (defBody s_law_draw_48e0b) (defScope s_law_draw_48e0b) .none kV40 dc40 pm40 an40 cd40 ct40), sl40⟩)
    (c40 : PySem.W.codeIn K cd40 "_law_draw" = true) (k40 : PySem.W.keepIn K (.ref f40) = true)
    (a41 : PySem.W.nsIn K mainGlobals "_law_sizes" = some (some (.ref f41))) (l41 : K.lookup f41 = some ⟨oc41, od41, .func (PySem.W.fnOf "_law_sizes" "_law_sizes" (defArgs s_law_sizes_48d55) (defBody s_law_sizes_48d55) (defScope s_law_sizes_48d55) .none kV41 dc41 pm41 an41 cd41 ct41), sl41⟩)
    (c41 : PySem.W.codeIn K cd41 "_law_sizes" = true) (k41 : PySem.W.keepIn K (.ref f41) = true)
    (a42 : PySem.W.nsIn K mainGlobals "_law_values" = some (some (.ref f42))) (l42 : K.lookup f42 = some ⟨oc42, od42, .func (PySem.W.fnOf "_law_values" "_law_values" (defArgs s_law_values_1b941) (defBody s_law_values_1b941) (defScope s_law_values_1b941) .none kV42 dc42 pm42 an42 cd42 ct42), sl42⟩)
    (c42 : PySem.W.codeIn K cd42 "_law_values" = true) (k42 : PySem.W.keepIn K (.ref f42) = true)
    (a43 : PySem.W.nsIn K mainGlobals "_law_conditions" = some (some (.ref f43))) (l43 : K.lookup f43 = some ⟨oc43, od43, .func (PySem.W.fnOf "_law_conditions" "_law_conditions" (defArgs s_law_conditions_05f1f) (defBody s_law_conditions_05f1f) (defScope s_law_conditions_05f1f) .none kV43 dc43 pm43 an43 cd43 ct43), sl43⟩)
    (c43 : PySem.W.codeIn K cd43 "_law_conditions" = true) (k43 : PySem.W.keepIn K (.ref f43) = true)
    (a44 : PySem.W.nsIn K mainGlobals "_law_card" = some (some (.ref f44))) (l44 : K.lookup f44 = some ⟨oc44, od44, .func (PySem.W.fnOf "_law_card" "_law_card" (defArgs s_law_card_4ab7e) (defBody s_law_card_4ab7e) (defScope s_law_card_4ab7e) .none kV44 dc44 pm44 an44 cd44 ct44), sl44⟩)
    (c44 : PySem.W.codeIn K cd44 "_law_card" = true) (k44 : PySem.W.keepIn K (.ref f44) = true)
    (a45 : PySem.W.nsIn K mainGlobals "_law_leaf" = some (some (.ref f45))) (l45 : K.lookup f45 = some ⟨oc45, od45, .func (PySem.W.fnOf "_law_leaf" "_law_leaf" (defArgs s_law_leaf_52ac9) (defBody s_law_leaf_52ac9) (defScope s_law_leaf_52ac9) .none kV45 dc45 pm45 an45 cd45 ct45), sl45⟩)
    (c45 : PySem.W.codeIn K cd45 "_law_leaf" = true) (k45 : PySem.W.keepIn K (.ref f45) = true)
    (a46 : PySem.W.nsIn K mainGlobals "_law_part" = some (some (.ref f46))) (l46 : K.lookup f46 = some ⟨oc46, od46, .func (PySem.W.fnOf "_law_part" "_law_part" (defArgs s_law_part_518aa) (defBody s_law_part_518aa) (defScope s_law_part_518aa) .none kV46 dc46 pm46 an46 cd46 ct46), sl46⟩)
    (c46 : PySem.W.codeIn K cd46 "_law_part" = true) (k46 : PySem.W.keepIn K (.ref f46) = true)
    (a47 : PySem.W.nsIn K mainGlobals "_law_form" = some (some (.ref f47))) (l47 : K.lookup f47 = some ⟨oc47, od47, .func (PySem.W.fnOf "_law_form" "_law_form" (defArgs s_law_form_06328) (defBody s_law_form_06328) (defScope s_law_form_06328) .none kV47 dc47 pm47 an47 cd47 ct47), sl47⟩)
    (c47 : PySem.W.codeIn K cd47 "_law_form" = true) (k47 : PySem.W.keepIn K (.ref f47) = true)
    (a48 : PySem.W.nsIn K mainGlobals "_law_many" = some (some (.ref f48))) (l48 : K.lookup f48 = some ⟨oc48, od48, .func (PySem.W.fnOf "_law_many" "_law_many" (defArgs s_law_many_bf8ac) (defBody s_law_many_bf8ac) (defScope s_law_many_bf8ac) .none kV48 dc48 pm48 an48 cd48 ct48), sl48⟩)
    (c48 : PySem.W.codeIn K cd48 "_law_many" = true) (k48 : PySem.W.keepIn K (.ref f48) = true)
    (a49 : PySem.W.nsIn K mainGlobals "_law_brief" = some (some (.ref f49))) (l49 : K.lookup f49 = some ⟨oc49, od49, .func (PySem.W.fnOf "_law_brief" "_law_brief" (defArgs s_law_brief_4e244) (defBody s_law_brief_4e244) (defScope s_law_brief_4e244) .none kV49 dc49 pm49 an49 cd49 ct49), sl49⟩)
    (c49 : PySem.W.codeIn K cd49 "_law_brief" = true) (k49 : PySem.W.keepIn K (.ref f49) = true)
    (a50 : PySem.W.nsIn K mainGlobals "_law_joined" = some (some (.ref f50))) (l50 : K.lookup f50 = some ⟨oc50, od50, .func (PySem.W.fnOf "_law_joined" "_law_joined" (defArgs s_law_joined_f4720) (defBody s_law_joined_f4720) (defScope s_law_joined_f4720) .none kV50 dc50 pm50 an50 cd50 ct50), sl50⟩)
    (c50 : PySem.W.codeIn K cd50 "_law_joined" = true) (k50 : PySem.W.keepIn K (.ref f50) = true)
    (a51 : PySem.W.nsIn K mainGlobals "_law_least" = some (some (.ref f51))) (l51 : K.lookup f51 = some ⟨oc51, od51, .func (PySem.W.fnOf "_law_least" "_law_least" (defArgs s_law_least_64473) (defBody s_law_least_64473) (defScope s_law_least_64473) .none kV51 dc51 pm51 an51 cd51 ct51), sl51⟩)
    (c51 : PySem.W.codeIn K cd51 "_law_least" = true) (k51 : PySem.W.keepIn K (.ref f51) = true)
    (a52 : PySem.W.nsIn K mainGlobals "_law_joins" = some (some (.ref f52))) (l52 : K.lookup f52 = some ⟨oc52, od52, .func (PySem.W.fnOf "_law_joins" "_law_joins" (defArgs s_law_joins_cd054) (defBody s_law_joins_cd054) (defScope s_law_joins_cd054) .none kV52 dc52 pm52 an52 cd52 ct52), sl52⟩)
    (c52 : PySem.W.codeIn K cd52 "_law_joins" = true) (k52 : PySem.W.keepIn K (.ref f52) = true)
    (a53 : PySem.W.nsIn K mainGlobals "law" = some (some (.ref f53))) (l53 : K.lookup f53 = some ⟨oc53, od53, .func (PySem.W.fnOf "law" "law" (defArgs s_law_k95) (defBody s_law_k95) (defScope s_law_k95) .none kV53 dc53 pm53 an53 cd53 ct53), sl53⟩)
    (c53 : PySem.W.codeIn K cd53 "law" = true) (k53 : PySem.W.keepIn K (.ref f53) = true)
    (n0 : PySem.W.nsIn K mainGlobals "GREATEST_SIZE" = some (some (.int 6 t0)))
    (n1 : PySem.W.nsIn K mainGlobals "LEAST_SIZE" = some (some (.int 2 t1)))
    (n2 : PySem.W.nsIn K mainGlobals "MOST_CASES_OF_SMALL" = some (some (.int 1024 t2)))
    (n3 : PySem.W.nsIn K mainGlobals "MOST_FIELDS" = some (some (.int 24 t3)))
    (aj0 : PySem.W.nsIn K mainGlobals "JOINING_WORDS" = some (some (.ref tj0))) (lj0 : K.lookup tj0 = some ⟨.type "tuple", odj0, .seq #[.str "and" u0_0, .str "or" u0_1, .str "odd" u0_2] nj0, slj0⟩)
    (z0 : PySem.W.nsIn K mainGlobals "all" = some none)
    (z1 : PySem.W.nsIn K mainGlobals "any" = some none)
    (z2 : PySem.W.nsIn K mainGlobals "bool" = some none)
    (z3 : PySem.W.nsIn K mainGlobals "int" = some none)
    (z4 : PySem.W.nsIn K mainGlobals "isinstance" = some none)
    (z5 : PySem.W.nsIn K mainGlobals "len" = some none)
    (z6 : PySem.W.nsIn K mainGlobals "list" = some none)
    (z7 : PySem.W.nsIn K mainGlobals "range" = some none)
    (z8 : PySem.W.nsIn K mainGlobals "set" = some none)
    (z9 : PySem.W.nsIn K mainGlobals "sorted" = some none)
    (z10 : PySem.W.nsIn K mainGlobals "str" = some none)
    (z11 : PySem.W.nsIn K mainGlobals "sum" = some none)
    (z12 : PySem.W.nsIn K mainGlobals "tuple" = some none)
    (z13 : PySem.W.nsIn K mainGlobals "zip" = some none)
    : ∃ fd : FuncData, (∀ (s : Shared) (v : Value), BindsTo s fd ⟨[v], []⟩ [("script", v)]) ∧ ∀ base : Heap, K.In base → base.Ns mainGlobals mg → Lk.FnG l.prog w K mg base CX0 68 fa fd ["script"] (spLaw K g_law_k95) := by
  have e := hfa.symm.trans (PySem.W.mg_of X G a53)
  cases e
  have F0 := fun_mk (st := s_number_of_cases) l0 c0 k0
  have g0 := PySem.W.mg_of X G a0
  have b0 := F0.binds (ps := ["sizes"]) fun _ _ _ _ _ _ us hl => match us, hl with | [_], _ => rfl
  have F1 := fun_mk (st := s_is_small_sheet) l1 c1 k1
  have g1 := PySem.W.mg_of X G a1
  have b1 := F1.binds (ps := ["sizes"]) fun _ _ _ _ _ _ us hl => match us, hl with | [_], _ => rfl
  have F2 := fun_mk (st := s_check_small) l2 c2 k2
  have g2 := PySem.W.mg_of X G a2
  have b2 := F2.binds (ps := ["sizes"]) fun _ _ _ _ _ _ us hl => match us, hl with | [_], _ => rfl
  have F3 := fun_mk (st := s_list_completing) l3 c3 k3
  have g3 := PySem.W.mg_of X G a3
  have b3 := F3.binds (ps := ["sizes", "half"]) fun _ _ _ _ _ _ us hl => match us, hl with | [_, _], _ => rfl
  have F4 := fun_mk (st := s_p_join_answers) l4 c4 k4
  have g4 := PySem.W.mg_of X G a4
  have b4 := F4.binds (ps := ["word", "results"]) fun _ _ _ _ _ _ us hl => match us, hl with | [_, _], _ => rfl
  have F5 := fun_mk (st := s_place_of_case) l5 c5 k5
  have g5 := PySem.W.mg_of X G a5
  have b5 := F5.binds (ps := ["sizes", "case"]) fun _ _ _ _ _ _ us hl => match us, hl with | [_, _], _ => rfl
  have F6 := fun_mk (st := s_sum_of_weights) l6 c6 k6
  have g6 := PySem.W.mg_of X G a6
  have b6 := F6.binds (ps := ["weights", "case"]) fun _ _ _ _ _ _ us hl => match us, hl with | [_, _], _ => rfl
  have F7 := fun_mk (st := s_fits) l7 c7 k7
  have g7 := PySem.W.mg_of X G a7
  have b7 := F7.binds (ps := ["conditions", "case"]) fun _ _ _ _ _ _ us hl => match us, hl with | [_, _], _ => rfl
  have F8 := fun_mk (st := s_p_first_result) l8 c8 k8
  have g8 := PySem.W.mg_of X G a8
  have b8 := F8.binds (ps := ["rules", "last", "case"]) fun _ _ _ _ _ _ us hl => match us, hl with | [_, _, _], _ => rfl
  have F9 := fun_mk (st := s_p_says_alone) l9 c9 k9
  have g9 := PySem.W.mg_of X G a9
  have b9 := F9.binds (ps := ["sizes", "form", "case"]) fun _ _ _ _ _ _ us hl => match us, hl with | [_, _, _], _ => rfl
  have F10 := fun_mk (st := s_says) l10 c10 k10
  have g10 := PySem.W.mg_of X G a10
  have b10 := F10.binds (ps := ["sizes", "form", "case"]) fun _ _ _ _ _ _ us hl => match us, hl with | [_, _, _], _ => rfl
  have F11 := fun_mk (st := s_answers_completing) l11 c11 k11
  have g11 := PySem.W.mg_of X G a11
  have b11 := F11.binds (ps := ["sizes", "form", "half"]) fun _ _ _ _ _ _ us hl => match us, hl with | [_, _, _], _ => rfl
  have F12 := fun_mk (st := s_all_answers) l12 c12 k12
  have g12 := PySem.W.mg_of X G a12
  have b12 := F12.binds (ps := ["sizes", "form"]) fun _ _ _ _ _ _ us hl => match us, hl with | [_, _], _ => rfl
  have F13 := fun_mk (st := s_p_find_primes_from) l13 c13 k13
  have g13 := PySem.W.mg_of X G a13
  have b13 := F13.binds (ps := ["sizes", "field", "wanted"]) fun _ _ _ _ _ _ us hl => match us, hl with | [_, _, _], _ => rfl
  have F14 := fun_mk (st := s_primes_of_answers) l14 c14 k14
  have g14 := PySem.W.mg_of X G a14
  have b14 := F14.binds (ps := ["sizes", "results", "result"]) fun _ _ _ _ _ _ us hl => match us, hl with | [_, _, _], _ => rfl
  have F15 := fun_mk (st := s_find_prime_rules) l15 c15 k15
  have g15 := PySem.W.mg_of X G a15
  have b15 := F15.binds (ps := ["sizes", "form", "result"]) fun _ _ _ _ _ _ us hl => match us, hl with | [_, _, _], _ => rfl
  have F16 := fun_mk (st := s_is_integer) l16 c16 k16
  have g16 := PySem.W.mg_of X G a16
  have b16 := F16.binds (ps := ["value"]) fun _ _ _ _ _ _ us hl => match us, hl with | [_], _ => rfl
  have F17 := fun_mk (st := s_is_sizes) l17 c17 k17
  have g17 := PySem.W.mg_of X G a17
  have b17 := F17.binds (ps := ["value"]) fun _ _ _ _ _ _ us hl => match us, hl with | [_], _ => rfl
  have F18 := fun_mk (st := s_check_sizes) l18 c18 k18
  have g18 := PySem.W.mg_of X G a18
  have b18 := F18.binds (ps := ["sizes"]) fun _ _ _ _ _ _ us hl => match us, hl with | [_], _ => rfl
  have F19 := fun_mk (st := s_inner_forms) l19 c19 k19
  have g19 := PySem.W.mg_of X G a19
  have b19 := F19.binds (ps := ["form"]) fun _ _ _ _ _ _ us hl => match us, hl with | [_], _ => rfl
  have F20 := fun_mk (st := s_p_is_tuple_of) l20 c20 k20
  have g20 := PySem.W.mg_of X G a20
  have b20 := F20.binds (ps := ["value", "length"]) fun _ _ _ _ _ _ us hl => match us, hl with | [_, _], _ => rfl
  have F21 := fun_mk (st := s_p_is_results) l21 c21 k21
  have g21 := PySem.W.mg_of X G a21
  have b21 := F21.binds (ps := ["sizes", "value"]) fun _ _ _ _ _ _ us hl => match us, hl with | [_, _], _ => rfl
  have F22 := fun_mk (st := s_p_is_short_form_outside) l22 c22 k22
  have g22 := PySem.W.mg_of X G a22
  have b22 := F22.binds (ps := ["sizes", "word", "part"]) fun _ _ _ _ _ _ us hl => match us, hl with | [_, _, _], _ => rfl
  have F23 := fun_mk (st := s_is_integer_below) l23 c23 k23
  have g23 := PySem.W.mg_of X G a23
  have b23 := F23.binds (ps := ["value", "limit"]) fun _ _ _ _ _ _ us hl => match us, hl with | [_, _], _ => rfl
  have F24 := fun_mk (st := s_are_ascending_below) l24 c24 k24
  have g24 := PySem.W.mg_of X G a24
  have b24 := F24.binds (ps := ["values", "limit"]) fun _ _ _ _ _ _ us hl => match us, hl with | [_, _], _ => rfl
  have F25 := fun_mk (st := s_p_is_test) l25 c25 k25
  have g25 := PySem.W.mg_of X G a25
  have b25 := F25.binds (ps := ["sizes", "field", "values"]) fun _ _ _ _ _ _ us hl => match us, hl with | [_, _, _], _ => rfl
  have F26 := fun_mk (st := s_p_is_condition) l26 c26 k26
  have g26 := PySem.W.mg_of X G a26
  have b26 := F26.binds (ps := ["sizes", "value"]) fun _ _ _ _ _ _ us hl => match us, hl with | [_, _], _ => rfl
  have F27 := fun_mk (st := s_is_conditions) l27 c27 k27
  have g27 := PySem.W.mg_of X G a27
  have b27 := F27.binds (ps := ["sizes", "value"]) fun _ _ _ _ _ _ us hl => match us, hl with | [_, _], _ => rfl
  have F28 := fun_mk (st := s_p_is_rule) l28 c28 k28
  have g28 := PySem.W.mg_of X G a28
  have b28 := F28.binds (ps := ["sizes", "value"]) fun _ _ _ _ _ _ us hl => match us, hl with | [_, _], _ => rfl
  have F29 := fun_mk (st := s_p_is_rules) l29 c29 k29
  have g29 := PySem.W.mg_of X G a29
  have b29 := F29.binds (ps := ["sizes", "value"]) fun _ _ _ _ _ _ us hl => match us, hl with | [_, _], _ => rfl
  have F30 := fun_mk (st := s_p_are_integers) l30 c30 k30
  have g30 := PySem.W.mg_of X G a30
  have b30 := F30.binds (ps := ["values"]) fun _ _ _ _ _ _ us hl => match us, hl with | [_], _ => rfl
  have F31 := fun_mk (st := s_p_is_weights) l31 c31 k31
  have g31 := PySem.W.mg_of X G a31
  have b31 := F31.binds (ps := ["sizes", "value"]) fun _ _ _ _ _ _ us hl => match us, hl with | [_, _], _ => rfl
  have F32 := fun_mk (st := s_p_is_long_form_outside) l32 c32 k32
  have g32 := PySem.W.mg_of X G a32
  have b32 := F32.binds (ps := ["sizes", "word", "part", "second_part"]) fun _ _ _ _ _ _ us hl => match us, hl with | [_, _, _, _], _ => rfl
  have F33 := fun_mk (st := s_p_is_form_outside) l33 c33 k33
  have g33 := PySem.W.mg_of X G a33
  have b33 := F33.binds (ps := ["sizes", "value"]) fun _ _ _ _ _ _ us hl => match us, hl with | [_, _], _ => rfl
  have F34 := fun_mk (st := s_has_form_shape) l34 c34 k34
  have g34 := PySem.W.mg_of X G a34
  have b34 := F34.binds (ps := ["sizes", "value"]) fun _ _ _ _ _ _ us hl => match us, hl with | [_, _], _ => rfl
  have F35 := fun_mk (st := s_check_form) l35 c35 k35
  have g35 := PySem.W.mg_of X G a35
  have b35 := F35.binds (ps := ["sizes", "form"]) fun _ _ _ _ _ _ us hl => match us, hl with | [_, _], _ => rfl
  have F36 := fun_mk (st := s_check_answer) l36 c36 k36
  have g36 := PySem.W.mg_of X G a36
  have b36 := F36.binds (ps := ["result"]) fun _ _ _ _ _ _ us hl => match us, hl with | [_], _ => rfl
  have F37 := fun_mk (st := s_p_check_form_and_answer) l37 c37 k37
  have g37 := PySem.W.mg_of X G a37
  have b37 := F37.binds (ps := ["sizes", "form", "result"]) fun _ _ _ _ _ _ us hl => match us, hl with | [_, _, _], _ => rfl
  have F38 := fun_mk (st := s_prime_rules) l38 c38 k38
  have g38 := PySem.W.mg_of X G a38
  have b38 := F38.binds (ps := ["sizes", "form", "result"]) fun _ _ _ _ _ _ us hl => match us, hl with | [_, _, _], _ => rfl
  have F39 := fun_mk (st := s_law_cell_98eb9) l39 c39 k39
  have g39 := PySem.W.mg_of X G a39
  have b39 := F39.binds (ps := ["script", "k"]) fun _ _ _ _ _ _ us hl => match us, hl with | [_, _], _ => rfl
  have F40 := fun_mk (st := s_law_draw_48e0b) l40 c40 k40
  have g40 := PySem.W.mg_of X G a40
  have b40 := F40.binds (ps := ["cell", "k", "limit"]) fun _ _ _ _ _ _ us hl => match us, hl with | [_, _, _], _ => rfl
  have F41 := fun_mk (st := s_law_sizes_48d55) l41 c41 k41
  have g41 := PySem.W.mg_of X G a41
  have b41 := F41.binds (ps := ["cell", "more", "most"]) fun _ _ _ _ _ _ us hl => match us, hl with | [_, _, _], _ => rfl
  have F42 := fun_mk (st := s_law_values_1b941) l42 c42 k42
  have g42 := PySem.W.mg_of X G a42
  have b42 := F42.binds (ps := ["cell", "k", "size"]) fun _ _ _ _ _ _ us hl => match us, hl with | [_, _, _], _ => rfl
  have F43 := fun_mk (st := s_law_conditions_05f1f) l43 c43 k43
  have g43 := PySem.W.mg_of X G a43
  have b43 := F43.binds (ps := ["sizes", "cell"]) fun _ _ _ _ _ _ us hl => match us, hl with | [_, _], _ => rfl
  have F44 := fun_mk (st := s_law_card_4ab7e) l44 c44 k44
  have g44 := PySem.W.mg_of X G a44
  have b44 := F44.binds (ps := ["sizes", "cell"]) fun _ _ _ _ _ _ us hl => match us, hl with | [_, _], _ => rfl
  have F45 := fun_mk (st := s_law_leaf_52ac9) l45 c45 k45
  have g45 := PySem.W.mg_of X G a45
  have b45 := F45.binds (ps := ["sizes", "cell"]) fun _ _ _ _ _ _ us hl => match us, hl with | [_, _], _ => rfl
  have F46 := fun_mk (st := s_law_part_518aa) l46 c46 k46
  have g46 := PySem.W.mg_of X G a46
  have b46 := F46.binds (ps := ["sizes", "cell"]) fun _ _ _ _ _ _ us hl => match us, hl with | [_, _], _ => rfl
  have F47 := fun_mk (st := s_law_form_06328) l47 c47 k47
  have g47 := PySem.W.mg_of X G a47
  have b47 := F47.binds (ps := ["sizes", "cells"]) fun _ _ _ _ _ _ us hl => match us, hl with | [_, _], _ => rfl
  have F48 := fun_mk (st := s_law_many_bf8ac) l48 c48 k48
  have g48 := PySem.W.mg_of X G a48
  have b48 := F48.binds (ps := ["form"]) fun _ _ _ _ _ _ us hl => match us, hl with | [_], _ => rfl
  have F49 := fun_mk (st := s_law_brief_4e244) l49 c49 k49
  have g49 := PySem.W.mg_of X G a49
  have b49 := F49.binds (ps := ["sizes", "cells"]) fun _ _ _ _ _ _ us hl => match us, hl with | [_, _], _ => rfl
  have F50 := fun_mk (st := s_law_joined_f4720) l50 c50 k50
  have g50 := PySem.W.mg_of X G a50
  have b50 := F50.binds (ps := ["one", "other"]) fun _ _ _ _ _ _ us hl => match us, hl with | [_, _], _ => rfl
  have F51 := fun_mk (st := s_law_least_64473) l51 c51 k51
  have g51 := PySem.W.mg_of X G a51
  have b51 := F51.binds (ps := ["rows"]) fun _ _ _ _ _ _ us hl => match us, hl with | [_], _ => rfl
  have F52 := fun_mk (st := s_law_joins_cd054) l52 c52 k52
  have g52 := PySem.W.mg_of X G a52
  have b52 := F52.binds (ps := ["ours", "theirs"]) fun _ _ _ _ _ _ us hl => match us, hl with | [_, _], _ => rfl
  have F53 := fun_mk (st := s_law_k95) l53 c53 k53
  have g53 := PySem.W.mg_of X G a53
  have m_GREATEST_SIZE : ∃ t, mg "GREATEST_SIZE" = some (.int 6 t) := ⟨_, PySem.W.mg_of X G n0⟩
  have m_LEAST_SIZE : ∃ t, mg "LEAST_SIZE" = some (.int 2 t) := ⟨_, PySem.W.mg_of X G n1⟩
  have m_MOST_CASES_OF_SMALL : ∃ t, mg "MOST_CASES_OF_SMALL" = some (.int 1024 t) := ⟨_, PySem.W.mg_of X G n2⟩
  have m_MOST_FIELDS : ∃ t, mg "MOST_FIELDS" = some (.int 24 t) := ⟨_, PySem.W.mg_of X G n3⟩
  have m_JOINING_WORDS : CTup K mg "JOINING_WORDS" c_JOINING_WORDS := ⟨tj0, PySem.W.mg_of X G aj0, fun H => Dq.tup (xs := [.str "and", .str "or", .str "odd"]) (.inr ⟨_, _, _, lj0, rfl, rfl, by show 3 ≤ sizeLine; decide, .cons ⟨_, rfl⟩ (.cons ⟨_, rfl⟩ (.cons ⟨_, rfl⟩ (.nil)))⟩) (.cons (.str _) (.cons (.str _) (.cons (.str _) (.nil))))⟩
  have y_all := PySem.W.mg_none_of X G z0
  have y_any := PySem.W.mg_none_of X G z1
  have y_bool := PySem.W.mg_none_of X G z2
  have y_int := PySem.W.mg_none_of X G z3
  have y_isinstance := PySem.W.mg_none_of X G z4
  have y_len := PySem.W.mg_none_of X G z5
  have y_list := PySem.W.mg_none_of X G z6
  have y_range := PySem.W.mg_none_of X G z7
  have y_set := PySem.W.mg_none_of X G z8
  have y_sorted := PySem.W.mg_none_of X G z9
  have y_str := PySem.W.mg_none_of X G z10
  have y_sum := PySem.W.mg_none_of X G z11
  have y_tuple := PySem.W.mg_none_of X G z12
  have y_zip := PySem.W.mg_none_of X G z13
  refine ⟨PySem.W.fnOf "law" "law" (defArgs s_law_k95) (defBody s_law_k95) (defScope s_law_k95) .none kV53 dc53 pm53 an53 cd53 ct53, fun s v => .of_eq rfl, fun base _ _ => ?_⟩
  have H_number_of_cases : Has l.prog w K mg base 1 "number_of_cases" ["sizes"] (spD K g_number_of_cases) := t_number_of_cases (k := 0) F0 b0 g0 
  have H_is_small_sheet : Has l.prog w K mg base 2 "is_small_sheet" ["sizes"] (spD K g_is_small_sheet) := t_is_small_sheet (k := 1) F1 b1 g1 m_MOST_CASES_OF_SMALL (H_number_of_cases.mono (by decide))
  have H_check_small : Has l.prog w K mg base 3 "check_small" ["sizes"] (spD K g_check_small) := t_check_small (k := 2) F2 b2 g2 (H_is_small_sheet.mono (by decide))
  have H_list_completing : Has l.prog w K mg base 1 "list_completing" ["sizes", "half"] (spD K g_list_completing) := t_list_completing (k := 0) F3 b3 g3 y_len y_list y_range
  have H_p_join_answers : Has l.prog w K mg base 1 "_join_answers" ["word", "results"] (spD K g_p_join_answers) := t_p_join_answers (k := 0) F4 b4 g4 
  have H_place_of_case : Has l.prog w K mg base 1 "place_of_case" ["sizes", "case"] (spD K g_place_of_case) := t_place_of_case (k := 0) F5 b5 g5 y_len y_range
  have H_sum_of_weights : Has l.prog w K mg base 1 "sum_of_weights" ["weights", "case"] (spD K g_sum_of_weights) := t_sum_of_weights (k := 0) F6 b6 g6 y_len y_range y_sum
  have H_fits : Has l.prog w K mg base 1 "fits" ["conditions", "case"] (spD K g_fits) := t_fits (k := 0) F7 b7 g7 y_all
  have H_p_first_result : Has l.prog w K mg base 2 "_first_result" ["rules", "last", "case"] (spD K g_p_first_result) := t_p_first_result (k := 1) F8 b8 g8 (H_fits.mono (by decide))
  have H_p_says_alone : Has l.prog w K mg base 3 "_says_alone" ["sizes", "form", "case"] (spD K g_p_says_alone) := t_p_says_alone (k := 2) F9 b9 g9 (H_place_of_case.mono (by decide)) (H_sum_of_weights.mono (by decide)) (H_p_first_result.mono (by decide))
  have H_says : Has l.prog w K mg base 63 "says" ["sizes", "form", "case"] (spD K (g_says FU)) := t_says (k := 3) F10 b10 g10 m_JOINING_WORDS (H_p_join_answers.mono (by decide)) (H_p_says_alone.mono (by decide)) FU
  have H_answers_completing : Has l.prog w K mg base 64 "answers_completing" ["sizes", "form", "half"] (spD K g_answers_completing) := t_answers_completing (k := 63) F11 b11 g11 (H_list_completing.mono (by decide)) (H_says.mono (by decide))
  have H_all_answers : Has l.prog w K mg base 65 "all_answers" ["sizes", "form"] (spD K g_all_answers) := t_all_answers (k := 64) F12 b12 g12 y_len (H_answers_completing.mono (by decide))
  have H_p_find_primes_from : Has l.prog w K mg base 60 "_find_primes_from" ["sizes", "field", "wanted"] (spD K (g_p_find_primes_from FU)) := t_p_find_primes_from (k := 0) F13 b13 g13 y_len y_range y_zip FU
  have H_primes_of_answers : Has l.prog w K mg base 61 "primes_of_answers" ["sizes", "results", "result"] (spD K g_primes_of_answers) := t_primes_of_answers (k := 60) F14 b14 g14 y_len y_sorted (H_p_find_primes_from.mono (by decide))
  have H_find_prime_rules : Has l.prog w K mg base 66 "find_prime_rules" ["sizes", "form", "result"] (spD K g_find_prime_rules) := t_find_prime_rules (k := 65) F15 b15 g15 (H_all_answers.mono (by decide)) (H_primes_of_answers.mono (by decide))
  have H_is_integer : Has l.prog w K mg base 1 "is_integer" ["value"] (spD K g_is_integer) := t_is_integer (k := 0) F16 b16 g16 y_bool y_int y_isinstance
  have H_is_sizes : Has l.prog w K mg base 2 "is_sizes" ["value"] (spD K g_is_sizes) := t_is_sizes (k := 1) F17 b17 g17 y_all m_GREATEST_SIZE m_LEAST_SIZE m_MOST_FIELDS y_isinstance y_len y_list (H_is_integer.mono (by decide))
  have H_check_sizes : Has l.prog w K mg base 3 "check_sizes" ["sizes"] (spD K g_check_sizes) := t_check_sizes (k := 2) F18 b18 g18 (H_is_sizes.mono (by decide))
  have H_inner_forms : Has l.prog w K mg base 1 "inner_forms" ["form"] (spD K g_inner_forms) := t_inner_forms (k := 0) F19 b19 g19 m_JOINING_WORDS
  have H_p_is_tuple_of : Has l.prog w K mg base 1 "_is_tuple_of" ["value", "length"] (spD K g_p_is_tuple_of) := t_p_is_tuple_of (k := 0) F20 b20 g20 y_isinstance y_len y_tuple
  have H_p_is_results : Has l.prog w K mg base 3 "_is_results" ["sizes", "value"] (spD K g_p_is_results) := t_p_is_results (k := 2) F21 b21 g21 y_all y_bool y_isinstance (H_number_of_cases.mono (by decide)) (H_is_small_sheet.mono (by decide)) (H_p_is_tuple_of.mono (by decide))
  have H_p_is_short_form_outside : Has l.prog w K mg base 4 "_is_short_form_outside" ["sizes", "word", "part"] (spD K g_p_is_short_form_outside) := t_p_is_short_form_outside (k := 3) F22 b22 g22 y_bool m_JOINING_WORDS y_isinstance y_tuple (H_p_is_results.mono (by decide))
  have H_is_integer_below : Has l.prog w K mg base 2 "is_integer_below" ["value", "limit"] (spD K g_is_integer_below) := t_is_integer_below (k := 1) F23 b23 g23 (H_is_integer.mono (by decide))
  have H_are_ascending_below : Has l.prog w K mg base 3 "are_ascending_below" ["values", "limit"] (spD K g_are_ascending_below) := t_are_ascending_below (k := 2) F24 b24 g24 (H_is_integer_below.mono (by decide))
  have H_p_is_test : Has l.prog w K mg base 4 "_is_test" ["sizes", "field", "values"] (spD K g_p_is_test) := t_p_is_test (k := 3) F25 b25 g25 y_isinstance y_len y_tuple (H_is_integer_below.mono (by decide)) (H_are_ascending_below.mono (by decide))
  have H_p_is_condition : Has l.prog w K mg base 5 "_is_condition" ["sizes", "value"] (spD K g_p_is_condition) := t_p_is_condition (k := 4) F26 b26 g26 (H_p_is_tuple_of.mono (by decide)) (H_p_is_test.mono (by decide))
  have H_is_conditions : Has l.prog w K mg base 6 "is_conditions" ["sizes", "value"] (spD K g_is_conditions) := t_is_conditions (k := 5) F27 b27 g27 y_all y_isinstance y_len y_tuple (H_are_ascending_below.mono (by decide)) (H_p_is_condition.mono (by decide))
  have H_p_is_rule : Has l.prog w K mg base 7 "_is_rule" ["sizes", "value"] (spD K g_p_is_rule) := t_p_is_rule (k := 6) F28 b28 g28 y_bool y_isinstance (H_is_conditions.mono (by decide)) (H_p_is_tuple_of.mono (by decide))
  have H_p_is_rules : Has l.prog w K mg base 8 "_is_rules" ["sizes", "value"] (spD K g_p_is_rules) := t_p_is_rules (k := 7) F29 b29 g29 y_all y_isinstance y_tuple (H_p_is_rule.mono (by decide))
  have H_p_are_integers : Has l.prog w K mg base 2 "_are_integers" ["values"] (spD K g_p_are_integers) := t_p_are_integers (k := 1) F30 b30 g30 y_all (H_is_integer.mono (by decide))
  have H_p_is_weights : Has l.prog w K mg base 3 "_is_weights" ["sizes", "value"] (spD K g_p_is_weights) := t_p_is_weights (k := 2) F31 b31 g31 y_all y_len y_range (H_p_is_tuple_of.mono (by decide)) (H_p_are_integers.mono (by decide))
  have H_p_is_long_form_outside : Has l.prog w K mg base 9 "_is_long_form_outside" ["sizes", "word", "part", "second_part"] (spD K g_p_is_long_form_outside) := t_p_is_long_form_outside (k := 8) F32 b32 g32 y_bool y_isinstance y_len (H_is_integer.mono (by decide)) (H_is_integer_below.mono (by decide)) (H_p_is_tuple_of.mono (by decide)) (H_p_is_test.mono (by decide)) (H_p_is_rules.mono (by decide)) (H_p_is_weights.mono (by decide))
  have H_p_is_form_outside : Has l.prog w K mg base 10 "_is_form_outside" ["sizes", "value"] (spD K g_p_is_form_outside) := t_p_is_form_outside (k := 9) F33 b33 g33 y_isinstance y_len y_str y_tuple (H_p_is_short_form_outside.mono (by decide)) (H_p_is_long_form_outside.mono (by decide))
  have H_has_form_shape : Has l.prog w K mg base 11 "has_form_shape" ["sizes", "value"] (spD K g_has_form_shape) := t_has_form_shape (k := 10) F34 b34 g34 (H_inner_forms.mono (by decide)) (H_p_is_form_outside.mono (by decide))
  have H_check_form : Has l.prog w K mg base 12 "check_form" ["sizes", "form"] (spD K g_check_form) := t_check_form (k := 11) F35 b35 g35 (H_has_form_shape.mono (by decide))
  have H_check_answer : Has l.prog w K mg base 1 "check_answer" ["result"] (spD K g_check_answer) := t_check_answer (k := 0) F36 b36 g36 y_bool y_isinstance
  have H_p_check_form_and_answer : Has l.prog w K mg base 13 "_check_form_and_answer" ["sizes", "form", "result"] (spD K g_p_check_form_and_answer) := t_p_check_form_and_answer (k := 12) F37 b37 g37 (H_check_sizes.mono (by decide)) (H_check_form.mono (by decide)) (H_check_answer.mono (by decide))
  have H_prime_rules : Has l.prog w K mg base 67 "prime_rules" ["sizes", "form", "result"] (spD K g_prime_rules) := t_prime_rules (k := 66) F38 b38 g38 (H_check_small.mono (by decide)) (H_find_prime_rules.mono (by decide)) (H_p_check_form_and_answer.mono (by decide))
  have H_law_cell_98eb9 : Has l.prog w K mg base 1 "_law_cell" ["script", "k"] (spD K g_law_cell_98eb9) := t_law_cell_98eb9 (k := 0) F39 b39 g39 y_len
  have H_law_draw_48e0b : Has l.prog w K mg base 1 "_law_draw" ["cell", "k", "limit"] (spD K g_law_draw_48e0b) := t_law_draw_48e0b (k := 0) F40 b40 g40 y_int
  have H_law_sizes_48d55 : Has l.prog w K mg base 2 "_law_sizes" ["cell", "more", "most"] (spD K g_law_sizes_48d55) := t_law_sizes_48d55 (k := 1) F41 b41 g41 y_range (H_law_draw_48e0b.mono (by decide))
  have H_law_values_1b941 : Has l.prog w K mg base 2 "_law_values" ["cell", "k", "size"] (spD K g_law_values_1b941) := t_law_values_1b941 (k := 1) F42 b42 g42 y_range y_tuple (H_law_draw_48e0b.mono (by decide))
  have H_law_conditions_05f1f : Has l.prog w K mg base 3 "_law_conditions" ["sizes", "cell"] (spD K g_law_conditions_05f1f) := t_law_conditions_05f1f (k := 2) F43 b43 g43 y_len y_range y_tuple (H_law_draw_48e0b.mono (by decide)) (H_law_values_1b941.mono (by decide))
  have H_law_card_4ab7e : Has l.prog w K mg base 2 "_law_card" ["sizes", "cell"] (spD K g_law_card_4ab7e) := t_law_card_4ab7e (k := 1) F44 b44 g44 y_len y_range y_tuple (H_law_draw_48e0b.mono (by decide))
  have H_law_leaf_52ac9 : Has l.prog w K mg base 4 "_law_leaf" ["sizes", "cell"] (spD K g_law_leaf_52ac9) := t_law_leaf_52ac9 (k := 3) F45 b45 g45 y_int y_len y_range y_tuple (H_law_draw_48e0b.mono (by decide)) (H_law_values_1b941.mono (by decide)) (H_law_conditions_05f1f.mono (by decide)) (H_law_card_4ab7e.mono (by decide))
  have H_law_part_518aa : Has l.prog w K mg base 5 "_law_part" ["sizes", "cell"] (spD K g_law_part_518aa) := t_law_part_518aa (k := 4) F46 b46 g46 (H_law_draw_48e0b.mono (by decide)) (H_law_leaf_52ac9.mono (by decide))
  have H_law_form_06328 : Has l.prog w K mg base 6 "_law_form" ["sizes", "cells"] (spD K g_law_form_06328) := t_law_form_06328 (k := 5) F47 b47 g47 y_int y_len y_range y_tuple (H_law_draw_48e0b.mono (by decide)) (H_law_conditions_05f1f.mono (by decide)) (H_law_leaf_52ac9.mono (by decide)) (H_law_part_518aa.mono (by decide))
  have H_law_many_bf8ac : Has l.prog w K mg base 60 "_law_many" ["form"] (spD K (g_law_many_bf8ac FU)) := t_law_many_bf8ac (k := 0) F48 b48 g48 y_sum FU
  have H_law_brief_4e244 : Has l.prog w K mg base 61 "_law_brief" ["sizes", "cells"] (spD K g_law_brief_4e244) := t_law_brief_4e244 (k := 60) F49 b49 g49 (H_law_form_06328.mono (by decide)) (H_law_many_bf8ac.mono (by decide))
  have H_law_joined_f4720 : Has l.prog w K mg base 1 "_law_joined" ["one", "other"] (spD K g_law_joined_f4720) := t_law_joined_f4720 (k := 0) F50 b50 g50 y_len y_list y_set y_sorted y_tuple
  have H_law_least_64473 : Has l.prog w K mg base 1 "_law_least" ["rows"] (spD K g_law_least_64473) := t_law_least_64473 (k := 0) F51 b51 g51 y_all y_any y_len y_set y_sorted
  have H_law_joins_cd054 : Has l.prog w K mg base 2 "_law_joins" ["ours", "theirs"] (spD K g_law_joins_cd054) := t_law_joins_cd054 (k := 1) F52 b52 g52 (H_law_joined_f4720.mono (by decide)) (H_law_least_64473.mono (by decide))
  have LB : Binds K _ ["script"] [] := F53.binds (ps := ["script"]) fun _ _ _ _ _ _ us hl => match us, hl with | [_], _ => rfl
  exact Lk.FnG.ofOk (law_fn (f_law_k95 (k := 67) F53 LB g53 y_list (H_prime_rules.mono (by decide)) (H_law_cell_98eb9.mono (by decide)) (H_law_draw_48e0b.mono (by decide)) (H_law_sizes_48d55.mono (by decide)) (H_law_brief_4e244.mono (by decide)) (H_law_joins_cd054.mono (by decide))))
end DL
open PySem PySem.W PyProof.Rows in
set_option maxRecDepth 100000 in
set_option maxHeartbeats 0 in
theorem PySem.Challenge.cw_leastreasons_k95_whole_prime_rules_of_bo_holds : PySem.Challenge.rw_leastreasons_k95_whole_prime_rules_of_bo.Holds := by
  w_on; o_law; k_head; (case hw => w_witness2)
  k_fill
  refine Lk.walk_ofGB (l := PySem.Challenge.rw_leastreasons_k95_whole_prime_rules_of_bo) (n := 63) (k := 68) (x := "script") (sp := fun w => DL.spLaw _ DL.g_law_k95) rfl (by decide) rfl ⟨rfl, by decide, by decide⟩ (fun w h Y => PySem.W.kIn_of Y) ?F (fun _ _ a ns hl hb _ hS => ⟨a, ns, rfl, hS, DL.true_k95 ns hl hb, fun _ => rfl⟩)
  case F =>
    intro w mg fa h KX G hmg
    refine' DL.all_mk KX G hmg ?a0 ?l0 ?c0 ?k0 ?a1 ?l1 ?c1 ?k1 ?a2 ?l2 ?c2 ?k2 ?a3 ?l3 ?c3 ?k3 ?a4 ?l4 ?c4 ?k4 ?a5 ?l5 ?c5 ?k5 ?a6 ?l6 ?c6 ?k6 ?a7 ?l7 ?c7 ?k7 ?a8 ?l8 ?c8 ?k8 ?a9 ?l9 ?c9 ?k9 ?a10 ?l10 ?c10 ?k10 ?a11 ?l11 ?c11 ?k11 ?a12 ?l12 ?c12 ?k12 ?a13 ?l13 ?c13 ?k13 ?a14 ?l14 ?c14 ?k14 ?a15 ?l15 ?c15 ?k15 ?a16 ?l16 ?c16 ?k16 ?a17 ?l17 ?c17 ?k17 ?a18 ?l18 ?c18 ?k18 ?a19 ?l19 ?c19 ?k19 ?a20 ?l20 ?c20 ?k20 ?a21 ?l21 ?c21 ?k21 ?a22 ?l22 ?c22 ?k22 ?a23 ?l23 ?c23 ?k23 ?a24 ?l24 ?c24 ?k24 ?a25 ?l25 ?c25 ?k25 ?a26 ?l26 ?c26 ?k26 ?a27 ?l27 ?c27 ?k27 ?a28 ?l28 ?c28 ?k28 ?a29 ?l29 ?c29 ?k29 ?a30 ?l30 ?c30 ?k30 ?a31 ?l31 ?c31 ?k31 ?a32 ?l32 ?c32 ?k32 ?a33 ?l33 ?c33 ?k33 ?a34 ?l34 ?c34 ?k34 ?a35 ?l35 ?c35 ?k35 ?a36 ?l36 ?c36 ?k36 ?a37 ?l37 ?c37 ?k37 ?a38 ?l38 ?c38 ?k38 ?a39 ?l39 ?c39 ?k39 ?a40 ?l40 ?c40 ?k40 ?a41 ?l41 ?c41 ?k41 ?a42 ?l42 ?c42 ?k42 ?a43 ?l43 ?c43 ?k43 ?a44 ?l44 ?c44 ?k44 ?a45 ?l45 ?c45 ?k45 ?a46 ?l46 ?c46 ?k46 ?a47 ?l47 ?c47 ?k47 ?a48 ?l48 ?c48 ?k48 ?a49 ?l49 ?c49 ?k49 ?a50 ?l50 ?c50 ?k50 ?a51 ?l51 ?c51 ?k51 ?a52 ?l52 ?c52 ?k52 ?a53 ?l53 ?c53 ?k53 ?n0 ?n1 ?n2 ?n3 ?aj0 ?lj0 ?z0 ?z1 ?z2 ?z3 ?z4 ?z5 ?z6 ?z7 ?z8 ?z9 ?z10 ?z11 ?z12 ?z13
    (case a0 => k_is)
    (case l0 => k_is)
    (case c0 => k_is)
    (case k0 => k_is)
    (case a1 => k_is)
    (case l1 => k_is)
    (case c1 => k_is)
    (case k1 => k_is)
    (case a2 => k_is)
    (case l2 => k_is)
    (case c2 => k_is)
    (case k2 => k_is)
    (case a3 => k_is)
    (case l3 => k_is)
    (case c3 => k_is)
    (case k3 => k_is)
    (case a4 => k_is)
    (case l4 => k_is)
    (case c4 => k_is)
    (case k4 => k_is)
    (case a5 => k_is)
    (case l5 => k_is)
    (case c5 => k_is)
    (case k5 => k_is)
    (case a6 => k_is)
    (case l6 => k_is)
    (case c6 => k_is)
    (case k6 => k_is)
    (case a7 => k_is)
    (case l7 => k_is)
    (case c7 => k_is)
    (case k7 => k_is)
    (case a8 => k_is)
    (case l8 => k_is)
    (case c8 => k_is)
    (case k8 => k_is)
    (case a9 => k_is)
    (case l9 => k_is)
    (case c9 => k_is)
    (case k9 => k_is)
    (case a10 => k_is)
    (case l10 => k_is)
    (case c10 => k_is)
    (case k10 => k_is)
    (case a11 => k_is)
    (case l11 => k_is)
    (case c11 => k_is)
    (case k11 => k_is)
    (case a12 => k_is)
    (case l12 => k_is)
    (case c12 => k_is)
    (case k12 => k_is)
    (case a13 => k_is)
    (case l13 => k_is)
    (case c13 => k_is)
    (case k13 => k_is)
    (case a14 => k_is)
    (case l14 => k_is)
    (case c14 => k_is)
    (case k14 => k_is)
    (case a15 => k_is)
    (case l15 => k_is)
    (case c15 => k_is)
    (case k15 => k_is)
    (case a16 => k_is)
    (case l16 => k_is)
    (case c16 => k_is)
    (case k16 => k_is)
    (case a17 => k_is)
    (case l17 => k_is)
    (case c17 => k_is)
    (case k17 => k_is)
    (case a18 => k_is)
    (case l18 => k_is)
    (case c18 => k_is)
    (case k18 => k_is)
    (case a19 => k_is)
    (case l19 => k_is)
    (case c19 => k_is)
    (case k19 => k_is)
    (case a20 => k_is)
    (case l20 => k_is)
    (case c20 => k_is)
    (case k20 => k_is)
    (case a21 => k_is)
    (case l21 => k_is)
    (case c21 => k_is)
    (case k21 => k_is)
    (case a22 => k_is)
    (case l22 => k_is)
    (case c22 => k_is)
    (case k22 => k_is)
    (case a23 => k_is)
    (case l23 => k_is)
    (case c23 => k_is)
    (case k23 => k_is)
    (case a24 => k_is)
    (case l24 => k_is)
    (case c24 => k_is)
    (case k24 => k_is)
    (case a25 => k_is)
    (case l25 => k_is)
    (case c25 => k_is)
    (case k25 => k_is)
    (case a26 => k_is)
    (case l26 => k_is)
    (case c26 => k_is)
    (case k26 => k_is)
    (case a27 => k_is)
    (case l27 => k_is)
    (case c27 => k_is)
    (case k27 => k_is)
    (case a28 => k_is)
    (case l28 => k_is)
    (case c28 => k_is)
    (case k28 => k_is)
    (case a29 => k_is)
    (case l29 => k_is)
    (case c29 => k_is)
    (case k29 => k_is)
    (case a30 => k_is)
    (case l30 => k_is)
    (case c30 => k_is)
    (case k30 => k_is)
    (case a31 => k_is)
    (case l31 => k_is)
    (case c31 => k_is)
    (case k31 => k_is)
    (case a32 => k_is)
    (case l32 => k_is)
    (case c32 => k_is)
    (case k32 => k_is)
    (case a33 => k_is)
    (case l33 => k_is)
    (case c33 => k_is)
    (case k33 => k_is)
    (case a34 => k_is)
    (case l34 => k_is)
    (case c34 => k_is)
    (case k34 => k_is)
    (case a35 => k_is)
    (case l35 => k_is)
    (case c35 => k_is)
    (case k35 => k_is)
    (case a36 => k_is)
    (case l36 => k_is)
    (case c36 => k_is)
    (case k36 => k_is)
    (case a37 => k_is)
    (case l37 => k_is)
    (case c37 => k_is)
    (case k37 => k_is)
    (case a38 => k_is)
    (case l38 => k_is)
    (case c38 => k_is)
    (case k38 => k_is)
    (case a39 => k_is)
    (case l39 => k_is)
    (case c39 => k_is)
    (case k39 => k_is)
    (case a40 => k_is)
    (case l40 => k_is)
    (case c40 => k_is)
    (case k40 => k_is)
    (case a41 => k_is)
    (case l41 => k_is)
    (case c41 => k_is)
    (case k41 => k_is)
    (case a42 => k_is)
    (case l42 => k_is)
    (case c42 => k_is)
    (case k42 => k_is)
    (case a43 => k_is)
    (case l43 => k_is)
    (case c43 => k_is)
    (case k43 => k_is)
    (case a44 => k_is)
    (case l44 => k_is)
    (case c44 => k_is)
    (case k44 => k_is)
    (case a45 => k_is)
    (case l45 => k_is)
    (case c45 => k_is)
    (case k45 => k_is)
    (case a46 => k_is)
    (case l46 => k_is)
    (case c46 => k_is)
    (case k46 => k_is)
    (case a47 => k_is)
    (case l47 => k_is)
    (case c47 => k_is)
    (case k47 => k_is)
    (case a48 => k_is)
    (case l48 => k_is)
    (case c48 => k_is)
    (case k48 => k_is)
    (case a49 => k_is)
    (case l49 => k_is)
    (case c49 => k_is)
    (case k49 => k_is)
    (case a50 => k_is)
    (case l50 => k_is)
    (case c50 => k_is)
    (case k50 => k_is)
    (case a51 => k_is)
    (case l51 => k_is)
    (case c51 => k_is)
    (case k51 => k_is)
    (case a52 => k_is)
    (case l52 => k_is)
    (case c52 => k_is)
    (case k52 => k_is)
    (case a53 => k_is)
    (case l53 => k_is)
    (case c53 => k_is)
    (case k53 => k_is)
    (case n0 => k_is)
    (case n1 => k_is)
    (case n2 => k_is)
    (case n3 => k_is)
    (case aj0 => k_is)
    (case lj0 => k_is)
    (case z0 => k_is)
    (case z1 => k_is)
    (case z2 => k_is)
    (case z3 => k_is)
    (case z4 => k_is)
    (case z5 => k_is)
    (case z6 => k_is)
    (case z7 => k_is)
    (case z8 => k_is)
    (case z9 => k_is)
    (case z10 => k_is)
    (case z11 => k_is)
    (case z12 => k_is)
    (case z13 => k_is)
