import PyProof.Rows.All
import Wide.All
import OpenK.AllK
import Wide.FinOn
import HandS.ForMost
import HandS.IsInst
import HandS.Wide
import HandS.SortInts
import HandS.WideBits
import HandS.Style
import HandS.Deep
import HandS.Star
import HandS.SetFor
import HandS.Conv
import HandS.EndBits
import HandS.RevRange
import HandS.More
import HandS.Iter
import HandS.WordsExc
import HandS.ExcOwn
import HandS.ExcIs
import HandS.TryMany
import KE.DataFind
import PySem.Challenge.RW_leastreasons_k61_two_forms_compared
set_option exponentiation.threshold 2000
set_option Elab.async false
set_option linter.all false
set_option maxRecDepth 100000
set_option maxHeartbeats 8000000
namespace Lk
open PySem PySem.Spec PyProof.Rows L2

/-! ## promises of defs that are entered while no display runs further out (repr of lists) -/
structure FnG (P : Program) (w : World) (K : PySem.W.Frag) (mg : Str → Option Value) (base : Heap) (CX : CXT)
    (k : Nat) (f : Addr) (fd : FuncData) (ps : List Str) (sp : Sp) : Prop where
  len : ∀ vs H Q E, sp vs H Q E → vs.length = ps.length
  run : ∀ (A : Around) (outer : List Env) (s : Shared) (H : Hp) (args : Args) (us : List Value) (vs : List V) (Q : VK) (E : XK),
    A.guards = some [] → Room k A → Env0 P w K mg base A outer s H → BindsTo s fd args (ps.zip us) → Vals vs us → sp vs H Q E →
    codeAny (model P w) A (.call (.ref f) args) (CR CX outer P w H s Q E) s

section
variable {P : Program} {w : World} {K : PySem.W.Frag} {mg : Str → Option Value} {base : Heap} {CX : CXT} {k : Nat} {f : Addr}
theorem FnG.ofOk {fd : FuncData} {ps : List Str} {sp : Sp} (F : FnOk P w K mg base CX k f fd ps sp) : FnG P w K mg base CX k f fd ps sp :=
  ⟨F.len, fun A outer s H args us vs Q E _ r e b v h => F.run A outer s H args us vs Q E r e b v h⟩
theorem FnG.mono {fd : FuncData} {ps : List Str} {sp : Sp} {j : Nat} (F : FnG P w K mg base CX j f fd ps sp) (h : j ≤ k) : FnG P w K mg base CX k f fd ps sp :=
  ⟨F.len, fun A outer s H args us vs Q E g r e b v z => F.run A outer s H args us vs Q E g (r.mono h) e b v z⟩

/-- a def by its body, which may use that no display runs further out -/
theorem fnG_of {name qual : Str} {params : Arguments} {body : List Stmt} {scope : Scope} {dV kV doc pm cdv ct oc : Value} {an od : Option Addr}
    {osl : Array (Option Value)} {N ps : List Str} {sp : Sp}
    (lk : K.lookup f = some ⟨oc, od, .func (PySem.W.fnOf name qual params body scope dV kV doc pm an cdv ct), osl⟩)
    (cd : PySem.W.codeIn K cdv qual = true) (S : FnScope N ps scope) (len : ∀ vs H Q E, sp vs H Q E → vs.length = ps.length)
    (bd : ∀ (A : Around) (outer : List Env) (s : Shared) (H : Hp) (vs : List V) (Q : VK) (E : XK), A.guards = some [] →
      Room k (A.deeper (envOfC qual scope s.heap.objs.size f cdv)) → sp vs H Q E →
      ∃ t, PSs (cxOf CX P w K mg base N qual scope f cdv A outer s H E) body t ∧ t { nx := fun _ H' => Q .non H', rt := Q } (start N vs) H) :
    FnG P w K mg base CX (k + 1) f (PySem.W.fnOf name qual params body scope dV kV doc pm an cdv ct) ps sp := by
  constructor
  · exact len
  intro A outer s H args us vs Q E hg rm env bnd rel prom
  have inK : K.In s.heap := env.mod.kin.keeps fun b o e => (env.bs b o e).1
  have noLim : s.heap.NoLimit := env.mod.nolimit.keeps fun b o e => (env.bs b o e).1
  refine codeAny_call_function rm.depth (inK _ _ lk) rfl S.co S.gen rfl (PySem.W.codeRec_of inK cd) (bnd _ _ _ _ ?_)
  refine wpAny_newFunctionEnv_cells S.kind ?kinds fun env' ee s1 x => ?_
  case kinds =>
    rintro ⟨n, v⟩ mem
    rcases S.par n (List.of_mem_zip mem).1 with z | z
    · exact Or.inl z
    · exact Or.inr ⟨z, PySem.W.cellsFrom_some _ _ _ (Or.inl z)⟩
  subst ee
  refine ⟨noLim.keeps x.toInCall.keep, codeAny_func ?_⟩
  obtain ⟨t, der, rd⟩ := bd A outer s H vs Q E hg (rm.deeper _) prom
  have I0 := inv_start (CX := CX) (E := E) S rm.hd env (len _ _ _ _ prom) rel x
  refine wpAny_mono (der.run [] s1 (start N vs) H _ I0 rd) (fun fl s' z => ?_) fun _ _ z => z
  cases fl with
  | ret u =>
    obtain ⟨v, _, H', J, rv, q⟩ := z
    exact ⟨v, H', J.os, J.bare, J.base, J.hok, rv, q⟩
  | next =>
    obtain ⟨_, H', J, q⟩ := z
    exact ⟨V.non, H', J.os, J.bare, J.base, J.hok, rfl, q⟩
  | brk => exact z.choose_spec.choose_spec.2.elim
  | cont => exact z.choose_spec.choose_spec.2.elim
end

/-- Fun.ok for guarded promises, no exception leaving -/
theorem Fun_okG {P : Program} {w : World} {K : PySem.W.Frag} {mg : Str → Option Value} {base : Heap} {x qual : Str} {st : Stmt} {f : Addr} {fd : FuncData}
    {N ps : List Str} {k : Nat} {sp : Sp} (F : Fun K x qual st f fd) (S : FnScope N ps (defScope st)) (len : ∀ vs H Q E, sp vs H Q E → vs.length = ps.length)
    (bd : ∀ (cdv : Value) (A : Around) (outer : List Env) (s : Shared) (H : Hp) (vs : List V) (Q : VK) (E : XK), A.guards = some [] →
      Room k (A.deeper (envOfC qual (defScope st) s.heap.objs.size f cdv)) → sp vs H Q E →
      ∃ t, PSs (cxOf CX0 P w K mg base N qual (defScope st) f cdv A outer s H E).nox (defBody st) t ∧ t { nx := fun _ H' => Q .non H', rt := Q } (start N vs) H) :
    FnG P w K mg base CX0 (k + 1) f fd ps sp := by
  obtain ⟨_, _, _, _, _, _, cdv, _, _, rfl, lk, hcd⟩ := F.ex
  refine fnG_of lk hcd S len fun A outer s H vs Q E hg hr z => ?_
  obtain ⟨t, d, q⟩ := bd cdv A outer s H vs Q E hg hr z
  exact ⟨t, d.nox, q⟩

section
variable {X : Cx} {CX : CXT} {k : Nat} {f : Addr} {fd : FuncData} {ps : List Str} {sp : Sp} {dvs : List V} {ds : List Value} {E : XK} {x : Str} {p pos : Pos} {e : Expr} {es : List Expr} {t : TA}
/-- a call of such a def, from a body that itself knows that no display runs -/
theorem pe_callG (hgd : X.A.guards = some []) (F : FnG X.prog X.w X.K X.mg X.base CX k f fd ps sp) (hr : Room k X.A) (hg : Gl X x) (hm : X.mg x = some (.ref f))
    (hk : PySem.W.keepIn X.K (.ref f) = true) (hb : Binds X.K fd ps ds) (hd : Vals dvs ds) (hx : Passes CX X E) (ha : PA X (e :: es) t)
    (hdb : (x == ("__debug__" : Str)) = false := by decide) (he : starEach (e :: es) X.env = (false, eval e X.env) :: starEach es X.env := by rfl)
    (hpl : (backTo pos (starEach es X.env)).any (·.1) = false := by rfl) : PE X (.Call (.Name x p) (e :: es) [] pos) (tCall sp dvs E t) := by
  constructor
  intro pins s σ H Q I h
  refine wpAny_Call_Name_kw (ld_glob I hg hm ?_ hdb)
  refine PySem.W.callWith_K (h₀ := X.base) I.ok.mod.kin hk (thn (ha.run pos pins s σ H _ I h) ?_) he hpl
  rintro us s1 ⟨vs, H1, I1, r, q⟩
  refine ⟨I1.kIn, ?_⟩
  have r2 := r.append hd
  have hl := r2.length.symm.trans (F.len _ _ _ _ q)
  refine wpAny_call (codeAny_mono (F.run X.A X.stack s1 H1 ⟨us, []⟩ (us ++ ds) (vs ++ dvs) Q E hgd hr I1.env0 (hb s1 us I1.kIn hl) r2 q) ?_)
  rintro (e' | fl) s' z
  · exact hx pins σ H1 s1 e' s' I1 z
  · cases fl with
    | ret u => exact I1.after z
    | next => exact z.elim
    | brk => exact z.elim
    | cont => exact z.elim
end

/-! ## the law's own end for such a promise -/
theorem law_callG {P : Program} {w : World} {K : PySem.W.Frag} {mg mb : Str → Option Value} {k : Nat} {fa a : Addr} {fd : FuncData} {x : Str} {sp : Sp} {s₁ : Shared} {vs : List Value} {ns : List Int}
    (KX : K.In s₁.heap) (hns : s₁.heap.Ns mainGlobals mg) (hb : s₁.heap.Ns builtinsNs mb) (hbb : ∀ x : Str, x ≠ "__name__" → mb x = bootBuiltins x) (hlim : s₁.heap.NoLimit)
    (hg : s₁.gens = #[]) (ha : s₁.heap.get? a = some { cls := .type "list", data := .seq vs.toArray }) (hi : IntsAre vs ns) (hl : ns.length ≤ sizeLine) (hr : Room k callerA)
    (F : ∀ base : Heap, K.In base → base.Ns mainGlobals mg → FnG P w K mg base CX0 k fa fd [x] sp) (bnd : ∀ (s : Shared) (u : Value), BindsTo s fd ⟨[u], []⟩ [(x, u)])
    (hsp : ∀ H : Hp, Only H → SqL K H a (ns.map V.int) → sp [.ref a] H (fun v _ => v = .bl true) fun _ _ _ => False) :
    codeAny (model P w) callerA (.call (.ref fa) ⟨[.ref a], []⟩) (fun r s' => r = .ok (.ret (.bool true)) ∧ OldK s₁.heap s'.heap ∧ s'.os = s₁.os ∧ AllBare s'.gens) s₁ := by
  have rel := vals_ints hi
  have obj : (⟨.type "list", none, .seq vs.toArray 0, #[]⟩ : Obj) = { cls := .type "list", data := .seq vs.toArray } := rfl
  suffices core : ∀ H : Hp, Only H → SqL K H a (ns.map V.int) → HOk P w H s₁.heap → (∀ b, H b ≠ none → b = a ∧ K.lookup a = none) →
      codeAny (model P w) callerA (.call (.ref fa) ⟨[.ref a], []⟩) (fun r s' => r = .ok (.ret (.bool true)) ∧ OldK s₁.heap s'.heap ∧ s'.os = s₁.os ∧ AllBare s'.gens) s₁ by
    cases hk : K.lookup a with
    | some o =>
      have e := KX a o hk
      rw [ha] at e
      cases e
      refine core (fun _ => none) (fun _ => Or.inl rfl) (Or.inr ⟨_, vs.toArray, _, hk, rfl, rfl, rfl, ?_, by simpa using rel⟩) (fun b u z => nomatch z) fun b z => absurd rfl z
      rw [List.size_toArray, hi.length]
      exact hl
    | none =>
      refine core (fun b => if b = a then some (.frz { cls := .type "list", data := .seq vs.toArray } (.lst (ns.map V.int))) else none) ?_ (Or.inl (Or.inr ⟨_, if_pos rfl⟩)) ?_ ?_
      · intro b
        by_cases q : b = a
        · exact Or.inr ⟨_, _, if_pos q⟩
        · exact Or.inl (if_neg q)
      · intro b u z
        by_cases q : b = a
        · subst q
          have z2 := (if_pos rfl).symm.trans z
          cases z2
          exact ⟨ha, by simpa using hl, vs, _, rel, ha⟩
        · exact nomatch (if_neg q).symm.trans z
      · intro b z
        by_cases q : b = a
        · exact ⟨q, hk⟩
        · exact absurd (if_neg q) z
  intro H only seq hok one
  have untr : ∀ {b : Addr} {m : Str → Option Value}, s₁.heap.Ns b m → (hidT s₁.heap H).Ns b m := by
    rintro b m ⟨o, es, ep, e, d, r⟩
    refine ⟨o, es, ep, hidT_get e ?_, d, r⟩
    by_cases q : H b = none
    · exact q
    · obtain ⟨rfl, _⟩ := one b q
      rw [ha] at e
      cases e
      exact absurd d (by simp)
  have inB : K.In (hidT s₁.heap H) := by
    intro b o e
    refine hidT_get (KX b o e) ?_
    by_cases q : H b = none
    · exact q
    · obtain ⟨rfl, z⟩ := one b q
      rw [z] at e
      cases e
  have modu : Mod K mg (hidT s₁.heap H) := ⟨inB, untr hns, ⟨mb, untr hb, hbb⟩, hlim.elim fun mc z => ⟨mc, untr z.1, z.2⟩⟩
  have env : Env0 P w K mg (hidT s₁.heap H) callerA [] s₁ H :=
    ⟨rfl, modu, fun _ _ e => of_hidT e, Nat.le_of_eq (hidT_size _ _), trivial, fun b z => absurd (show b ∈ ([] : List Addr) from z) (by simp), hok, .of_eq hg⟩
  refine codeAny_mono ((F _ inB (untr hns)).run callerA [] s₁ H ⟨[.ref a], []⟩ [.ref a] [.ref a] _ _ rfl hr env (bnd s₁ (.ref a)) (.cons rfl .nil) (hsp H only seq)) ?_
  rintro (e' | fl) s' z
  · exact z.elim
  cases fl with
  | next => exact z.elim
  | brk => exact z.elim
  | cont => exact z.elim
  | ret u =>
    obtain ⟨v, H', os, bare, un, ok', rv, rfl⟩ := z
    obtain rfl : u = Value.bool true := rv
    refine ⟨rfl, OldK.of_keep ?_, os, bare⟩
    intro b o e
    rcases only b with q | ⟨ob, xs, q⟩
    · exact un.keep b o e q (fun z => absurd (show b ∈ ([] : List Addr) from z) (by simp)) (by simp)
    · have q2 := (ok' b _ (un.frzs b ob _ q)).1
      have q1 := (hok b _ q).1
      rw [e] at q1
      cases q1
      exact q2

theorem walk_ofG {l : PySem.W.OpenLaw} {n k : Nat} {q : Program} {loose : List Str} {XP : (Str → Option Value) → Heap → Prop} {YP : World → Heap → Prop} {d : DefRec}
    {K : Params → PySem.W.Frag} {sp : World → Sp} {x : Str} (hn : l.most = some n) (hn2 : n ≤ sizeLine) (hdf : d.params.defaults = []) (hr : Room k callerA)
    (hY : ∀ (w : World) (h : Heap), YP w h → (K w.params).In h)
    (F : ∀ (w : World) (mg : Str → Option Value) (fa : Addr) (h : Heap), (K w.params).In h → h.Ns mainGlobals mg → mg d.name = some (.ref fa) →
      ∃ fd : FuncData, (∀ (s : Shared) (u : Value), BindsTo s fd ⟨[u], []⟩ [(x, u)]) ∧
        ∀ base : Heap, (K w.params).In base → base.Ns mainGlobals mg → FnG l.prog w (K w.params) mg base CX0 k fa fd [x] (sp w))
    (hsp : ∀ (w : World) (H : Hp) (a : Addr) (ns : List Int), ns.length ≤ n → Only H → SqL (K w.params) H a (ns.map V.int) → sp w [.ref a] H (fun v _ => v = .bl true) fun _ _ _ => False) :
    PySem.W.WalkO q loose XP YP l.row.toRowW d [] (fun f vs => PySem.call f vs) := by
  refine Att.attach_call hn hdf ?_
  intro w s₀ s₁ mg mb fa o pm cd doc a vs ns G Y _ _ _ hmg hobj hints hlen hg
  have KX := hY w _ Y
  obtain ⟨fd, hb, hF⟩ := F w mg fa _ KX G.T.g hmg
  exact law_callG KX G.T.g G.T.b G.T.builtins G.T.nolimit hg hobj hints (Nat.le_trans hlen hn2) hr hF hb fun H hO hS => hsp w H a ns hlen hO hS

/-! ## rules -/
section
variable {X : Cx}
theorem op_powN : OpR X (binaryOp .Pow) (rI (fun i j => 0 ≤ j ∧ (Builtin.Int.intBits i : Int) * j ≤ 2 ^ 27) fun i j => .int (i ^ j.toNat)) :=
  opI fun _ _ _ _ _ _ _ hc q => pow_int hc.1 hc.2 q

/-- repr of a list or tuple of data -/
theorem call_reprD (hg : X.A.guards = some []) (hu : X.A.units + 64 < cLine) : CallR X (.builtin "repr") (fun xs H Q =>
    ∃ a d, xs = [.ref a] ∧ Dp X.K H (.ref a) d ∧ d.showable = true ∧ d.hasDict = false ∧ d.depth + 1 ≤ 64 ∧ d.shown.length ≤ sizeLine ∧ Q (.str d.shown) H) := by
  intro pins s σ H xs us Q I r h
  obtain ⟨a, d, rfl, hd, hs, hn, hdp, hz, q⟩ := h
  obtain ⟨u, rfl, ru⟩ := vals1 r
  cases ru
  obtain ⟨as, rd⟩ := Dp.reads I d _ _ hd rfl
  exact repr_of_reads' rd hs (PyData.noDict_hsm hn) hg (by omega) (fun _ _ e => e) (fun h' u tk hk => ⟨.str d.shown, H, I.kept hk, ⟨_, rfl⟩, q⟩) hz
/-- repr of any data -/
theorem call_repr (hg : X.A.guards = some []) (hu : X.A.units + 64 < cLine) : CallR X (.builtin "repr") (fun xs H Q =>
    ∃ v d, xs = [v] ∧ Dp X.K H v d ∧ d.showable = true ∧ d.hasDict = false ∧ d.depth + 1 ≤ 64 ∧ d.shown.length ≤ sizeLine ∧ Q (.str d.shown) H) := by
  intro pins s σ H xs us Q I r h
  obtain ⟨v, d, rfl, hd, hs, hn, hdp, hz, q⟩ := h
  cases hd with
  | non =>
    obtain ⟨u, rfl, ru⟩ := vals1 r
    cases ru
    exact PySem.P.repr_of_none ⟨.str _, H, I.tok _, ⟨_, rfl⟩, q⟩
  | bl b =>
    obtain ⟨u, rfl, ru⟩ := vals1 r
    cases ru
    refine PySem.P.repr_of_bool ⟨.str _, H, I.tok _, ⟨_, rfl⟩, ?_⟩
    cases b <;> exact q
  | int i =>
    obtain ⟨u, rfl, t, rfl⟩ := vals1 r
    exact PySem.P.repr_of_int (of_decide_eq_true hs) ⟨.str _, H, I.tok _, ⟨_, rfl⟩, q⟩
  | str x =>
    obtain ⟨u, rfl, t, rfl⟩ := vals1 r
    exact PySem.P.repr_of_str ⟨.str _, H, I.tok _, ⟨_, rfl⟩, q⟩ hz
  | lst hs' ha => exact call_reprD hg hu pins s σ H _ us Q I r ⟨_, _, rfl, .lst hs' ha, hs, hn, hdp, hz, q⟩
  | tup hs' ha => exact call_reprD hg hu pins s σ H _ us Q I r ⟨_, _, rfl, .tup hs' ha, hs, hn, hdp, hz, q⟩
end
end Lk
namespace Lk
open PySem PySem.Spec PyProof.Rows L2

/-! ## data: how great, how deep -/
structure Ok (n w : Nat) (d : PyData) : Prop where
  sh : d.showable = true
  nd : d.hasDict = false
  dp : d.depth ≤ n
  cl : d.canLay0 = true
  lv : d.leavesShort 64 = true
  wt : d.weight ≤ w
namespace Ok
variable {n w n' w' L : Nat} {d : PyData} {ds : List PyData}
theorem mono (h : Ok n w d) (hn : n ≤ n') (hw : w ≤ w') : Ok n' w' d := ⟨h.sh, h.nd, Nat.le_trans h.dp hn, h.cl, h.lv, Nat.le_trans h.wt hw⟩
theorem shaped (h : Ok n w d) (hn : n ≤ 64) : SeqAt.shaped d = true := by
  unfold SeqAt.shaped
  rw [h.cl, decide_eq_true (Nat.le_trans h.dp hn)]
  rfl
theorem fits (h : Ok n w d) (hw : w ≤ 2 ^ 17) : d.shown.length ≤ sizeLine := by
  have a := PyData.shown_le 64 (by decide) d h.lv
  have b : (64 + 2) * d.weight ≤ 66 * 2 ^ 17 := Nat.mul_le_mul_left 66 (Nat.le_trans h.wt hw)
  have c : sizeLine = 2 ^ 24 := rfl
  omega
theorem none : Ok n w .none := ⟨rfl, rfl, Nat.zero_le _, rfl, rfl, Nat.zero_le _⟩
theorem bool (b : Bool) : Ok n w (.bool b) := ⟨rfl, rfl, Nat.zero_le _, rfl, rfl, Nat.zero_le _⟩
end Ok
def okAll (n w : Nat) (ds : List PyData) : Prop := ∀ d ∈ ds, Ok n w d
theorem okAll_facts {n w : Nat} : ∀ {ds : List PyData}, okAll n w ds → PyData.showableAll ds = true ∧ PyData.hasDictAll ds = false ∧ PyData.depthAll ds ≤ n ∧ PyData.canLayAll0 ds = true ∧ PyData.leavesShortAll 64 ds = true ∧ PyData.weightAll ds ≤ ds.length * (w + 1)
  | [], _ => ⟨rfl, rfl, Nat.zero_le _, rfl, rfl, Nat.zero_le _⟩
  | d :: ds, h => by
    have a := h d (List.mem_cons_self ..)
    obtain ⟨b1, b2, b3, b4, b5, b6⟩ := okAll_facts (ds := ds) fun x hx => h x (List.mem_cons_of_mem _ hx)
    refine ⟨?_, ?_, ?_, ?_, ?_, ?_⟩
    · show (d.showable && PyData.showableAll ds) = true
      rw [a.sh, b1]
      rfl
    · show (d.hasDict || PyData.hasDictAll ds) = false
      rw [a.nd, b2]
      rfl
    · show max d.depth (PyData.depthAll ds) ≤ n
      exact Nat.max_le.mpr ⟨a.dp, b3⟩
    · show (d.canLay0 && PyData.canLayAll0 ds) = true
      rw [a.cl, b4]
      rfl
    · show (d.leavesShort 64 && PyData.leavesShortAll 64 ds) = true
      rw [a.lv, b5]
      rfl
    · show d.weight + 1 + PyData.weightAll ds ≤ (ds.length + 1) * (w + 1)
      have := a.wt
      rw [Nat.succ_mul]
      omega
theorem Ok.list {n w L : Nat} {ds : List PyData} (h : okAll n w ds) (hl : ds.length ≤ L) : Ok (n + 1) (L * (w + 1)) (.list ds) := by
  obtain ⟨b1, b2, b3, b4, b5, b6⟩ := okAll_facts h
  refine ⟨b1, b2, ?_, b4, b5, ?_⟩
  · show PyData.depthAll ds + 1 ≤ n + 1
    omega
  · show PyData.weightAll ds ≤ _
    exact Nat.le_trans b6 (Nat.mul_le_mul_right _ hl)
theorem Ok.tuple {n w L : Nat} {ds : List PyData} (h : okAll n w ds) (hl : ds.length ≤ L) : Ok (n + 1) (L * (w + 1)) (.tuple ds) := by
  obtain ⟨b1, b2, b3, b4, b5, b6⟩ := okAll_facts h
  refine ⟨b1, b2, ?_, b4, b5, ?_⟩
  · show PyData.depthAll ds + 1 ≤ n + 1
    omega
  · show PyData.weightAll ds ≤ _
    exact Nat.le_trans b6 (Nat.mul_le_mul_right _ hl)
theorem Ok.int {n w : Nat} {i : Int} (h : i.natAbs < 2 ^ 30) (hw : 30 ≤ w) : Ok n w (.int i) := by
  have l : i.natAbs.log2 < 30 ∨ i.natAbs = 0 := by
    by_cases z : i.natAbs = 0
    · exact .inr z
    · exact .inl ((Nat.log2_lt z).mpr h)
  have l2 : i.natAbs.log2 < 1920 := by
    rcases l with l | l
    · omega
    · rw [l]
      decide
  refine ⟨decide_eq_true l2, rfl, Nat.zero_le _, rfl, ?_, ?_⟩
  · refine decide_eq_true (Nat.le_trans (PyData.shown_int_le (by omega)) (by decide))
  · show (if i == 0 then 0 else i.natAbs.log2 + 1) ≤ w
    split
    · exact Nat.zero_le _
    · rename_i hi
      rcases l with l | l
      · omega
      · exact absurd (by simpa using Int.natAbs_eq_zero.mp l) hi
theorem okAll.nil {n w : Nat} : okAll n w [] := fun _ h => nomatch h
theorem okAll.cons {n w : Nat} {d : PyData} {ds : List PyData} (h : Ok n w d) (t : okAll n w ds) : okAll n w (d :: ds) := fun x hx => by
  rcases List.mem_cons.mp hx with rfl | hx
  · exact h
  · exact t x hx
theorem okAll.append {n w : Nat} {ds es : List PyData} (h : okAll n w ds) (t : okAll n w es) : okAll n w (ds ++ es) := fun x hx => by
  rcases List.mem_append.mp hx with hx | hx
  · exact h x hx
  · exact t x hx
theorem okAll.sub {n w : Nat} {ds es : List PyData} (h : okAll n w ds) (s : ∀ x ∈ es, x ∈ ds) : okAll n w es := fun x hx => h x (s x hx)
theorem okAll.mono {n w n' w' : Nat} {ds : List PyData} (h : okAll n w ds) (hn : n ≤ n') (hw : w ≤ w') : okAll n' w' ds := fun x hx => (h x hx).mono hn hw
theorem okAll.ints {n w : Nat} {ns : List Int} (h : ∀ i ∈ ns, i.natAbs < 2 ^ 30) (hw : 30 ≤ w) : okAll n w (ns.map PyData.int) := fun x hx => by
  obtain ⟨i, hi, rfl⟩ := List.mem_map.mp hx
  exact .int (h i hi) hw

/-! ## data on the heap -/
mutual
theorem Dp.same {K : PySem.W.Frag} {H H' : Hp} (f : ∀ a xs, SqL K H a xs → SqL K H' a xs) (g : ∀ a xs, SqT K H a xs → SqT K H' a xs) : ∀ (d : PyData) {v : V}, Dp K H v d → Dp K H' v d
  | .none, _, h => by cases h; exact .non
  | .bool _, _, h => by cases h; exact .bl _
  | .int _, _, h => by cases h; exact .int _
  | .str _, _, h => by cases h; exact .str _
  | .list ds, _, h => by
    cases h with
    | lst hs ha => exact .lst (f _ _ hs) (DpAll.same f g ds ha)
  | .tuple ds, _, h => by
    cases h with
    | tup hs ha => exact .tup (g _ _ hs) (DpAll.same f g ds ha)
  | .dict _, _, h => by cases h
theorem DpAll.same {K : PySem.W.Frag} {H H' : Hp} (f : ∀ a xs, SqL K H a xs → SqL K H' a xs) (g : ∀ a xs, SqT K H a xs → SqT K H' a xs) : ∀ (ds : List PyData) {vs : List V}, DpAll K H vs ds → DpAll K H' vs ds
  | [], _, h => by cases h; exact .nil
  | d :: ds, _, h => by
    cases h with
    | cons h1 h2 => exact .cons (Dp.same f g d h1) (DpAll.same f g ds h2)
end
theorem Same.tup {K : PySem.W.Frag} {H H' : Hp} {a : Addr} {xs : List V} (e : Same H H') (h : SqT K H a xs) : SqT K H' a xs := by
  rcases h with (h | ⟨o, h⟩) | h
  · exact .inl (.inl (e _ _ h))
  · exact .inl (.inr ⟨o, e _ _ h⟩)
  · exact .inr h
theorem Dp.sm {K : PySem.W.Frag} {H H' : Hp} {d : PyData} {v : V} (s : Same H H') (h : Dp K H v d) : Dp K H' v d := Dp.same (fun _ _ => s.seq) (fun _ _ => Same.tup s) d h
theorem DpAll.sm {K : PySem.W.Frag} {H H' : Hp} {ds : List PyData} {vs : List V} (s : Same H H') (h : DpAll K H vs ds) : DpAll K H' vs ds := DpAll.same (fun _ _ => s.seq) (fun _ _ => Same.tup s) ds h
section
variable {K : PySem.W.Frag} {H : Hp}
theorem DpAll.length : ∀ {vs : List V} {ds : List PyData}, DpAll K H vs ds → vs.length = ds.length
  | _, [], h => by cases h; rfl
  | _, d :: ds, h => by
    cases h with
    | cons h1 h2 => rw [List.length_cons, List.length_cons, DpAll.length h2]
theorem DpAll.get : ∀ {vs : List V} {ds : List PyData} {i : Nat} {v : V}, DpAll K H vs ds → vs[i]? = some v → ∃ d, ds[i]? = some d ∧ Dp K H v d
  | _, [], i, v, h, e => by cases h; simp at e
  | _, d :: ds, 0, v, h, e => by
    cases h with
    | cons h1 h2 =>
      cases e
      exact ⟨d, rfl, h1⟩
  | _, d :: ds, i + 1, v, h, e => by
    cases h with
    | cons h1 h2 => exact DpAll.get (i := i) h2 (by simpa using e)
theorem DpAll.ints : ∀ (ns : List Int), DpAll K H (ns.map V.int) (ns.map PyData.int)
  | [] => .nil
  | _ :: ns => .cons (.int _) (DpAll.ints ns)
theorem DpAll.bls : ∀ (ns : List Bool), DpAll K H (ns.map V.bl) (ns.map PyData.bool)
  | [] => .nil
  | _ :: ns => .cons (.bl _) (DpAll.bls ns)
theorem DpAll.of_ints : ∀ {vs : List V} {ns : List Int}, DpAll K H vs (ns.map PyData.int) → vs = ns.map V.int
  | _, [], h => by cases h; rfl
  | _, n :: ns, h => by
    cases h with
    | cons h1 h2 =>
      cases h1
      rw [DpAll.of_ints h2]
      rfl
theorem DpAll.append : ∀ {vs ws : List V} {ds es : List PyData}, DpAll K H vs ds → DpAll K H ws es → DpAll K H (vs ++ ws) (ds ++ es)
  | _, _, [], _, h, t => by cases h; exact t
  | _, _, d :: ds, _, h, t => by
    cases h with
    | cons h1 h2 => exact .cons h1 (DpAll.append h2 t)
theorem DpAll.take : ∀ (n : Nat) {vs : List V} {ds : List PyData}, DpAll K H vs ds → DpAll K H (vs.take n) (ds.take n)
  | 0, _, _, _ => .nil
  | n + 1, _, [], h => by cases h; exact .nil
  | n + 1, _, d :: ds, h => by
    cases h with
    | cons h1 h2 => exact .cons h1 (DpAll.take n h2)
theorem DpAll.drop : ∀ (n : Nat) {vs : List V} {ds : List PyData}, DpAll K H vs ds → DpAll K H (vs.drop n) (ds.drop n)
  | 0, _, _, h => h
  | n + 1, _, [], h => by cases h; exact .nil
  | n + 1, _, d :: ds, h => by
    cases h with
    | cons h1 h2 => exact DpAll.drop n h2
end

/-! ## isinstance over data -/
def tyD : PyData → String
  | .none => "NoneType"
  | .bool _ => "bool"
  | .int _ => "int"
  | .str _ => "str"
  | .list _ => "list"
  | .tuple _ => "tuple"
  | .dict _ => "dict"
def isTy (T : String) (d : PyData) : Bool := tyD d == T || (T == "int" && tyD d == "bool")
theorem SqL.ty {K : PySem.W.Frag} {H : Hp} {a : Addr} {xs : List V} (h : SqL K H a xs) : TyX K H (.ref a) (.type "list") := by
  rcases h with (h | ⟨o, h⟩) | ⟨o, its, n, h1, h2, _⟩
  · exact .base (.lst h)
  · exact .base (.frz h)
  · exact .kList h1 h2
theorem SqT.ty {K : PySem.W.Frag} {H : Hp} {a : Addr} {xs : List V} (h : SqT K H a xs) : TyX K H (.ref a) (.type "tuple") := by
  rcases h with (h | ⟨o, h⟩) | ⟨o, its, n, h1, h2, _⟩
  · exact .base (.tup h)
  · exact .fTuple h
  · exact .kTuple h1 h2
theorem Dp.ty {K : PySem.W.Frag} {H : Hp} {v : V} {d : PyData} (h : Dp K H v d) : TyX K H v (.type (tyD d)) := by
  cases h with
  | non => exact .base .non
  | bl b => exact .base (.bl b)
  | int i => exact .base (.int i)
  | str x => exact .base (.str x)
  | lst hs _ => exact SqL.ty hs
  | tup hs _ => exact SqT.ty hs
theorem kit_names : ∀ a ∈ ["NoneType", "bool", "int", "str", "list", "tuple"], ∀ T ∈ ["int", "bool", "list", "tuple", "str"], kitB a T = some (a == T || (T == "int" && a == "bool")) := by decide +kernel
theorem Dp.kit {K : PySem.W.Frag} {H : Hp} {v : V} {d : PyData} (h : Dp K H v d) {T : String} (hT : T ∈ ["int", "bool", "list", "tuple", "str"]) : kitB (tyD d) T = some (isTy T d) := by
  refine kit_names (tyD d) ?_ T hT
  cases h <;> simp [tyD]
section
variable {X : Cx}
theorem call_isiD (T : String) (hT : T ∈ ["int", "bool", "list", "tuple", "str"] := by decide) : CallR X (.builtin "isinstance") (fun xs H Q => ∃ v d, xs = [v, .ty T] ∧ Dp X.K H v d ∧ Q (.bl (isTy T d)) H) := by
  intro pins s σ H xs us Q I r h
  obtain ⟨v, d, rfl, hd, q⟩ := h
  exact call_isi pins s σ H _ us Q I r ⟨v, .ty T, .type (tyD d), .type T, _, rfl, .ty T, Dp.ty hd, kit_ty (Dp.kit hd hT), q⟩
/-- the same within a comprehension, where X.K is K by computation -/
theorem call_isiDK {K : PySem.W.Frag} (T : String) (hK : X.K = K := by rfl) (hT : T ∈ ["int", "bool", "list", "tuple", "str"] := by decide) :
    CallR X (.builtin "isinstance") (fun xs H Q => ∃ v d, xs = [v, .ty T] ∧ Dp K H v d ∧ Q (.bl (isTy T d)) H) := by
  subst hK
  exact call_isiD T hT
end
end Lk
namespace Lk
open PySem PySem.Spec PyProof.Rows L2

/-! ## calls by keywords alone -/
section
variable {X : Cx} {CX : CXT} {k : Nat} {f : Addr} {fd : FuncData} {ps ks : List Str} {sp : Sp} {E : XK} {x : Str} {p pos : Pos} {kws : List Keyword} {tk : TA}
  {g : List Value → List Value → List Value} {gV : List V → List V → List V}
theorem pe_callK0 (F : FnOk X.prog X.w X.K X.mg X.base CX k f fd ps sp) (hr : Room k X.A) (hg : Gl X x) (hm : X.mg x = some (.ref f))
    (hk : PySem.W.keepIn X.K (.ref f) = true) (hb : KBinds X.K fd ps ks g gV) (hx : Passes CX X E) (hkw : PK X kws tk)
    (hall : (backToKw pos (keywordEach kws X.env)).all (·.1.isSome) = true := by rfl) (hks : (backToKw pos (keywordEach kws X.env)).filterMap (·.1) = ks := by rfl)
    (hdb : (x == ("__debug__" : Str)) = false := by decide)
    (hpl : ((backTo pos (starEach [] X.env)).any (·.1) || (backToKw pos (keywordEach kws X.env)).any (·.1.isNone)) = false := by rfl) :
    PE X (.Call (.Name x p) [] kws pos) (tCallK sp gV E tNil tk) := by
  constructor
  intro pins s σ H Q I h
  refine wpAny_Call_Name_kw (ld_glob I hg hm ?_ hdb)
  refine PySem.W.callWith_KW0 (h₀ := X.base) I.ok.mod.kin hk hall ?_ hpl
  refine thn (hkw.run pos pins s σ H _ I h) ?_
  rintro ws s2 ⟨zs, H2, I2, rz, q2⟩
  refine ⟨I2.kIn, ?_⟩
  rw [hks]
  exact run_fnk (us := []) (vs := []) F hr hb hx I2 .nil rz q2
end
def g1 {α : Type} : List α → List α → List α
  | [], [a] => [a]
  | _, _ => []
def g21 {α : Type} : List α → List α → List α
  | [], [a, b] => [b, a]
  | _, _ => []
def g321 {α : Type} : List α → List α → List α
  | [], [a, b, c] => [c, b, a]
  | _, _ => []
section
variable {K : PySem.W.Frag} {x qual : Str} {st : Stmt} {f : Addr} {fd : FuncData} {n m l : Str}
theorem kb1 (F : Fun K x qual st f fd) (h : ∀ (kV doc pm : Value) (an : Option Addr) (cdv ct w : Value),
      bindArgs (PySem.W.fnOf x qual (defArgs st) (defBody st) (defScope st) .none kV doc pm an cdv ct) ⟨[], [(n, w)]⟩ = pure [(n, w)]) : KBinds K fd [n] [n] g1 g1 := by
  obtain ⟨oc, od, kV, doc, pm, an, cdv, ct, osl, rfl, lk, hcd⟩ := F.ex
  constructor
  · intro s us ws _ hl
    match us, ws, hl with
    | [], [w], _ => exact .of_eq (h kV doc pm an cdv ct w)
  · intro vs us zs ws r rz
    cases r with
    | nil =>
      cases rz with
      | nil => exact .nil
      | cons a t =>
        cases t with
        | nil => exact .cons a .nil
        | cons _ _ => exact .nil
    | cons _ _ => exact .nil
theorem kb21 (F : Fun K x qual st f fd) (h : ∀ (kV doc pm : Value) (an : Option Addr) (cdv ct w w' : Value),
      bindArgs (PySem.W.fnOf x qual (defArgs st) (defBody st) (defScope st) .none kV doc pm an cdv ct) ⟨[], [(m, w'), (n, w)]⟩ = pure [(n, w), (m, w')]) : KBinds K fd [n, m] [m, n] g21 g21 := by
  obtain ⟨oc, od, kV, doc, pm, an, cdv, ct, osl, rfl, lk, hcd⟩ := F.ex
  constructor
  · intro s us ws _ hl
    match us, ws, hl with
    | [], [w', w], _ => exact .of_eq (h kV doc pm an cdv ct w w')
  · intro vs us zs ws r rz
    cases r with
    | nil =>
      cases rz with
      | nil => exact .nil
      | cons a t =>
        cases t with
        | nil => exact .nil
        | cons b t =>
          cases t with
          | nil => exact .cons b (.cons a .nil)
          | cons _ _ => exact .nil
    | cons _ _ => exact .nil
theorem kb321 (F : Fun K x qual st f fd) (h : ∀ (kV doc pm : Value) (an : Option Addr) (cdv ct w w' w'' : Value),
      bindArgs (PySem.W.fnOf x qual (defArgs st) (defBody st) (defScope st) .none kV doc pm an cdv ct) ⟨[], [(l, w''), (m, w'), (n, w)]⟩ = pure [(n, w), (m, w'), (l, w'')]) : KBinds K fd [n, m, l] [l, m, n] g321 g321 := by
  obtain ⟨oc, od, kV, doc, pm, an, cdv, ct, osl, rfl, lk, hcd⟩ := F.ex
  constructor
  · intro s us ws _ hl
    match us, ws, hl with
    | [], [w'', w', w], _ => exact .of_eq (h kV doc pm an cdv ct w w' w'')
  · intro vs us zs ws r rz
    cases r with
    | nil =>
      cases rz with
      | nil => exact .nil
      | cons a t =>
        cases t with
        | nil => exact .nil
        | cons b t =>
          cases t with
          | nil => exact .nil
          | cons c t =>
            cases t with
            | nil => exact .cons c (.cons b (.cons a .nil))
            | cons _ _ => exact .nil
    | cons _ _ => exact .nil
end
/-! ## a new object, its heap a letter -/
theorem new_of {H : Hp} {o : HO} {Q : V → Hp → Prop} (h : ∀ p H', Same H H' → H p = none → H' p = some o → Q (.ref p) H') : ∀ p, H p = none → Q (.ref p) (upd H p o) := fun p np => h p _ (fun b x e => by
  rw [upd_ne (ne_of_none e np)]
  exact e) np upd_same
theorem eqv_nil (ds : List PyData) : PyData.eqv (.list ds) (.list []) = ds.isEmpty := by
  cases ds <;> rfl
mutual
theorem eqv_rfl : ∀ d : PyData, d.hasDict = false → PyData.eqv d d = true
  | .none, _ => rfl
  | .bool b, _ => by cases b <;> rfl
  | .int i, _ => by
    show (i == i) = true
    exact beq_self_eq_true i
  | .str x, _ => by
    show (x == x) = true
    exact beq_self_eq_true x
  | .list ds, h => eqvAll_rfl ds h
  | .tuple ds, h => eqvAll_rfl ds h
  | .dict _, h => by cases h
theorem eqvAll_rfl : ∀ ds : List PyData, PyData.hasDictAll ds = false → PyData.eqvAll ds ds = true
  | [], _ => rfl
  | d :: ds, h => by
    have h' : (d.hasDict || PyData.hasDictAll ds) = false := h
    rw [Bool.or_eq_false_iff] at h'
    show (PyData.eqv d d && PyData.eqvAll ds ds) = true
    rw [eqv_rfl d h'.1, eqvAll_rfl ds h'.2]
    rfl
end
/-! ## the rules that lay an object, with the heap behind them a letter -/
def New (o : HO) (H : Hp) (Q : V → Hp → Prop) : Prop := ∀ p H', Same H H' → H p = none → H' p = some o → Q (.ref p) H'
section
variable {X : Cx} {es : List Expr} {t : TA} {pos : Pos}
def tLstN (t : TA) : TE := fun σ H Q => t σ H fun xs H1 => xs.length ≤ sizeLine ∧ New (.lst xs) H1 Q
def tTupN (t : TA) : TE := fun σ H Q => t σ H fun xs H1 => xs.length ≤ sizeLine ∧ New (.tup xs) H1 Q
theorem pe_lstN (h : PA X es t) : PE X (.List es pos) (tLstN t) := by
  constructor
  intro pins s σ H Q I hq
  refine wpAny_List_spliced (thn (h.run pos pins s σ H _ I hq) ?_)
  rintro us s1 ⟨xs, H1, I1, r, z, q⟩
  refine ⟨r.length ▸ z, ?_⟩
  have fresh : H1 s1.heap.objs.size = none := I1.hok.fresh (Nat.le_refl _)
  refine ⟨.ref s1.heap.objs.size, upd H1 s1.heap.objs.size (.lst xs), ?_, rfl, new_of q _ fresh⟩
  exact I1.laid (t' := s1.toks) (fun b u e => Heap.get?_push_of_some _ e) (Nat.le_refl _) ⟨z, us, 0, r, Heap.get?_push_size _ rfl⟩
theorem pe_tupN {x1} (h : PA X es t) : PE X (.Tuple es x1 pos) (tTupN t) := by
  constructor
  intro pins s σ H Q I hq
  refine wpAny_Tuple_spliced (thn (h.run pos pins s σ H _ I hq) ?_)
  rintro us s1 ⟨xs, H1, I1, r, z, q⟩
  refine ⟨r.length ▸ z, ?_⟩
  have fresh : H1 s1.heap.objs.size = none := I1.hok.fresh (Nat.le_refl _)
  refine ⟨.ref s1.heap.objs.size, upd H1 s1.heap.objs.size (.tup xs), ?_, rfl, new_of q _ fresh⟩
  exact I1.laid (t' := s1.toks) (fun b u e => Heap.get?_push_of_some _ e) (Nat.le_refl _) ⟨z, us, r, ⟨_, Heap.get?_push_size _ rfl, rfl, _, rfl⟩⟩
def rCatN : R2 := fun x y H Q => ∃ l b xs zs, x = .ref l ∧ y = .ref b ∧ H l = some (.lst xs) ∧ H b = some (.lst zs) ∧ xs.length + zs.length ≤ sizeLine ∧ New (.lst (xs ++ zs)) H Q
theorem op_catN : OpR X (binaryOp .Add) rCatN := by
  intro pins s σ H x y v u Q I rx ry h
  obtain ⟨l, b, xs, zs, h1, h2, h3, h4, h5, q⟩ := h
  exact op_cat pins s σ H x y v u Q I rx ry ⟨l, b, xs, zs, h1, h2, h3, h4, h5, new_of q⟩
def rRepN : R2 := fun x y H Q => ∃ l k xs, x = .ref l ∧ y = .int k ∧ H l = some (.lst xs) ∧ -(2 ^ 63) ≤ k ∧ k < 2 ^ 63 ∧ xs.length * k.toNat ≤ sizeLine ∧ New (.lst (List.replicate k.toNat xs).flatten) H Q
theorem op_repN : OpR X (binaryOp .Mult) rRepN := by
  intro pins s σ H x y v u Q I rx ry h
  obtain ⟨l, k, xs, h1, h2, h3, h4, h5, h6, q⟩ := h
  exact op_rep pins s σ H x y v u Q I rx ry ⟨l, k, xs, h1, h2, h3, h4, h5, h6, new_of q⟩
theorem call_tupleN : CallR X (.type "tuple") (fun xs H Q => ∃ p ys, xs = [.ref p] ∧ SqL X.K H p ys ∧ New (.tup ys) H Q) := by
  intro pins s σ H xs us Q I r h
  obtain ⟨p, ys, h1, h2, q⟩ := h
  exact call_tuple_of pins s σ H xs us Q I r ⟨p, ys, h1, .inl ⟨h2, new_of q⟩⟩
theorem call_listN : CallR X (.type "list") (fun xs H Q => ∃ p ys, xs = [.ref p] ∧ (SqL X.K H p ys ∨ SqT X.K H p ys) ∧ New (.lst ys) H Q) := by
  intro pins s σ H xs us Q I r h
  obtain ⟨p, ys, h1, h2, q⟩ := h
  exact call_list_of pins s σ H xs us Q I r ⟨p, ys, h1, h2, new_of q⟩
theorem sl_listN : SlR X (fun x lo hi H Q => ∃ a xs, x = .ref a ∧ SqL X.K H a xs ∧ New (.lst (cutV xs lo hi)) H Q) := by
  intro pins s σ H x v vl vu lo hi sl Q I rx hs pl pu h
  obtain ⟨a, xs, h1, h2, q⟩ := h
  exact sl_list pins s σ H x v vl vu lo hi sl Q I rx hs pl pu ⟨a, xs, h1, h2, new_of q⟩
end
end Lk
namespace DL
open PySem PySem.Spec PyProof.Rows L2 Lk
mutual
inductive Dq (K : PySem.W.Frag) (H : Hp) : V → PyData → Prop
  | non : Dq K H .non .none
  | bl (b : Bool) : Dq K H (.bl b) (.bool b)
  | int (i : Int) : Dq K H (.int i) (.int i)
  | str (x : Str) : Dq K H (.str x) (.str x)
  | lst {a : Addr} {xs : List V} {ds : List PyData} : SqL K H a xs → DqAll K H xs ds → Dq K H (.ref a) (.list ds)
  | tup {a : Addr} {xs : List V} {ds : List PyData} : SqT K H a xs → DqAll K H xs ds → Dq K H (.ref a) (.tuple ds)
inductive DqAll (K : PySem.W.Frag) (H : Hp) : List V → List PyData → Prop
  | nil : DqAll K H [] []
  | cons {v : V} {vs : List V} {d : PyData} {ds : List PyData} : Dq K H v d → DqAll K H vs ds → DqAll K H (v :: vs) (d :: ds)
end
theorem Same.rd {H H' : Hp} (s : Same H H') {a : Addr} {u : HO} (h : Rd H a u) : Rd H' a u := by
  rcases h with h | ⟨o, h⟩
  · exact .inl (s _ _ h)
  · exact .inr ⟨o, s _ _ h⟩
mutual
theorem Dq.sm {K : PySem.W.Frag} {H H' : Hp} {v : V} : ∀ {d : PyData}, Dq K H v d → Same H H' → Dq K H' v d
  | .none, h, _ => by cases h; exact .non
  | .bool _, h, _ => by cases h; exact .bl _
  | .int _, h, _ => by cases h; exact .int _
  | .str _, h, _ => by cases h; exact .str _
  | .list _, h, s => by
    cases h with
    | lst hs ha => exact .lst (s.seq hs) (ha.sm s)
  | .tuple _, h, s => by
    cases h with
    | tup hs ha => exact .tup (Lk.Same.tup s hs) (ha.sm s)
  | .dict _, h, _ => by cases h
theorem DqAll.sm {K : PySem.W.Frag} {H H' : Hp} {vs : List V} : ∀ {ds : List PyData}, DqAll K H vs ds → Same H H' → DqAll K H' vs ds
  | [], h, _ => by cases h; exact .nil
  | _ :: _, h, s => by
    cases h with
    | cons h1 h2 => exact .cons (h1.sm s) (h2.sm s)
end
mutual
theorem Dq.dp {K : PySem.W.Frag} {H : Hp} {v : V} : ∀ {d : PyData}, Dq K H v d → Dp K H v d
  | .none, h => by cases h; exact .non
  | .bool _, h => by cases h; exact .bl _
  | .int _, h => by cases h; exact .int _
  | .str _, h => by cases h; exact .str _
  | .list _, h => by
    cases h with
    | lst hs ha => exact .lst hs ha.dp
  | .tuple _, h => by
    cases h with
    | tup hs ha => exact .tup hs ha.dp
  | .dict _, h => by cases h
theorem DqAll.dp {K : PySem.W.Frag} {H : Hp} {vs : List V} : ∀ {ds : List PyData}, DqAll K H vs ds → DpAll K H vs ds
  | [], h => by cases h; exact .nil
  | _ :: _, h => by
    cases h with
    | cons h1 h2 => exact .cons h1.dp h2.dp
end
section
variable {K : PySem.W.Frag} {H : Hp}
theorem DqAll.length : ∀ {vs : List V} {ds : List PyData}, DqAll K H vs ds → vs.length = ds.length
  | _, [], h => by cases h; rfl
  | _, d :: ds, h => by
    cases h with
    | cons h1 h2 => rw [List.length_cons, List.length_cons, DqAll.length h2]
theorem DqAll.get : ∀ {vs : List V} {ds : List PyData} {i : Nat} {d : PyData}, DqAll K H vs ds → ds[i]? = some d → ∃ v, vs[i]? = some v ∧ Dq K H v d
  | _, [], i, v, h, e => by simp at e
  | _, d :: ds, 0, v, h, e => by
    cases h with
    | cons h1 h2 =>
      cases e
      exact ⟨_, rfl, h1⟩
  | _, d :: ds, i + 1, v, h, e => by
    cases h with
    | cons h1 h2 => exact DqAll.get (i := i) h2 (by simpa using e)
theorem DqAll.append : ∀ {vs ws : List V} {ds es : List PyData}, DqAll K H vs ds → DqAll K H ws es → DqAll K H (vs ++ ws) (ds ++ es)
  | _, _, [], _, h, t => by cases h; exact t
  | _, _, d :: ds, _, h, t => by
    cases h with
    | cons h1 h2 => exact .cons h1 (DqAll.append h2 t)
theorem DqAll.take : ∀ (n : Nat) {vs : List V} {ds : List PyData}, DqAll K H vs ds → DqAll K H (vs.take n) (ds.take n)
  | 0, _, _, _ => .nil
  | n + 1, _, [], h => by cases h; exact .nil
  | n + 1, _, d :: ds, h => by
    cases h with
    | cons h1 h2 => exact .cons h1 (DqAll.take n h2)
theorem DqAll.drop : ∀ (n : Nat) {vs : List V} {ds : List PyData}, DqAll K H vs ds → DqAll K H (vs.drop n) (ds.drop n)
  | 0, _, _, h => h
  | n + 1, _, [], h => by cases h; exact .nil
  | n + 1, _, d :: ds, h => by
    cases h with
    | cons h1 h2 => exact DqAll.drop n h2
theorem DqAll.set {v : V} {d : PyData} (hv : Dq K H v d) : ∀ {vs : List V} {ds : List PyData} (i : Nat), DqAll K H vs ds → DqAll K H (vs.set i v) (ds.set i d)
  | _, _, _, .nil => .nil
  | _, _, 0, .cons _ h2 => .cons hv h2
  | _, _, i + 1, .cons h1 h2 => .cons h1 (DqAll.set hv i h2)
theorem DqAll.reverse {vs : List V} : ∀ {ds : List PyData}, DqAll K H vs ds → DqAll K H vs.reverse ds.reverse
  | _, .nil => .nil
  | _, .cons h1 h2 => by
    rw [List.reverse_cons, List.reverse_cons]
    exact (DqAll.reverse h2).append (.cons h1 .nil)
theorem DqAll.dropLast {vs : List V} {ds : List PyData} (h : DqAll K H vs ds) : DqAll K H vs.dropLast ds.dropLast := by
  rw [List.dropLast_eq_take, List.dropLast_eq_take, h.length]
  exact h.take _
theorem DqAll.rep {vs : List V} {ds : List PyData} (h : DqAll K H vs ds) : ∀ n : Nat, DqAll K H (List.replicate n vs).flatten (List.replicate n ds).flatten
  | 0 => .nil
  | n + 1 => by
    rw [List.replicate_succ, List.replicate_succ, List.flatten_cons, List.flatten_cons]
    exact h.append (h.rep n)
theorem DqAll.ints : ∀ (ns : List Int), DqAll K H (ns.map V.int) (ns.map PyData.int)
  | [] => .nil
  | _ :: ns => .cons (.int _) (DqAll.ints ns)
theorem DqAll.of_ints : ∀ {vs : List V} {ns : List Int}, DqAll K H vs (ns.map PyData.int) → vs = ns.map V.int
  | _, [], h => by cases h; rfl
  | _, n :: ns, h => by
    cases h with
    | cons h1 h2 =>
      cases h1
      rw [DqAll.of_ints h2]
      rfl
theorem DqAll.of_bools : ∀ {vs : List V} {ns : List Bool}, DqAll K H vs (ns.map PyData.bool) → vs = ns.map V.bl
  | _, [], h => by cases h; rfl
  | _, n :: ns, h => by
    cases h with
    | cons h1 h2 =>
      cases h1
      rw [DqAll.of_bools h2]
      rfl
end
/-! ## names hold data -/
inductive Cel where
  | un | pl (d : PyData) | ow (ds : List PyData) | io (ds : List PyData)
abbrev En := List Cel
def Cel.own : Cel → Bool
  | .ow _ => true
  | .io _ => true
  | _ => false
inductive Out (α : Type) where
  | ok (a : α) (r : En) | ex (c : Str) (p : List PyData)
abbrev M (α : Type) := En → Option (Out α)
def M.ret {α : Type} (a : α) : M α := fun r => some (.ok a r)
def M.bind {α β : Type} (m : M α) (k : α → M β) : M β := fun r => match m r with
  | some (.ok a r') => k a r'
  | some (.ex c p) => some (.ex c p)
  | none => none
def M.lift {α : Type} (o : Option α) : M α := fun r => match o with
  | some a => some (.ok a r)
  | none => none
/-- the frame: the heap and the view at the entry, the lists that are handed in and changed -/
structure Fm where
  H0 : Hp
  G0 : Hp
  ios : Nat → Option Addr
abbrev Ow := Nat → Option Addr
structure Rp (K : PySem.W.Frag) (F : Fm) (O : Ow) (G : Hp) (σ : L2.St) (H : Hp) (r : En) : Prop where
  sub : Same G H
  len : σ.length = r.length
  pl : ∀ (i : Nat) (d : PyData), r[i]? = some (Cel.pl d) → ∃ v, σ[i]? = some (some v) ∧ Dq K G v d
  ow : ∀ (i : Nat) (ds : List PyData), r[i]? = some (Cel.ow ds) → ∃ p xs, O i = some p ∧ σ[i]? = some (some (.ref p)) ∧ F.H0 p = none ∧ H p = some (.lst xs) ∧ DqAll K G xs ds
  io : ∀ (i : Nat) (ds : List PyData), r[i]? = some (Cel.io ds) → ∃ p xs, F.ios i = some p ∧ O i = some p ∧ σ[i]? = some (some (.ref p)) ∧ H p = some (.lst xs) ∧ DqAll K G xs ds
  on : ∀ (i : Nat) (p : Addr), O i = some p → (∃ c, r[i]? = some c ∧ c.own = true) ∧ G p = none ∧ H p ≠ none ∧ (F.H0 p = none ∨ ∃ j, F.ios j = some p)
  inj : ∀ (i j : Nat) (p : Addr), O i = some p → O j = some p → i = j
  old : ∀ c o, F.H0 c = some o → (∀ i, F.ios i ≠ some c) → H c = some o
  nf : ∀ c, H c = none → F.H0 c = none
  g0 : Same F.G0 G
  gn : ∀ c, G c ≠ none → F.G0 c ≠ none ∨ F.H0 c = none
structure Go (O : Ow) (G H G' H' : Hp) : Prop where
  gg : Same G G'
  keep : ∀ c o, H c = some o → (∀ i, O i ≠ some c) → H' c = some o
  gn : ∀ c, G' c ≠ none → G c ≠ none ∨ H c = none
  nf : ∀ c, H' c = none → H c = none
/-- a step that writes nothing that was there -/
structure Ps (G H G' H' : Hp) : Prop where
  gg : Same G G'
  gh : Same G' H'
  hh : Same H H'
  gn : ∀ c, G' c ≠ none → G c ≠ none ∨ H c = none
theorem Go.refl {O : Ow} {G H : Hp} : Go O G H G H := ⟨Same.refl _, fun _ _ e _ => e, fun _ e => .inl e, fun _ e => e⟩
theorem Go.trans {O : Ow} {G H G1 H1 G2 H2 : Hp} (a : Go O G H G1 H1) (b : Go O G1 H1 G2 H2) : Go O G H G2 H2 :=
  ⟨a.gg.trans b.gg, fun c o e n => b.keep c o (a.keep c o e n) n, fun c e => by
    rcases b.gn c e with z | z
    · exact a.gn c z
    · exact .inr (a.nf c z), fun c e => a.nf c (b.nf c e)⟩
theorem Ps.go {O : Ow} {G H G' H' : Hp} (p : Ps G H G' H') : Go O G H G' H' := ⟨p.gg, fun c o e _ => p.hh c o e, p.gn, fun c e => p.hh.free e⟩
theorem Ps.refl {G H : Hp} (s : Same G H) : Ps G H G H := ⟨Same.refl _, s, Same.refl _, fun _ e => .inl e⟩
theorem Ps.trans {G H G1 H1 G2 H2 : Hp} (a : Ps G H G1 H1) (b : Ps G1 H1 G2 H2) : Ps G H G2 H2 :=
  ⟨a.gg.trans b.gg, b.gh, a.hh.trans b.hh, fun c e => by
    rcases b.gn c e with z | z
    · exact a.gn c z
    · exact .inr (a.hh.free z)⟩
theorem Ps.of_same {G H H' : Hp} (s : Same G H) (h : Same H H') : Ps G H G H' := ⟨Same.refl _, s.trans h, h, fun _ e => .inl e⟩
theorem some_ne {H : Hp} {c : Addr} {o : HO} (h : H c = some o) : H c ≠ none := by rw [h]; exact fun z => nomatch z
/-- a new object that is seen from now on -/
theorem same_new {H : Hp} {p : Addr} {o : HO} (h : H p = none) : Same H (upd H p o) := fun b x e => by
  rw [upd_ne (ne_of_none e h)]
  exact e
theorem Ps.new {G H H' : Hp} {p : Addr} {o : HO} (s : Same G H) (h : Same H H') (n : H p = none) (e : H' p = some o) : Ps G H (upd G p o) H' := by
  have gp : G p = none := s.free n
  refine ⟨same_new gp, fun c x q => ?_, h, fun c q => ?_⟩
  · by_cases z : c = p
    · subst z
      rw [upd_same] at q
      cases q
      exact e
    · rw [upd_ne z] at q
      exact h _ _ (s _ _ q)
  · by_cases z : c = p
    · subst z
      exact .inr n
    · rw [upd_ne z] at q
      exact .inl q
section
variable {K : PySem.W.Frag} {F : Fm} {O : Ow} {G G' H H' : Hp} {σ : L2.St} {r : En}
theorem Rp.ps (R : Rp K F O G σ H r) (p : Ps G H G' H') : Rp K F O G' σ H' r where
  sub := p.gh
  len := R.len
  pl := fun i d e => by
    obtain ⟨v, h1, h2⟩ := R.pl i d e
    exact ⟨v, h1, h2.sm p.gg⟩
  ow := fun i ds e => by
    obtain ⟨q, xs, h1, h2, h0, h3, h4⟩ := R.ow i ds e
    exact ⟨q, xs, h1, h2, h0, p.hh _ _ h3, h4.sm p.gg⟩
  io := fun i ds e => by
    obtain ⟨q, xs, h0, h1, h2, h3, h4⟩ := R.io i ds e
    exact ⟨q, xs, h0, h1, h2, p.hh _ _ h3, h4.sm p.gg⟩
  on := fun i q e => by
    obtain ⟨h1, h2, h3, h4⟩ := R.on i q e
    refine ⟨h1, ?_, ?_, h4⟩
    · cases z : G' q with
      | none => rfl
      | some o =>
        rcases p.gn q (some_ne z) with y | y
        · exact absurd h2 y
        · exact absurd y h3
    · cases z : H q with
      | none => exact absurd z h3
      | some o => exact some_ne (p.hh _ _ z)
  inj := R.inj
  old := fun c o e n => p.hh _ _ (R.old c o e n)
  nf := fun c e => R.nf c (p.hh.free e)
  g0 := R.g0.trans p.gg
  gn := fun c e => by
    rcases p.gn c e with z | z
    · exact R.gn c z
    · exact .inr (R.nf c z)
end
/-! ## what an expression gives -/
abbrev XE := Str → List PyData → Hp → Prop
abbrev XN : XE := fun _ _ _ => False
/-- the heap at the start, the frame, the view and the heap behind -/
abbrev RR (β α : Type) := Hp → Ow → Fm → Hp → Hp → β → α → Prop
class Anti {β α : Type} (R : RR β α) : Prop where
  anti : ∀ {S S' : Hp} {O : Ow} {F : Fm} {G H : Hp} {b : β} {a : α}, (∀ c, S' c = none → S c = none) → R S' O F G H b a → R S O F G H b a
def rD (K : PySem.W.Frag) : RR V PyData := fun _ _ _ G _ v d => Dq K G v d
instance {K : PySem.W.Frag} : Anti (rD K) := ⟨fun _ h => h⟩
def rA (K : PySem.W.Frag) : RR (List V) (List PyData) := fun _ _ _ G _ vs ds => DqAll K G vs ds
instance {K : PySem.W.Frag} : Anti (rA K) := ⟨fun _ h => h⟩
def rB : RR Bool Bool := fun _ _ _ _ _ b c => b = c
instance : Anti rB := ⟨fun _ h => h⟩
def rF (K : PySem.W.Frag) : RR V (List PyData) := fun S O F G H v ds => ∃ p xs, v = .ref p ∧ S p = none ∧ G p = none ∧ F.H0 p = none ∧ (∀ i, O i ≠ some p) ∧ H p = some (.lst xs) ∧ DqAll K G xs ds
instance {K : PySem.W.Frag} : Anti (rF K) := ⟨fun k ⟨p, xs, h1, h2, h⟩ => ⟨p, xs, h1, k _ h2, h⟩⟩
def Fin {α β : Type} (K : PySem.W.Frag) (E : XE) (R : RR β α) (F : Fm) (O : Ow) (G : Hp) (σ : L2.St) (H : Hp) (Q : β → Hp → Prop) : Out α → Prop
  | .ok a r' => ∀ b G' H', Rp K F O G' σ H' r' → Go O G H G' H' → R H O F G' H' b a → Q b H'
  | .ex c p => ∀ H', (∀ c o, F.H0 c = some o → (∀ i, F.ios i ≠ some c) → H' c = some o) → E c p H'
def tM {α β : Type} (K : PySem.W.Frag) (E : XE) (R : RR β α) (m : M α) : L2.St → Hp → (β → Hp → Prop) → Prop := fun σ H Q =>
  ∃ F O G r out, Rp K F O G σ H r ∧ m r = some out ∧ Fin K E R F O G σ H Q out
section
variable {K : PySem.W.Frag} {E : XE} {F : Fm} {O : Ow} {G G1 H H1 : Hp} {σ : L2.St} {r : En} {α β α1 β1 : Type} {R : RR β α} {R1 : RR β1 α1} {Q : β → Hp → Prop} {Q1 : β1 → Hp → Prop} {out : Out α}
theorem Fin.via [Anti R] (g : Go O G H G1 H1) (f : Fin K E R F O G σ H Q out) : Fin K E R F O G1 σ H1 Q out := by
  cases out with
  | ok a r' => exact fun b G' H' p q z => f b G' H' p (g.trans q) (Anti.anti g.nf z)
  | ex c p => exact f
theorem tM.run [Anti R] {m : M α1} {k : α1 → M α} (P : Rp K F O G σ H r) (f : Fin K E R F O G σ H Q out) (e : m.bind k r = some out)
    (h : ∀ a r1 b G1 H1, Rp K F O G1 σ H1 r1 → Go O G H G1 H1 → R1 H O F G1 H1 b a → k a r1 = some out → Fin K E R F O G1 σ H1 Q out → Q1 b H1) : tM K E R1 m σ H Q1 := by
  cases em : m r with
  | none =>
    rw [M.bind, em] at e
    cases e
  | some o =>
    cases o with
    | ok a r1 =>
      rw [M.bind, em] at e
      exact ⟨F, O, G, r, _, P, em, fun b G1 H1 P1 g1 q => h a r1 b G1 H1 P1 g1 q e (f.via g1)⟩
    | ex c p =>
      rw [M.bind, em] at e
      cases e
      exact ⟨F, O, G, r, _, P, em, f⟩
/-- the last step: by values -/
theorem Fin.ok {a : α} {r' : En} {b : β} {G' H' : Hp} (f : Fin K E R F O G σ H Q (.ok a r')) (p : Ps G H G' H') (P : Rp K F O G σ H r') (q : R H O F G' H' b a) : Q b H' := f b G' H' (P.ps p) p.go q
theorem lift_ok {o : Option α} (h : M.lift o r = some out) : ∃ a, o = some a ∧ out = .ok a r := by
  unfold M.lift at h
  cases o with
  | none => cases h
  | some a => exact ⟨a, rfl, (Option.some.inj h).symm⟩
end
/-! ## the judgements -/
structure DE (K : PySem.W.Frag) (E : XE) (X : Cx) (e : Expr) (m : M PyData) : Prop where
  pe : X.K = K → PE X e (tM K E (rD K) m)
structure DF (K : PySem.W.Frag) (E : XE) (X : Cx) (e : Expr) (m : M (List PyData)) : Prop where
  pe : X.K = K → PE X e (tM K E (rF K) m)
structure DA (K : PySem.W.Frag) (E : XE) (X : Cx) (es : List Expr) (m : M (List PyData)) : Prop where
  pa : X.K = K → PA X es (tM K E (rA K) m)
structure DT (K : PySem.W.Frag) (E : XE) (X : Cx) (e : Expr) (m : M Bool) : Prop where
  pt : X.K = K → PT X e (tM K E rB m)
structure DW (K : PySem.W.Frag) (E : XE) (X : Cx) (e : Expr) (m : M Bool) : Prop where
  pw : X.K = K → PW X e (tM K E rB m)
section
variable {X : Cx} {e : Expr} {es : List Expr}
theorem PE.imp {t t' : TE} (h : PE X e t) (i : ∀ σ H Q, t' σ H Q → t σ H Q) : PE X e t' := ⟨fun pins s σ H Q I q => h.run pins s σ H Q I (i _ _ _ q)⟩
theorem PT.imp {t t' : TT} (h : PT X e t) (i : ∀ σ H Q, t' σ H Q → t σ H Q) : PT X e t' := ⟨fun pins s σ H Q I q => h.run pins s σ H Q I (i _ _ _ q)⟩
theorem PW.imp {t t' : TT} (h : PW X e t) (i : ∀ σ H Q, t' σ H Q → t σ H Q) : PW X e t' := ⟨fun w pins s σ H Q I q => h.run w pins s σ H Q I (i _ _ _ q)⟩
theorem PA.imp {t t' : TA} (h : PA X es t) (i : ∀ σ H Q, t' σ H Q → t σ H Q) : PA X es t' := ⟨fun pos pins s σ H Q I q => h.run pos pins s σ H Q I (i _ _ _ q)⟩
end
/-! ## by values -/
def rPure (K : PySem.W.Frag) (g : List PyData → Option PyData) : List V → Hp → VK → Prop := fun vs H Q => ∃ G ds z, Same G H ∧ DqAll K G vs ds ∧ g ds = some z ∧ ∀ v G' H', Ps G H G' H' → Dq K G' v z → Q v H'
def rPure2 (K : PySem.W.Frag) (g : PyData → PyData → Option PyData) : R2 := fun x y H Q => ∃ G d e z, Same G H ∧ Dq K G x d ∧ Dq K G y e ∧ g d e = some z ∧ ∀ v G' H', Ps G H G' H' → Dq K G' v z → Q v H'
def rPure1 (K : PySem.W.Frag) (g : PyData → Option PyData) : V → Hp → VK → Prop := fun x H Q => ∃ G d z, Same G H ∧ Dq K G x d ∧ g d = some z ∧ ∀ v G' H', Ps G H G' H' → Dq K G' v z → Q v H'
/-- a call that lays a list: nobody else knows it -/
def rFresh (K : PySem.W.Frag) (g : List PyData → Option (List PyData)) : List V → Hp → VK → Prop := fun vs H Q => ∃ G ds zs, Same G H ∧ DqAll K G vs ds ∧ g ds = some zs ∧ ∀ p xs G' H', Ps G H G' H' → G' p = none → H p = none → H' p = some (.lst xs) → DqAll K G' xs zs → Q (.ref p) H'
def CallD (K : PySem.W.Frag) (X : Cx) (f : Value) (g : List PyData → Option PyData) : Prop := X.K = K → CallR X f (rPure K g)
def CallF (K : PySem.W.Frag) (X : Cx) (f : Value) (g : List PyData → Option (List PyData)) : Prop := X.K = K → CallR X f (rFresh K g)
def OpD (K : PySem.W.Frag) (X : Cx) (f : Value → Value → Sem Value) (g : PyData → PyData → Option PyData) : Prop := X.K = K → OpR X f (rPure2 K g)
def spD (K : PySem.W.Frag) (g : List PyData → Option PyData) : Sp := fun vs H Q _ => rPure K g vs H Q
def spF (K : PySem.W.Frag) (g : List PyData → Option (List PyData)) : Sp := fun vs H Q _ => rFresh K g vs H Q
/-- the first argument is a list that is changed -/
def spM (K : PySem.W.Frag) (g : List PyData → List PyData → Option (PyData × List PyData)) : Sp := fun vs H Q _ => ∃ G p xs ws bs ds z bs', vs = .ref p :: ws ∧ Same G H ∧ G p = none ∧ H p = some (.lst xs) ∧ DqAll K G xs bs ∧ DqAll K G ws ds ∧ g bs ds = some (z, bs') ∧
  ∀ v G' H' xs', Same G G' → Same G' H' → G' p = none → (∀ c o, c ≠ p → H c = some o → H' c = some o) → (∀ c, G' c ≠ none → G c ≠ none ∨ H c = none) → H' p = some (.lst xs') → DqAll K G' xs' bs' → Dq K G' v z → Q v H'
/-! ## expressions -/
def mV (i : Nat) : M PyData := fun r => match r[i]? with
  | some (Cel.pl d) => some (.ok d r)
  | _ => none
section
variable {K : PySem.W.Frag} {E : XE} {X : Cx} {a b e : Expr} {es : List Expr} {ma mb : M PyData} {pos : Pos}
theorem tM_of {α β : Type} {R : RR β α} {m : M α} {σ : L2.St} {H : Hp} {Q : β → Hp → Prop} (h : tM K E R m σ H Q) : ∃ F O G r out, Rp K F O G σ H r ∧ m r = some out ∧ Fin K E R F O G σ H Q out := h
theorem de_v (i : Nat) {x : Str} (hN : X.N[i]? = some x := by rfl) (hv : Vis X.env.scope x := by first | exact Or.inl rfl | exact Or.inr (Or.inl rfl) | exact Or.inr (Or.inr rfl)) (hd : (x == ("__debug__" : Str)) = false := by decide)
    (hcd : (x == ("__classdict__" : Str)) = false := by decide) : DE K E X (.Name x pos) (mV i) := ⟨fun _ => PE.imp (pe_var hN hv hd hcd) fun σ H Q ⟨F, O, G, r, out, P, em, f⟩ => by
  unfold mV at em
  split at em
  · rename_i d hd'
    cases em
    obtain ⟨v, h1, h2⟩ := P.pl i d hd'
    exact ⟨v, h1, f.ok (Ps.refl P.sub) P h2⟩
  · cases em⟩
theorem de_c {v : V} {d : PyData} (h : PE X e (tC v)) (hd : ∀ G, Dq K G v d) : DE K E X e (M.ret d) := ⟨fun _ => PE.imp h fun σ H Q ⟨F, O, G, r, out, P, em, f⟩ => by
  cases em
  exact f.ok (Ps.refl P.sub) P (hd G)⟩
theorem de_int {i : Int} {j} : DE K E X (.Constant (.int i) j pos) (M.ret (.int i)) := de_c pe_int fun _ => .int i
theorem de_bl {b : Bool} {j} : DE K E X (.Constant (.bool b) j pos) (M.ret (.bool b)) := de_c pe_bl fun _ => .bl b
theorem de_non {j} : DE K E X (.Constant .none j pos) (M.ret .none) := de_c pe_non fun _ => .non
theorem de_str {x : Str} {j} : DE K E X (.Constant (.str x) j pos) (M.ret (.str x)) := de_c pe_str fun _ => .str x
/-- a constant of the module -/
theorem de_g {x : Str} {v : V} {u : Value} {d : PyData} (hg : Gl X x) (hm : X.mg x = some u) (r : RelV v u) (hd : ∀ G, Dq K G v d) (hdb : (x == ("__debug__" : Str)) = false := by decide) : DE K E X (.Name x pos) (M.ret d) := de_c (pe_glob hg hm r hdb) hd
theorem da_nil : DA K E X [] (M.ret []) := ⟨fun _ => PA.imp pa_nil fun σ H Q ⟨F, O, G, r, out, P, em, f⟩ => by
  cases em
  exact f.ok (Ps.refl P.sub) P .nil⟩
theorem da_cons {m : M (List PyData)} (ha : DE K E X e ma) (hr : DA K E X es m) (hs : starEach (e :: es) X.env = (false, eval e X.env) :: starEach es X.env := by rfl) :
    DA K E X (e :: es) (ma.bind fun d => m.bind fun ds => M.ret (d :: ds)) := ⟨fun hK => PA.imp (pa_cons (ha.pe hK) (hr.pa hK) hs) fun σ H Q ⟨F, O, G, r, out, P, em, f⟩ => by
  refine tM.run P f em fun d r1 x G1 H1 P1 g1 q1 e1 f1 => ?_
  refine tM.run P1 f1 e1 fun ds r2 xs G2 H2 P2 g2 q2 e2 f2 => ?_
  cases e2
  exact f2.ok (Ps.refl P2.sub) P2 (.cons (q1.sm g2.gg) q2)⟩
theorem de_op {op : Operator} {g : PyData → PyData → Option PyData} (ho : OpD K X (binaryOp op) g) (ha : DE K E X a ma) (hb : DE K E X b mb) :
    DE K E X (.BinOp a op b pos) (ma.bind fun d => mb.bind fun e => M.lift (g d e)) := ⟨fun hK => PE.imp (pe_op (ho hK) (ha.pe hK) (hb.pe hK)) fun σ H Q ⟨F, O, G, r, out, P, em, f⟩ => by
  refine tM.run P f em fun d r1 x G1 H1 P1 g1 q1 e1 f1 => ?_
  refine tM.run P1 f1 e1 fun ds r2 y G2 H2 P2 g2 q2 e2 f2 => ?_
  obtain ⟨z, hz, rfl⟩ := lift_ok e2
  exact ⟨G2, _, _, z, P2.sub, q1.sm g2.gg, q2, hz, fun v G' H' p q => f2.ok p P2 q⟩⟩
theorem de_cmp {op : CmpOp} {g : PyData → PyData → Option PyData} (ho : OpD K X (compareOp op) g) (ha : DE K E X a ma) (hb : DE K E X b mb) (hm : behindInMarks op b = false) :
    DE K E X (.Compare a [op] [b] pos) (ma.bind fun d => mb.bind fun e => M.lift (g d e)) := ⟨fun hK => PE.imp (pe_cmpR (ho hK) (ha.pe hK) (hb.pe hK) hm) fun σ H Q ⟨F, O, G, r, out, P, em, f⟩ => by
  refine tM.run P f em fun d r1 x G1 H1 P1 g1 q1 e1 f1 => ?_
  refine tM.run P1 f1 e1 fun ds r2 y G2 H2 P2 g2 q2 e2 f2 => ?_
  obtain ⟨z, hz, rfl⟩ := lift_ok e2
  exact ⟨G2, _, _, z, P2.sub, q1.sm g2.gg, q2, hz, fun v G' H' p q => f2.ok p P2 q⟩⟩
def asBool : PyData → Option Bool
  | .bool b => some b
  | _ => none
theorem dp_bool {G : Hp} {v : V} {b : Bool} (h : Dq K G v (.bool b)) : v = .bl b := by cases h; rfl
theorem asBool_some {d : PyData} {b : Bool} (h : asBool d = some b) : d = .bool b := by
  cases d <;> first | (cases h; rfl) | cases h
/-- a value that is a bool, as a test -/
theorem dt_val (ha : DE K E X e ma) (he : ∀ whole, isTrue e X.env whole = (do let v ← whole; standAt e.pos; holding [v] (truthy v)) := by intro _; rfl) : DT K E X e (ma.bind fun d => M.lift (asBool d)) :=
  ⟨fun hK => PT.imp (pt_val (ha.pe hK) he) fun σ H Q ⟨F, O, G, r, out, P, em, f⟩ => by
  refine tM.run P f em fun d r1 x G1 H1 P1 g1 q1 e1 f1 => ?_
  obtain ⟨b, hb, rfl⟩ := lift_ok e1
  cases asBool_some hb
  exact ⟨b, dp_bool q1, f1.ok (Ps.refl P1.sub) P1 rfl⟩⟩
theorem dt_cmp {op : CmpOp} {g : PyData → PyData → Option PyData} (ho : OpD K X (compareOp op) g) (ha : DE K E X a ma) (hb : DE K E X b mb) (hm : behindInMarks op b = false) :
    DT K E X (.Compare a [op] [b] pos) (ma.bind fun d => mb.bind fun e => M.lift ((g d e).bind asBool)) := ⟨fun hK => PT.imp (pt_cmpR (ho hK) (ha.pe hK) (hb.pe hK) hm) fun σ H Q ⟨F, O, G, r, out, P, em, f⟩ => by
  refine tM.run P f em fun d r1 x G1 H1 P1 g1 q1 e1 f1 => ?_
  refine tM.run P1 f1 e1 fun ds r2 y G2 H2 P2 g2 q2 e2 f2 => ?_
  obtain ⟨c, hz, rfl⟩ := lift_ok e2
  obtain ⟨z, h1, h2⟩ := Option.bind_eq_some_iff.mp hz
  cases asBool_some h2
  exact ⟨G2, _, _, _, P2.sub, q1.sm g2.gg, q2, h1, fun v G' H' p q => ⟨c, dp_bool q, f2.ok p P2 rfl⟩⟩⟩
/-- and, or, not -/
def mAnd (m n : M Bool) : M Bool := m.bind fun b => if b then n else M.ret false
def mOr (m n : M Bool) : M Bool := m.bind fun b => if b then M.ret true else n
theorem dw_and1 {m : M Bool} (ha : DT K E X a m) : DW K E X (.BoolOp .And [a] pos) m := ⟨fun hK => pw_and1 (ha.pt hK)⟩
theorem dw_or1 {m : M Bool} (ha : DT K E X a m) : DW K E X (.BoolOp .Or [a] pos) m := ⟨fun hK => pw_or1 (ha.pt hK)⟩
theorem dw_and {m n : M Bool} (ha : DT K E X a m) (hb : DW K E X (.BoolOp .And (b :: es) pos) n) : DW K E X (.BoolOp .And (a :: b :: es) pos) (mAnd m n) :=
  ⟨fun hK => PW.imp (pw_and (ha.pt hK) (hb.pw hK)) fun σ H Q ⟨F, O, G, r, out, P, em, f⟩ => by
  refine tM.run P f em fun d r1 x G1 H1 P1 g1 q1 e1 f1 => ?_
  cases q1
  cases d with
  | true => exact iteT ⟨F, O, G1, r1, _, P1, e1, f1⟩
  | false =>
    cases e1
    exact iteF (f1.ok (Ps.refl P1.sub) P1 rfl)⟩
theorem dw_or {m n : M Bool} (ha : DT K E X a m) (hb : DW K E X (.BoolOp .Or (b :: es) pos) n) : DW K E X (.BoolOp .Or (a :: b :: es) pos) (mOr m n) :=
  ⟨fun hK => PW.imp (pw_or (ha.pt hK) (hb.pw hK)) fun σ H Q ⟨F, O, G, r, out, P, em, f⟩ => by
  refine tM.run P f em fun d r1 x G1 H1 P1 g1 q1 e1 f1 => ?_
  cases q1
  cases d with
  | true =>
    cases e1
    exact iteT (f1.ok (Ps.refl P1.sub) P1 rfl)
  | false => exact iteF ⟨F, O, G1, r1, _, P1, e1, f1⟩⟩
theorem DW.pt {m : M Bool} (h : DW K E X e m) : DT K E X e m := ⟨fun hK => (h.pw hK).pt⟩
theorem dt_not {m : M Bool} (ha : DT K E X a m) : DT K E X (.UnaryOp .Not a pos) (m.bind fun b => M.ret (!b)) := ⟨fun hK => PT.imp (pt_not (ha.pt hK)) fun σ H Q ⟨F, O, G, r, out, P, em, f⟩ => by
  refine tM.run P f em fun d r1 x G1 H1 P1 g1 q1 e1 f1 => ?_
  cases q1
  cases e1
  exact f1.ok (Ps.refl P1.sub) P1 rfl⟩
/-- .. as values -/
def mAndV (m n : M PyData) : M PyData := m.bind fun d => (M.lift (asBool d)).bind fun b => if b then n else M.ret (.bool false)
def mOrV (m n : M PyData) : M PyData := m.bind fun d => (M.lift (asBool d)).bind fun b => if b then M.ret (.bool true) else n
theorem bind_lift_ok {α β : Type} {o : Option α} {k : α → M β} {r : En} {out : Out β} (h : (M.lift o).bind k r = some out) : ∃ a, o = some a ∧ k a r = some out := by
  cases o with
  | none => cases h
  | some a => exact ⟨a, rfl, h⟩
theorem de_one {op} (h : DE K E X a ma) : DE K E X (.BoolOp op [a] pos) ma := ⟨fun hK => pe_one (h.pe hK)⟩
theorem de_and (ha : DE K E X a ma) (hb : DE K E X (.BoolOp .And (b :: es) pos) mb) : DE K E X (.BoolOp .And (a :: b :: es) pos) (mAndV ma mb) :=
  ⟨fun hK => PE.imp (pe_and (ha.pe hK) (hb.pe hK)) fun σ H Q ⟨F, O, G, r, out, P, em, f⟩ => by
  refine tM.run P f em fun d r1 x G1 H1 P1 g1 q1 e1 f1 => ?_
  obtain ⟨c, hc, e2⟩ := bind_lift_ok e1
  cases asBool_some hc
  refine ⟨c, dp_bool q1, ?_⟩
  cases c with
  | true => exact iteT ⟨F, O, G1, r1, _, P1, e2, f1⟩
  | false =>
    cases e2
    exact iteF (f1.ok (Ps.refl P1.sub) P1 (.bl _))⟩
theorem de_or (ha : DE K E X a ma) (hb : DE K E X (.BoolOp .Or (b :: es) pos) mb) : DE K E X (.BoolOp .Or (a :: b :: es) pos) (mOrV ma mb) :=
  ⟨fun hK => PE.imp (pe_or (ha.pe hK) (hb.pe hK)) fun σ H Q ⟨F, O, G, r, out, P, em, f⟩ => by
  refine tM.run P f em fun d r1 x G1 H1 P1 g1 q1 e1 f1 => ?_
  obtain ⟨c, hc, e2⟩ := bind_lift_ok e1
  cases asBool_some hc
  refine ⟨c, dp_bool q1, ?_⟩
  cases c with
  | true =>
    cases e2
    exact iteT (f1.ok (Ps.refl P1.sub) P1 (.bl _))
  | false => exact iteF ⟨F, O, G1, r1, _, P1, e2, f1⟩⟩
theorem de_not (ha : DE K E X a ma) : DE K E X (.UnaryOp .Not a pos) (ma.bind fun d => (M.lift (asBool d)).bind fun b => M.ret (.bool (!b))) := ⟨fun hK => PE.imp (pe_not (ha.pe hK)) fun σ H Q ⟨F, O, G, r, out, P, em, f⟩ => by
  refine tM.run P f em fun d r1 x G1 H1 P1 g1 q1 e1 f1 => ?_
  obtain ⟨c, hc, e2⟩ := bind_lift_ok e1
  cases asBool_some hc
  cases e2
  exact ⟨c, dp_bool q1, f1.ok (Ps.refl P1.sub) P1 (.bl _)⟩⟩
def mIf {α : Type} (c : M Bool) (m n : M α) : M α := c.bind fun b => if b then m else n
theorem de_if {c : Expr} {mc : M Bool} (hc : DT K E X c mc) (ha : DE K E X a ma) (hb : DE K E X b mb) : DE K E X (.IfExp c a b pos) (mIf mc ma mb) :=
  ⟨fun hK => PE.imp (pe_ifExp (hc.pt hK) (ha.pe hK) (hb.pe hK)) fun σ H Q ⟨F, O, G, r, out, P, em, f⟩ => by
  refine tM.run P f em fun d r1 x G1 H1 P1 g1 q1 e1 f1 => ?_
  cases q1
  cases d with
  | true => exact iteT ⟨F, O, G1, r1, _, P1, e1, f1⟩
  | false => exact iteF ⟨F, O, G1, r1, _, P1, e1, f1⟩⟩
end
end DL
namespace DL
open PySem PySem.Spec PyProof.Rows L2 Lk
/-! ## displays -/
def tupM (ds : List PyData) : Option PyData := if ds.length ≤ 1000000 then some (.tuple ds) else none
def lstM (ds : List PyData) : Option (List PyData) := if ds.length ≤ 1000000 then some ds else none
theorem line_le {n : Nat} (h : n ≤ 1000000) : n ≤ sizeLine := by
  have : sizeLine = 2 ^ 24 := rfl
  omega
theorem line_lt {n : Nat} (h : n ≤ 1000000) : n < sizeLine := by
  have : sizeLine = 2 ^ 24 := rfl
  omega
def M.map {α β : Type} (f : α → β) (m : M α) : M β := m.bind fun a => M.ret (f a)
section
variable {K : PySem.W.Frag} {E : XE} {X : Cx} {a b e : Expr} {es : List Expr} {ma mb : M PyData} {m : M (List PyData)} {pos : Pos}
theorem de_tup {x1} (h : DA K E X es m) : DE K E X (.Tuple es x1 pos) (m.bind fun ds => M.lift (tupM ds)) := ⟨fun hK => PE.imp (pe_tupN (h.pa hK)) fun σ H Q ⟨F, O, G, r, out, P, em, f⟩ => by
  refine tM.run P f em fun ds r1 xs G1 H1 P1 g1 q1 e1 f1 => ?_
  obtain ⟨z, hz, rfl⟩ := lift_ok e1
  unfold tupM at hz
  split at hz
  · rename_i hl
    cases hz
    rw [← q1.length] at hl
    exact ⟨line_le hl, fun p H2 s n e2 => f1.ok (Ps.new P1.sub s n e2) P1 (.tup (.inl (.inl upd_same)) (q1.sm (same_new (P1.sub.free n))))⟩
  · cases hz⟩
theorem df_lst (h : DA K E X es m) : DF K E X (.List es pos) (m.bind fun ds => M.lift (lstM ds)) := ⟨fun hK => PE.imp (pe_lstN (h.pa hK)) fun σ H Q ⟨F, O, G, r, out, P, em, f⟩ => by
  refine tM.run P f em fun ds r1 xs G1 H1 P1 g1 q1 e1 f1 => ?_
  obtain ⟨z, hz, rfl⟩ := lift_ok e1
  unfold lstM at hz
  split at hz
  · rename_i hl
    cases hz
    rw [← q1.length] at hl
    refine ⟨line_le hl, fun p H2 s n e2 => f1.ok (Ps.of_same P1.sub s) P1 ⟨p, xs, rfl, n, P1.sub.free n, P1.nf _ n, fun i z => ?_, e2, q1⟩⟩
    exact (P1.on i p z).2.2.1 n
  · cases hz⟩
theorem Rp.see {F : Fm} {O : Ow} {G H : Hp} {σ : L2.St} {r : En} {p : Addr} {xs : List V} (R : Rp K F O G σ H r) (h : H p = some (.lst xs)) (g : G p = none) (h0 : F.H0 p = none) (o : ∀ i, O i ≠ some p) : Rp K F O (upd G p (.lst xs)) σ H r where
  sub := fun c x q => by
    by_cases z : c = p
    · subst z
      rw [upd_same] at q
      cases q
      exact h
    · rw [upd_ne z] at q
      exact R.sub _ _ q
  len := R.len
  pl := fun i d e => by
    obtain ⟨v, h1, h2⟩ := R.pl i d e
    exact ⟨v, h1, h2.sm (same_new g)⟩
  ow := fun i ds e => by
    obtain ⟨q, xs, h1, h2, h0, h3, h4⟩ := R.ow i ds e
    exact ⟨q, xs, h1, h2, h0, h3, h4.sm (same_new g)⟩
  io := fun i ds e => by
    obtain ⟨q, xs, h0, h1, h2, h3, h4⟩ := R.io i ds e
    exact ⟨q, xs, h0, h1, h2, h3, h4.sm (same_new g)⟩
  on := fun i q e => by
    obtain ⟨h1, h2, h3, h4⟩ := R.on i q e
    refine ⟨h1, ?_, h3, h4⟩
    rw [upd_ne fun z => o i (by rw [e, z])]
    exact h2
  inj := R.inj
  old := R.old
  nf := R.nf
  g0 := R.g0.trans (same_new g)
  gn := fun c e => by
    by_cases z : c = p
    · exact .inr (by rw [z]; exact h0)
    · rw [upd_ne z] at e
      exact R.gn c e
/-- a new list, seen from now on -/
theorem de_fr (h : DF K E X e m) : DE K E X e (m.map PyData.list) := ⟨fun hK => PE.imp (h.pe hK) fun σ H Q ⟨F, O, G, r, out, P, em, f⟩ => by
  refine tM.run P f em fun ds r1 v G1 H1 P1 g1 q1 e1 f1 => ?_
  cases e1
  obtain ⟨p, xs, rfl, hs, hg, h0, ho, hp, ha⟩ := q1
  cases em2 : m r with
  | none =>
    rw [M.map, M.bind, em2] at em
    cases em
  | some o =>
    cases o with
    | ex c z =>
      rw [M.map, M.bind, em2] at em
      cases em
    | ok ds' r' =>
      rw [M.map, M.bind, em2] at em
      cases em
      refine f _ _ _ (P1.see hp hg h0 ho) ?_ (.lst (.inl (.inl upd_same)) (ha.sm (same_new hg)))
      refine ⟨g1.gg.trans (same_new hg), g1.keep, fun c e => ?_, g1.nf⟩
      by_cases z : c = p
      · rw [z]
        exact .inr hs
      · rw [upd_ne z] at e
        exact g1.gn c e⟩
/-! ## calls -/
theorem de_call {x : Str} {p : Pos} {k : Nat} {f : Addr} {fd : FuncData} {ps : List Str} {g : List PyData → Option PyData} (Fk : FnOk X.prog X.w K X.mg X.base CX0 k f fd ps (spD K g)) (hb : Binds K fd ps []) (hm : X.mg x = some (.ref f)) (hk : PySem.W.keepIn K (.ref f) = true) (hr : Room k X.A) (hg : Gl X x)
    (ha : DA K E X (e :: es) m) (hdb : (x == ("__debug__" : Str)) = false := by decide) (he : starEach (e :: es) X.env = (false, eval e X.env) :: starEach es X.env := by rfl)
    (hpl : (backTo pos (starEach es X.env)).any (·.1) = false := by rfl) : DE K E X (.Call (.Name x p) (e :: es) [] pos) (m.bind fun ds => M.lift (g ds)) := ⟨fun hK => by
  subst hK
  refine PE.imp (pe_call (E := E0) Fk hr hg hm hk hb .nil pass0 (ha.pa rfl) hdb he hpl) fun σ H Q ⟨F, O, G, r, out, P, em, f⟩ => ?_
  refine tM.run P f em fun ds r1 xs G1 H1 P1 g1 q1 e1 f1 => ?_
  obtain ⟨z, hz, rfl⟩ := lift_ok e1
  rw [List.append_nil]
  exact ⟨G1, ds, z, P1.sub, q1, hz, fun v G' H' p q => f1.ok p P1 q⟩⟩
theorem de_call0 {x : Str} {p : Pos} {k : Nat} {f : Addr} {fd : FuncData} {ps : List Str} {g : List PyData → Option PyData} (Fk : FnOk X.prog X.w K X.mg X.base CX0 k f fd ps (spD K g)) (hb : Binds K fd ps []) (hm : X.mg x = some (.ref f)) (hk : PySem.W.keepIn K (.ref f) = true) (hr : Room k X.A) (hg : Gl X x)
    (hdb : (x == ("__debug__" : Str)) = false := by decide) : DE K E X (.Call (.Name x p) [] [] pos) (M.lift (g [])) := ⟨fun hK => by
  subst hK
  refine PE.imp (pe_call0 (E := E0) Fk hr hg hm hk hb .nil pass0 hdb) fun σ H Q ⟨F, O, G, r, out, P, em, f⟩ => ?_
  obtain ⟨z, hz, rfl⟩ := lift_ok em
  exact ⟨G, [], z, P.sub, .nil, hz, fun v G' H' p q => f.ok p P q⟩⟩
theorem df_call {x : Str} {p : Pos} {k : Nat} {f : Addr} {fd : FuncData} {ps : List Str} {g : List PyData → Option (List PyData)} (Fk : FnOk X.prog X.w K X.mg X.base CX0 k f fd ps (spF K g)) (hb : Binds K fd ps []) (hm : X.mg x = some (.ref f)) (hk : PySem.W.keepIn K (.ref f) = true) (hr : Room k X.A) (hg : Gl X x)
    (ha : DA K E X (e :: es) m) (hdb : (x == ("__debug__" : Str)) = false := by decide) (he : starEach (e :: es) X.env = (false, eval e X.env) :: starEach es X.env := by rfl)
    (hpl : (backTo pos (starEach es X.env)).any (·.1) = false := by rfl) : DF K E X (.Call (.Name x p) (e :: es) [] pos) (m.bind fun ds => M.lift (g ds)) := ⟨fun hK => by
  subst hK
  refine PE.imp (pe_call (E := E0) Fk hr hg hm hk hb .nil pass0 (ha.pa rfl) hdb he hpl) fun σ H Q ⟨F, O, G, r, out, P, em, f⟩ => ?_
  refine tM.run P f em fun ds r1 xs G1 H1 P1 g1 q1 e1 f1 => ?_
  obtain ⟨z, hz, rfl⟩ := lift_ok e1
  rw [List.append_nil]
  exact ⟨G1, ds, z, P1.sub, q1, hz, fun p ys G' H' ps gp hp e2 q => f1.ok ps P1 ⟨p, ys, rfl, hp, gp, P1.nf _ hp, fun i z => (P1.on i p z).2.2.1 hp, e2, q⟩⟩⟩
theorem de_callB {x : Str} {p : Pos} {id : String} {g : List PyData → Option PyData} (hc : CallD K X (.builtin id) g) (hg : Gl X x) (hm : X.mg x = none) (hv : bootBuiltins x = some (.builtin id)) (ha : DA K E X (e :: es) m) (hn : x ≠ "__name__" := by decide) (hdb : (x == ("__debug__" : Str)) = false := by decide)
    (he : starEach (e :: es) X.env = (false, eval e X.env) :: starEach es X.env := by rfl) (hpl : (backTo pos (starEach es X.env)).any (·.1) = false := by rfl) : DE K E X (.Call (.Name x p) (e :: es) [] pos) (m.bind fun ds => M.lift (g ds)) := ⟨fun hK => by
  refine PE.imp (pe_callB (hc hK) hg hm hv (ha.pa hK) hn hdb he hpl) fun σ H Q ⟨F, O, G, r, out, P, em, f⟩ => ?_
  refine tM.run P f em fun ds r1 xs G1 H1 P1 g1 q1 e1 f1 => ?_
  obtain ⟨z, hz, rfl⟩ := lift_ok e1
  exact ⟨G1, ds, z, P1.sub, q1, hz, fun v G' H' p q => f1.ok p P1 q⟩⟩
theorem de_callTy {x : Str} {p : Pos} {T : String} {g : List PyData → Option PyData} (hc : CallD K X (.type T) g) (hg : Gl X x) (hm : X.mg x = none) (hv : bootBuiltins x = some (.type T)) (ha : DA K E X (e :: es) m) (hn : x ≠ "__name__" := by decide) (hdb : (x == ("__debug__" : Str)) = false := by decide)
    (he : starEach (e :: es) X.env = (false, eval e X.env) :: starEach es X.env := by rfl) (hpl : (backTo pos (starEach es X.env)).any (·.1) = false := by rfl) : DE K E X (.Call (.Name x p) (e :: es) [] pos) (m.bind fun ds => M.lift (g ds)) := ⟨fun hK => by
  refine PE.imp (pe_callTy (hc hK) hg hm hv (ha.pa hK) hn hdb he hpl) fun σ H Q ⟨F, O, G, r, out, P, em, f⟩ => ?_
  refine tM.run P f em fun ds r1 xs G1 H1 P1 g1 q1 e1 f1 => ?_
  obtain ⟨z, hz, rfl⟩ := lift_ok e1
  exact ⟨G1, ds, z, P1.sub, q1, hz, fun v G' H' p q => f1.ok p P1 q⟩⟩
theorem df_callB {x : Str} {p : Pos} {id : String} {g : List PyData → Option (List PyData)} (hc : CallF K X (.builtin id) g) (hg : Gl X x) (hm : X.mg x = none) (hv : bootBuiltins x = some (.builtin id)) (ha : DA K E X (e :: es) m) (hn : x ≠ "__name__" := by decide) (hdb : (x == ("__debug__" : Str)) = false := by decide)
    (he : starEach (e :: es) X.env = (false, eval e X.env) :: starEach es X.env := by rfl) (hpl : (backTo pos (starEach es X.env)).any (·.1) = false := by rfl) : DF K E X (.Call (.Name x p) (e :: es) [] pos) (m.bind fun ds => M.lift (g ds)) := ⟨fun hK => by
  refine PE.imp (pe_callB (hc hK) hg hm hv (ha.pa hK) hn hdb he hpl) fun σ H Q ⟨F, O, G, r, out, P, em, f⟩ => ?_
  refine tM.run P f em fun ds r1 xs G1 H1 P1 g1 q1 e1 f1 => ?_
  obtain ⟨z, hz, rfl⟩ := lift_ok e1
  exact ⟨G1, ds, z, P1.sub, q1, hz, fun p ys G' H' ps gp hp e2 q => f1.ok ps P1 ⟨p, ys, rfl, hp, gp, P1.nf _ hp, fun i z => (P1.on i p z).2.2.1 hp, e2, q⟩⟩⟩
theorem df_callTy {x : Str} {p : Pos} {T : String} {g : List PyData → Option (List PyData)} (hc : CallF K X (.type T) g) (hg : Gl X x) (hm : X.mg x = none) (hv : bootBuiltins x = some (.type T)) (ha : DA K E X (e :: es) m) (hn : x ≠ "__name__" := by decide) (hdb : (x == ("__debug__" : Str)) = false := by decide)
    (he : starEach (e :: es) X.env = (false, eval e X.env) :: starEach es X.env := by rfl) (hpl : (backTo pos (starEach es X.env)).any (·.1) = false := by rfl) : DF K E X (.Call (.Name x p) (e :: es) [] pos) (m.bind fun ds => M.lift (g ds)) := ⟨fun hK => by
  refine PE.imp (pe_callTy (hc hK) hg hm hv (ha.pa hK) hn hdb he hpl) fun σ H Q ⟨F, O, G, r, out, P, em, f⟩ => ?_
  refine tM.run P f em fun ds r1 xs G1 H1 P1 g1 q1 e1 f1 => ?_
  obtain ⟨z, hz, rfl⟩ := lift_ok e1
  exact ⟨G1, ds, z, P1.sub, q1, hz, fun p ys G' H' ps gp hp e2 q => f1.ok ps P1 ⟨p, ys, rfl, hp, gp, P1.nf _ hp, fun i z => (P1.on i p z).2.2.1 hp, e2, q⟩⟩⟩
/-- isinstance(e, T) -/
theorem de_isi {T : Str} {n : String} {p p2 : Pos} (hT : n ∈ ["int", "bool", "list", "tuple", "str"]) (hg : Gl X "isinstance") (hm : X.mg "isinstance" = none) (hgT : Gl X T) (hmT : X.mg T = none) (hvT : bootBuiltins T = some (.type n)) (ha : DE K E X e ma) (hn : T ≠ "__name__" := by decide) (hdb : (T == ("__debug__" : Str)) = false := by decide)
    (hs1 : starEach [e, .Name T p2] X.env = (false, eval e X.env) :: starEach [.Name T p2] X.env := by rfl) (hs2 : starEach [.Name T p2] X.env = (false, eval (.Name T p2) X.env) :: starEach [] X.env := by rfl) (hpl : (backTo pos (starEach [.Name T p2] X.env)).any (·.1) = false := by rfl) :
    DE K E X (.Call (.Name "isinstance" p) [e, .Name T p2] [] pos) (ma.bind fun d => M.ret (.bool (isTy n d))) := ⟨fun hK => by
  refine PE.imp (pe_callB (call_isiDK (K := K) n hK hT) hg hm (by decide +kernel) (pa_cons (ha.pe hK) (pa_cons (pe_bltn (v := .ty n) hgT hmT hvT rfl hn hdb) pa_nil hs2) hs1) (by decide) (by decide) hs1 hpl) fun σ H Q ⟨F, O, G, r, out, P, em, f⟩ => ?_
  refine tM.run P f em fun d r1 x G1 H1 P1 g1 q1 e1 f1 => ?_
  cases e1
  exact ⟨x, d, rfl, (q1.sm P1.sub).dp, f1.ok (Ps.refl P1.sub) P1 (.bl _)⟩⟩
/-! ## places -/
def IxD (K : PySem.W.Frag) (X : Cx) (g : PyData → PyData → Option PyData) : Prop := X.K = K → IxR X (rPure2 K g)
theorem de_ix {g : PyData → PyData → Option PyData} (hr : IxD K X g) (ha : DE K E X a ma) (hb : DE K E X b mb) (hs : PlainIx b) : DE K E X (.Subscript a b pos) (ma.bind fun d => mb.bind fun e => M.lift (g d e)) := ⟨fun hK => PE.imp (pe_ix (hr hK) (ha.pe hK) (hb.pe hK) hs) fun σ H Q ⟨F, O, G, r, out, P, em, f⟩ => by
  refine tM.run P f em fun d r1 x G1 H1 P1 g1 q1 e1 f1 => ?_
  refine tM.run P1 f1 e1 fun ds r2 y G2 H2 P2 g2 q2 e2 f2 => ?_
  obtain ⟨z, hz, rfl⟩ := lift_ok e2
  exact ⟨G2, _, _, z, P2.sub, q1.sm g2.gg, q2, hz, fun v G' H' p q => f2.ok p P2 q⟩⟩
def ixM : PyData → PyData → Option PyData
  | .list ds, .int i => atI ds i
  | .tuple ds, .int i => atI ds i
  | _, _ => none
theorem atI_dq {G : Hp} {vs : List V} {ds : List PyData} {i : Int} {d : PyData} (h : DqAll K G vs ds) (e : atI ds i = some d) : ∃ v, atI vs i = some v ∧ Dq K G v d := by
  unfold atI at e ⊢
  rw [h.length]
  obtain ⟨j, h1, h2⟩ := Option.bind_eq_some_iff.mp e
  obtain ⟨v, h3, h4⟩ := h.get h2
  exact ⟨v, by rw [h1]; exact h3, h4⟩
theorem ixd : IxD K X ixM := fun hK => by
  subst hK
  intro val sl pins s σ H x y v u Q I rx ry h hps
  obtain ⟨G, d, e, z, sg, hd, he, hz, q⟩ := h
  cases d with
  | list ds =>
    cases e with
    | int i =>
      cases hd with
      | lst hs ha =>
        cases he
        obtain ⟨w, h1, h2⟩ := atI_dq ha hz
        exact ix_list val sl pins s σ H _ _ v u Q I rx ry ⟨_, _, _, w, rfl, rfl, (sg.seq hs), h1, q w G H (Ps.refl sg) h2⟩ hps
    | _ => cases hz
  | tuple ds =>
    cases e with
    | int i =>
      cases hd with
      | tup hs ha =>
        cases he
        obtain ⟨w, h1, h2⟩ := atI_dq ha hz
        exact ix_tup val sl pins s σ H _ _ v u Q I rx ry ⟨_, _, _, w, rfl, rfl, Lk.Same.tup sg hs, h1, q w G H (Ps.refl sg) h2⟩ hps
    | _ => cases hz
  | _ => cases hz
/-- a slice -/
structure DO (K : PySem.W.Frag) (E : XE) (X : Cx) (e : Option Expr) (m : M (Option Int)) : Prop where
  po : X.K = K → PO X e (tM K E (fun _ _ _ _ _ (b c : Option Int) => b = c) m)
instance : Anti (fun _ _ _ _ _ (b c : Option Int) => b = c) := ⟨fun _ h => h⟩
def asInt : PyData → Option Int
  | .int i => some i
  | _ => none
theorem asInt_some {d : PyData} {i : Int} (h : asInt d = some i) : d = .int i := by
  cases d <;> first | (cases h; rfl) | cases h
theorem PO.imp {e : Option Expr} {t t' : TO} (h : PO X e t) (i : ∀ σ H Q, t' σ H Q → t σ H Q) : PO X e t' := ⟨fun pins s σ H Q I q => h.run pins s σ H Q I (i _ _ _ q)⟩
theorem do_none : DO K E X none (M.ret none) := ⟨fun _ => PO.imp po_none fun σ H Q ⟨F, O, G, r, out, P, em, f⟩ => by
  cases em
  exact f.ok (Ps.refl P.sub) P rfl⟩
theorem do_some (ha : DE K E X e ma) : DO K E X (some e) (ma.bind fun d => M.lift ((asInt d).map some)) := ⟨fun hK => PO.imp (po_some (ha.pe hK)) fun σ H Q ⟨F, O, G, r, out, P, em, f⟩ => by
  refine tM.run P f em fun d r1 x G1 H1 P1 g1 q1 e1 f1 => ?_
  obtain ⟨z, hz, rfl⟩ := lift_ok e1
  obtain ⟨i, hi, rfl⟩ := Option.map_eq_some_iff.mp hz
  cases asInt_some hi
  cases q1
  exact ⟨i, rfl, f1.ok (Ps.refl P1.sub) P1 rfl⟩⟩
def cutD (xs : List PyData) (lo hi : Option Int) : List PyData := (xs.drop (HT.sIx xs.length 0 lo)).take (HT.sIx xs.length xs.length hi - HT.sIx xs.length 0 lo)
theorem DqAll.cut {G : Hp} {vs : List V} {ds : List PyData} (h : DqAll K G vs ds) (lo hi : Option Int) : DqAll K G (cutV vs lo hi) (cutD ds lo hi) := by
  unfold cutV cutD
  rw [h.length]
  exact (h.drop _).take _
def asList : PyData → Option (List PyData)
  | .list ds => some ds
  | _ => none
theorem asList_some {d : PyData} {ds : List PyData} (h : asList d = some ds) : d = .list ds := by
  cases d <;> first | (cases h; rfl) | cases h
theorem df_slice {lo hi : Option Expr} {ml mh : M (Option Int)} {p2 : Pos} (ha : DE K E X e ma) (hl : DO K E X lo ml) (hh : DO K E X hi mh) :
    DF K E X (.Subscript e (.Slice lo hi none p2) pos) (ma.bind fun d => ml.bind fun l => mh.bind fun h => M.lift ((asList d).map fun ds => cutD ds l h)) := ⟨fun hK => by
  subst hK
  refine PE.imp (pe_slice sl_listN (ha.pe rfl) (hl.po rfl) (hh.po rfl)) fun σ H Q ⟨F, O, G, r, out, P, em, f⟩ => ?_
  refine tM.run P f em fun d r1 x G1 H1 P1 g1 q1 e1 f1 => ?_
  refine tM.run P1 f1 e1 fun l r2 l' G2 H2 P2 g2 q2 e2 f2 => ?_
  refine tM.run P2 f2 e2 fun h r3 h' G3 H3 P3 g3 q3 e3 f3 => ?_
  cases q2
  cases q3
  obtain ⟨z, hz, rfl⟩ := lift_ok e3
  obtain ⟨ds, hd, rfl⟩ := Option.map_eq_some_iff.mp hz
  cases asList_some hd
  have q1' := (q1.sm g2.gg).sm g3.gg
  cases q1' with
  | lst hs hx => exact ⟨_, _, rfl, (P3.sub.seq hs), fun p H4 s n e4 => f3.ok (Ps.of_same P3.sub s) P3 ⟨p, _, rfl, n, P3.sub.free n, P3.nf _ n, fun i z => (P3.on i p z).2.2.1 n, e4, hx.cut _ _⟩⟩⟩
def asTup : PyData → Option (List PyData)
  | .tuple ds => some ds
  | _ => none
theorem asTup_some {d : PyData} {ds : List PyData} (h : asTup d = some ds) : d = .tuple ds := by
  cases d <;> first | (cases h; rfl) | cases h
theorem de_sliceT {lo hi : Option Expr} {ml mh : M (Option Int)} {p2 : Pos} (ha : DE K E X e ma) (hl : DO K E X lo ml) (hh : DO K E X hi mh) :
    DE K E X (.Subscript e (.Slice lo hi none p2) pos) (ma.bind fun d => ml.bind fun l => mh.bind fun h => M.lift ((asTup d).bind fun ds => if HT.sIx ds.length 0 l = 0 ∧ HT.sIx ds.length ds.length h = ds.length then none else some (.tuple (cutD ds l h)))) := ⟨fun hK => by
  subst hK
  refine PE.imp (pe_slice sl_tup (ha.pe rfl) (hl.po rfl) (hh.po rfl)) fun σ H Q ⟨F, O, G, r, out, P, em, f⟩ => ?_
  refine tM.run P f em fun d r1 x G1 H1 P1 g1 q1 e1 f1 => ?_
  refine tM.run P1 f1 e1 fun l r2 l' G2 H2 P2 g2 q2 e2 f2 => ?_
  refine tM.run P2 f2 e2 fun h r3 h' G3 H3 P3 g3 q3 e3 f3 => ?_
  cases q2
  cases q3
  obtain ⟨z, hz, rfl⟩ := lift_ok e3
  obtain ⟨ds, hd, hz2⟩ := Option.bind_eq_some_iff.mp hz
  cases asTup_some hd
  split at hz2
  · cases hz2
  rename_i hw
  cases hz2
  have q1' := (q1.sm g2.gg).sm g3.gg
  cases q1' with
  | tup hs hx => exact ⟨_, _, rfl, Lk.Same.tup P3.sub hs, by rw [hx.length]; exact hw, fun p n => f3.ok (Ps.new P3.sub (same_new n) n upd_same) P3 (.tup (.inl (.inl upd_same)) ((hx.cut _ _).sm (same_new (P3.sub.free n))))⟩⟩
end
end DL
namespace DL
open PySem PySem.Spec PyProof.Rows L2 Lk
/-! ## operators -/
section
variable {K : PySem.W.Frag} {X : Cx}
theorem Inv.rdl {pins : List (Addr × Obj)} {σ : L2.St} {H : Hp} {s : Shared} {l : Addr} {xs : List V} (I : Inv X pins σ H s) (h : Rd H l (.lst xs)) : xs.length ≤ sizeLine ∧ ∃ (its : List Value) (n : Nat), Vals xs its ∧ xs.length = its.length ∧ s.heap.get? l = some { cls := .type "list", data := .seq its.toArray n } := by
  obtain ⟨z, its, n, r, e⟩ := h.ok I.hok
  exact ⟨z, its, n, r, r.length, e⟩
theorem op_catR : OpR X (binaryOp .Add) (fun x y H Q => ∃ l b xs zs, x = .ref l ∧ y = .ref b ∧ SqL X.K H l xs ∧ SqL X.K H b zs ∧ xs.length + zs.length ≤ sizeLine ∧ New (.lst (xs ++ zs)) H Q) := by
  intro pins s σ H x y v u Q I rx ry h
  obtain ⟨l, b, xs, zs, rfl, rfl, hH, hB, hz, q⟩ := h
  cases rx
  cases ry
  obtain ⟨its, r, ⟨⟨cls, dd, data, sl⟩, n, ho, hc, _, hd⟩, hl⟩ := I.list hH
  obtain ⟨its2, r2, ⟨⟨cls2, dd2, data2, sl2⟩, n2, ho2, hc2, _, hd2⟩, hl2⟩ := I.list hB
  simp only at hc hd hc2 hd2
  subst hc hd hc2 hd2
  have e : its.toArray ++ its2.toArray = (its ++ its2).toArray := by simp
  have l1 := r.length
  have l2 := r2.length
  refine concat_meets ⟨_, ho, rfl⟩ ⟨_, ho2, rfl⟩ noFill_list_add seq_list_add PySem.F.slot_list_add PySem.F.entry_list_add (PySem.F.args_list_add_2 _ _) (list_addW l b its.toArray its2.toArray n n2 dd dd2 sl sl2 (by rw [List.size_toArray, List.size_toArray]; omega)) ⟨ho, ho2, ?_⟩
  rw [e]
  exact ⟨.ref _, _, I.lnew (t' := s.toks) (r.append r2) (by rw [List.length_append]; omega), rfl, new_of q _ I.fresh⟩
theorem op_repR : OpR X (binaryOp .Mult) (fun x y H Q => ∃ l k xs, x = .ref l ∧ y = .int k ∧ Rd H l (.lst xs) ∧ -(2 ^ 63) ≤ k ∧ k < 2 ^ 63 ∧ xs.length * k.toNat ≤ sizeLine ∧ New (.lst (List.replicate k.toNat xs).flatten) H Q) := by
  intro pins s σ H x y v u Q I rx ry h
  obtain ⟨l, k, xs, rfl, rfl, hH, h1, h2, hz, q⟩ := h
  cases rx
  obtain ⟨t, rfl⟩ := ry
  obtain ⟨z, its, n, r, hl, e⟩ := Inv.rdl I hH
  have hlen : its.toArray.size * k.toNat ≤ sizeLine := by rw [List.size_toArray, ← hl]; exact hz
  have hcap : ¬ its.toArray.size * k.toNat > (2 ^ 63 - 1) / 8 := by
    have : (sizeLine : Nat) ≤ (2 ^ 63 - 1) / 8 := by decide
    omega
  have hfit : ¬ (!Builtin.List.listFitsIndex k) = true := by
    rw [fitsIndex_both h1 h2]
    exact Bool.false_ne_true
  have hlong : ¬ Builtin.List.listTooLong (its.toArray.size * k.toNat) = true := by
    rw [notLongL hlen]
    exact Bool.false_ne_true
  have hnew : List.foldl (fun x1 x2 => x1 ++ x2) #[] (List.replicate (if its.toArray.isEmpty = true then 0 else k.toNat) its.toArray) = (List.replicate k.toNat its).flatten.toArray := by
    have f0 : ∀ m : Nat, List.foldl (fun x1 x2 => x1 ++ x2) #[] (List.replicate m its.toArray) = (List.replicate m its).flatten.toArray := fun m => by
      have := foldl_rep its m []
      rw [List.nil_append] at this
      exact this
    rw [f0]
    cases its with
    | nil => simp
    | cons a r' => rw [if_neg (by simp)]
  refine wpAny_binaryOp_repeat_ref (T := "list") (U := "int") (by decide) ⟨_, e, rfl⟩ (fun s' => typeIs_int s' k t) noFill_list_mul F.fills_int_mul F.slot_int_rmul repeat_list F.slot_int_index.lookup
    (call_meets F.slot_int_rmul (typeIs_int s k t) F.entry_int_rmul (F.args_int_rmul_2 _ _) (int___rmul___int_list k t l its.toArray n)
      ⟨e, rfl, ⟨_, e, rfl⟩, call_meets F.slot_list_mul ⟨_, e, rfl⟩ F.entry_list_mul (F.args_list_mul_2 _ _) (AutoListH.list___mul___list_int_3 l its.toArray n k t hfit hcap hlong) ⟨e, ?_⟩⟩)
  rw [hnew]
  exact ⟨.ref _, _, I.lnew (t' := s.toks) (r.rep k.toNat) (by rw [PyProof.Rows.lm_len_rep_flat, Nat.mul_comm]; exact hz), rfl, new_of q _ I.fresh⟩
end
def addM : PyData → PyData → Option PyData
  | .int a, .int b => some (.int (a + b))
  | .int a, .bool b => some (.int (a + b2i b))
  | .str a, .str b => if a.length + b.length ≤ 1000000 then some (.str (a ++ b)) else none
  | .list xs, .list ys => if xs.length + ys.length ≤ 1000000 then some (.list (xs ++ ys)) else none
  | .tuple xs, .tuple ys => if xs.isEmpty then none else if xs.length + ys.length ≤ 1000000 then some (.tuple (xs ++ ys)) else none
  | _, _ => none
def subM : PyData → PyData → Option PyData
  | .int a, .int b => some (.int (a - b))
  | _, _ => none
def mulM : PyData → PyData → Option PyData
  | .int a, .int b => if a.natAbs.log2 + b.natAbs.log2 < 130000000 then some (.int (a * b)) else none
  | _, _ => none
def divM : PyData → PyData → Option PyData
  | .int a, .int b => if 0 < b ∧ b.natAbs.log2 < 9000 then some (.int (a / b)) else none
  | _, _ => none
def modM : PyData → PyData → Option PyData
  | .int a, .int b => if 0 < b then some (.int (a % b)) else none
  | _, _ => none
def powM : PyData → PyData → Option PyData
  | .int a, .int b => if 0 ≤ b ∧ b ≤ 1000 ∧ a.natAbs < 2 ^ 64 then some (.int (a ^ b.toNat)) else none
  | _, _ => none
def eqM (d e : PyData) : Option PyData := if SeqAt.shaped d && SeqAt.shaped e then some (.bool (PyData.eqv d e)) else none
def neM (d e : PyData) : Option PyData := if SeqAt.shaped d && SeqAt.shaped e then some (.bool (!PyData.eqv d e)) else none
def ltM : PyData → PyData → Option PyData
  | .int a, .int b => some (.bool (decide (a < b)))
  | _, _ => none
def leM : PyData → PyData → Option PyData
  | .int a, .int b => some (.bool (decide (a ≤ b)))
  | _, _ => none
def gtM : PyData → PyData → Option PyData
  | .int a, .int b => some (.bool (decide (b < a)))
  | _, _ => none
def geM : PyData → PyData → Option PyData
  | .int a, .int b => some (.bool (decide (b ≤ a)))
  | _, _ => none
def isNone : PyData → Bool
  | .none => true
  | _ => false
def isM (d e : PyData) : Option PyData := if isNone e then some (.bool (isNone d)) else none
def isNotM (d e : PyData) : Option PyData := if isNone e then some (.bool (!isNone d)) else none
def flatD : PyData → Bool
  | .none => true
  | .bool _ => true
  | .int _ => true
  | .str _ => true
  | _ => false
def memD (d : PyData) (ds : List PyData) : Bool := ds.any fun z => PyData.eqv z d
def inM : PyData → PyData → Option PyData
  | d, .list ds => if SeqAt.shaped d && SeqAt.shaped (.list ds) then some (.bool (memD d ds)) else none
  | d, .tuple ds => if flatD d && ds.all flatD then some (.bool (memD d ds)) else none
  | _, _ => none
def notInM : PyData → PyData → Option PyData
  | d, .list ds => if SeqAt.shaped d && SeqAt.shaped (.list ds) then some (.bool (!memD d ds)) else none
  | d, .tuple ds => if flatD d && ds.all flatD then some (.bool (!memD d ds)) else none
  | _, _ => none
section
variable {K : PySem.W.Frag} {X : Cx} {G H : Hp}
theorem dq_none {v : V} {d : PyData} (h : Dq K G v d) : decide (v = .non) = isNone d := by
  cases h <;> rfl
theorem opd_add : OpD K X (binaryOp .Add) addM := fun hK => by
  subst hK
  intro pins s σ H x y v u Q I rx ry h
  obtain ⟨G, d, e, z, sg, hd, he, hz, q⟩ := h
  unfold addM at hz
  split at hz
  · cases hz; cases hd; cases he
    exact op_add pins s σ H _ _ v u Q I rx ry ⟨_, _, rfl, rfl, q _ G H (Ps.refl sg) (.int _)⟩
  · cases hz; cases hd; cases he
    exact op_add_ib pins s σ H _ _ v u Q I rx ry ⟨_, _, rfl, rfl, q _ G H (Ps.refl sg) (.int _)⟩
  · split at hz
    · rename_i hl
      cases hz; cases hd; cases he
      exact op_add_str pins s σ H _ _ v u Q I rx ry ⟨_, _, rfl, rfl, line_le hl, q _ G H (Ps.refl sg) (.str _)⟩
    · cases hz
  · split at hz
    · rename_i hl
      cases hz
      cases hd with
      | lst hs ha =>
        cases he with
        | lst hs2 ha2 =>
          refine op_catR pins s σ H _ _ v u Q I rx ry ⟨_, _, _, _, rfl, rfl, sg.seq hs, sg.seq hs2, line_le (by rw [ha.length, ha2.length]; exact hl), fun p H' sm n e' => ?_⟩
          exact q _ _ H' (Ps.new sg sm n e') (.lst (.inl (.inl upd_same)) ((ha.append ha2).sm (same_new (sg.free n))))
    · cases hz
  · split at hz
    · cases hz
    · split at hz
      · rename_i hne hl
        cases hz
        cases hd with
        | tup hs ha =>
          cases he with
          | tup hs2 ha2 =>
            refine op_catT pins s σ H _ _ v u Q I rx ry ⟨_, _, _, _, rfl, rfl, Lk.Same.tup sg hs, Lk.Same.tup sg hs2, ?_, line_le (by rw [ha.length, ha2.length]; exact hl), fun e0 => ?_, fun _ p n => ?_⟩
            · rintro rfl
              cases ha
              exact hne rfl
            · subst e0
              cases ha2
              rw [List.append_nil] at q
              exact q _ _ _ (Ps.refl sg) (.tup hs ha)
            · exact q _ _ _ (Ps.new sg (same_new n) n upd_same) (.tup (.inl (.inl upd_same)) ((ha.append ha2).sm (same_new (sg.free n))))
      · cases hz
  · cases hz
theorem opd_sub : OpD K X (binaryOp .Sub) subM := fun hK => by
  intro pins s σ H x y v u Q I rx ry h
  obtain ⟨G, d, e, z, sg, hd, he, hz, q⟩ := h
  unfold subM at hz
  split at hz
  · cases hz; cases hd; cases he
    exact op_sub pins s σ H _ _ v u Q I rx ry ⟨_, _, rfl, rfl, q _ G H (Ps.refl sg) (.int _)⟩
  · cases hz
theorem mulB_ok {i j : Int} (h : i.natAbs.log2 + j.natAbs.log2 < 130000000) : IntMulOk i j := by
  have b : ∀ x : Int, Builtin.Int.intBits x ≤ x.natAbs.log2 + 1 := fun x => by
    unfold Builtin.Int.intBits
    split <;> omega
  have h1 := b i
  have h2 := b j
  have e : bitsLine = 134217728 := by decide
  unfold IntMulOk
  intro z
  rw [Bool.and_eq_true] at z
  have z2 := z.2
  unfold Builtin.Int.intTooBig at z2
  have z3 := of_decide_eq_true z2
  rw [e] at z3
  omega
theorem opd_mul : OpD K X (binaryOp .Mult) mulM := fun hK => by
  intro pins s σ H x y v u Q I rx ry h
  obtain ⟨G, d, e, z, sg, hd, he, hz, q⟩ := h
  unfold mulM at hz
  split at hz
  · split at hz
    · rename_i hl
      cases hz; cases hd; cases he
      exact opI (C := fun i j : Int => i.natAbs.log2 + j.natAbs.log2 < 130000000) (g := fun i j => i * j) (fun _ _ _ _ _ _ _ hc q => mul_int q (mulB_ok hc)) pins s σ H _ _ v u Q I rx ry ⟨_, _, rfl, rfl, hl, q _ G H (Ps.refl sg) (.int _)⟩
    · cases hz
  · cases hz
theorem opd_div : OpD K X (binaryOp .FloorDiv) divM := fun hK => by
  intro pins s σ H x y v u Q I rx ry h
  obtain ⟨G, d, e, z, sg, hd, he, hz, q⟩ := h
  unfold divM at hz
  split at hz
  · split at hz
    · rename_i hl
      cases hz; cases hd; cases he
      exact op_fdivW pins s σ H _ _ v u Q I rx ry ⟨_, _, rfl, rfl, hl, q _ G H (Ps.refl sg) (.int _)⟩
    · cases hz
  · cases hz
theorem opd_mod : OpD K X (binaryOp .Mod) modM := fun hK => by
  intro pins s σ H x y v u Q I rx ry h
  obtain ⟨G, d, e, z, sg, hd, he, hz, q⟩ := h
  unfold modM at hz
  split at hz
  · split at hz
    · rename_i hl
      cases hz; cases hd; cases he
      exact op_mod pins s σ H _ _ v u Q I rx ry ⟨_, _, rfl, rfl, hl, q _ G H (Ps.refl sg) (.int _)⟩
    · cases hz
  · cases hz
theorem opd_pow : OpD K X (binaryOp .Pow) powM := fun hK => by
  intro pins s σ H x y v u Q I rx ry h
  obtain ⟨G, d, e, z, sg, hd, he, hz, q⟩ := h
  unfold powM at hz
  split at hz
  · split at hz
    · rename_i hl
      cases hz; cases hd; cases he
      exact op_pow pins s σ H _ _ v u Q I rx ry ⟨_, _, rfl, rfl, ⟨hl.1, by omega, hl.2.2⟩, q _ G H (Ps.refl sg) (.int _)⟩
    · cases hz
  · cases hz
theorem opd_eq {k : Nat} (hr : Room k X.A) : OpD K X (compareOp .Eq) eqM := fun hK => by
  subst hK
  intro pins s σ H x y v u Q I rx ry h
  obtain ⟨G, d, e, z, sg, hd, he, hz, q⟩ := h
  unfold eqM at hz
  split at hz
  · rename_i hs
    rw [Bool.and_eq_true] at hs
    cases hz
    exact op_eqD hr.units pins s σ H _ _ v u Q I rx ry ⟨d, e, (hd.sm sg).dp, (he.sm sg).dp, hs.1, hs.2, q _ G H (Ps.refl sg) (.bl _)⟩
  · cases hz
theorem opd_ne {k : Nat} (hr : Room k X.A) : OpD K X (compareOp .NotEq) neM := fun hK => by
  subst hK
  intro pins s σ H x y v u Q I rx ry h
  obtain ⟨G, d, e, z, sg, hd, he, hz, q⟩ := h
  unfold neM at hz
  split at hz
  · rename_i hs
    rw [Bool.and_eq_true] at hs
    cases hz
    exact op_neD hr.units pins s σ H _ _ v u Q I rx ry ⟨d, e, (hd.sm sg).dp, (he.sm sg).dp, hs.1, hs.2, q _ G H (Ps.refl sg) (.bl _)⟩
  · cases hz
theorem opd_lt : OpD K X (compareOp .Lt) ltM := fun hK => by
  intro pins s σ H x y v u Q I rx ry h
  obtain ⟨G, d, e, z, sg, hd, he, hz, q⟩ := h
  unfold ltM at hz
  split at hz
  · cases hz; cases hd; cases he
    exact op_lt pins s σ H _ _ v u Q I rx ry ⟨_, _, rfl, rfl, q _ G H (Ps.refl sg) (.bl _)⟩
  · cases hz
theorem opd_le : OpD K X (compareOp .LtE) leM := fun hK => by
  intro pins s σ H x y v u Q I rx ry h
  obtain ⟨G, d, e, z, sg, hd, he, hz, q⟩ := h
  unfold leM at hz
  split at hz
  · cases hz; cases hd; cases he
    exact op_le pins s σ H _ _ v u Q I rx ry ⟨_, _, rfl, rfl, q _ G H (Ps.refl sg) (.bl _)⟩
  · cases hz
theorem opd_gt : OpD K X (compareOp .Gt) gtM := fun hK => by
  intro pins s σ H x y v u Q I rx ry h
  obtain ⟨G, d, e, z, sg, hd, he, hz, q⟩ := h
  unfold gtM at hz
  split at hz
  · cases hz; cases hd; cases he
    exact op_gt pins s σ H _ _ v u Q I rx ry ⟨_, _, rfl, rfl, q _ G H (Ps.refl sg) (.bl _)⟩
  · cases hz
theorem opd_ge : OpD K X (compareOp .GtE) geM := fun hK => by
  intro pins s σ H x y v u Q I rx ry h
  obtain ⟨G, d, e, z, sg, hd, he, hz, q⟩ := h
  unfold geM at hz
  split at hz
  · cases hz; cases hd; cases he
    exact op_ge pins s σ H _ _ v u Q I rx ry ⟨_, _, rfl, rfl, q _ G H (Ps.refl sg) (.bl _)⟩
  · cases hz
theorem isNone_some {d : PyData} (h : isNone d = true) : d = .none := by
  cases d <;> first | rfl | cases h
theorem opd_is : OpD K X (compareOp .Is) isM := fun hK => by
  intro pins s σ H x y v u Q I rx ry h
  obtain ⟨G, d, e, z, sg, hd, he, hz, q⟩ := h
  unfold isM at hz
  split at hz
  · rename_i hn
    cases isNone_some hn
    cases hz; cases he
    exact op_isN pins s σ H _ _ v u Q I rx ry ⟨rfl, by rw [dq_none hd]; exact q _ G H (Ps.refl sg) (.bl _)⟩
  · cases hz
theorem opd_isNot : OpD K X (compareOp .IsNot) isNotM := fun hK => by
  intro pins s σ H x y v u Q I rx ry h
  obtain ⟨G, d, e, z, sg, hd, he, hz, q⟩ := h
  unfold isNotM at hz
  split at hz
  · rename_i hn
    cases isNone_some hn
    cases hz; cases he
    exact op_notN pins s σ H _ _ v u Q I rx ry ⟨rfl, by rw [dq_none hd]; exact q _ G H (Ps.refl sg) (.bl _)⟩
  · cases hz
theorem dq_flat {v : V} {d : PyData} (h : Dq K G v d) (f : flatD d = true) : flatV v = true := by
  cases h <;> first | rfl | cases f
theorem dq_flats : ∀ {vs : List V} {ds : List PyData}, DqAll K G vs ds → ds.all flatD = true → vs.all flatV = true
  | _, _, .nil, _ => rfl
  | _, _, .cons h1 h2, f => by
    rw [List.all_cons, Bool.and_eq_true] at f
    rw [List.all_cons, dq_flat h1 f.1, dq_flats h2 f.2]
    rfl
theorem dq_eqV {v w : V} {d e : PyData} (h : Dq K G v d) (h' : Dq K G w e) (f : flatD d = true) (f' : flatD e = true) : eqV v w = PyData.eqv d e := by
  cases h <;> cases h' <;> first | rfl | (cases f) | (cases f') | (simp [eqV, PyData.eqv])
theorem dq_inV {x : V} {d : PyData} (hx : Dq K G x d) (f : flatD d = true) : ∀ {vs : List V} {ds : List PyData}, DqAll K G vs ds → ds.all flatD = true → inV x vs = memD d ds
  | _, _, .nil, _ => rfl
  | _, _, .cons h1 h2, g => by
    rw [List.all_cons, Bool.and_eq_true] at g
    have ih := dq_inV hx f h2 g.2
    unfold inV memD at ih ⊢
    rw [List.any_cons, List.any_cons, ih, dq_eqV h1 hx g.1 f]
theorem opd_in {k : Nat} (hr : Room k X.A) : OpD K X (compareOp .In) inM := fun hK => by
  subst hK
  intro pins s σ H x y v u Q I rx ry h
  obtain ⟨G, d, e, z, sg, hd, he, hz, q⟩ := h
  have hu : X.A.units + 65 < cLine := by have := hr.un; omega
  unfold inM at hz
  split at hz
  · split at hz
    · rename_i hs
      rw [Bool.and_eq_true] at hs
      cases hz
      exact op_inD hu pins s σ H _ _ v u Q I rx ry ⟨_, _, (hd.sm sg).dp, (he.sm sg).dp, hs.1, hs.2, q _ G H (Ps.refl sg) (.bl _)⟩
    · cases hz
  · split at hz
    · rename_i hs
      rw [Bool.and_eq_true] at hs
      cases hz
      cases he with
      | tup ht ha =>
        refine op_in_seq pins s σ H _ _ v u Q I rx ry ⟨_, _, rfl, .inr (Lk.Same.tup sg ht), dq_flat hd hs.1, dq_flats ha hs.2, ?_⟩
        rw [if_neg Bool.false_ne_true, dq_inV hd hs.1 ha hs.2]
        exact q _ G H (Ps.refl sg) (.bl _)
    · cases hz
  · cases hz
theorem opd_notIn {k : Nat} (hr : Room k X.A) : OpD K X (compareOp .NotIn) notInM := fun hK => by
  subst hK
  intro pins s σ H x y v u Q I rx ry h
  obtain ⟨G, d, e, z, sg, hd, he, hz, q⟩ := h
  have hu : X.A.units + 65 < cLine := by have := hr.un; omega
  unfold notInM at hz
  split at hz
  · split at hz
    · rename_i hs
      rw [Bool.and_eq_true] at hs
      cases hz
      exact op_notInD hu pins s σ H _ _ v u Q I rx ry ⟨_, _, (hd.sm sg).dp, (he.sm sg).dp, hs.1, hs.2, q _ G H (Ps.refl sg) (.bl _)⟩
    · cases hz
  · split at hz
    · rename_i hs
      rw [Bool.and_eq_true] at hs
      cases hz
      cases he with
      | tup ht ha =>
        refine op_notIn_seq pins s σ H _ _ v u Q I rx ry ⟨_, _, rfl, .inr (Lk.Same.tup sg ht), dq_flat hd hs.1, dq_flats ha hs.2, ?_⟩
        rw [if_pos rfl, dq_inV hd hs.1 ha hs.2]
        exact q _ G H (Ps.refl sg) (.bl _)
    · cases hz
  · cases hz
end
/-- [a, ..] * k -/
def repM (xs : List PyData) : PyData → Option (List PyData)
  | .int k => if k.natAbs ≤ 1000000 ∧ xs.length * k.toNat ≤ 1000000 then some (List.replicate k.toNat xs).flatten else none
  | _ => none
theorem df_rep {K : PySem.W.Frag} {E : XE} {X : Cx} {a b : Expr} {ml : M (List PyData)} {mb : M PyData} {pos : Pos} (ha : DF K E X a ml) (hb : DE K E X b mb) : DF K E X (.BinOp a .Mult b pos) (ml.bind fun xs => mb.bind fun d => M.lift (repM xs d)) := ⟨fun hK => by
  subst hK
  refine PE.imp (pe_op op_repR (ha.pe rfl) (hb.pe rfl)) fun σ H Q ⟨F, O, G, r, out, P, em, f⟩ => ?_
  refine tM.run P f em fun xs r1 x G1 H1 P1 g1 q1 e1 f1 => ?_
  refine tM.run P1 f1 e1 fun d r2 y G2 H2 P2 g2 q2 e2 f2 => ?_
  obtain ⟨z, hz, rfl⟩ := lift_ok e2
  obtain ⟨p, vs, rfl, hs, hg, h0, ho, hp, hx⟩ := q1
  unfold repM at hz
  split at hz
  · split at hz
    · rename_i hl
      cases hz
      cases q2
      have hx2 := hx.sm g2.gg
      exact ⟨_, _, _, rfl, rfl, .inl (g2.keep _ _ hp ho), by omega, by omega, line_le (by rw [hx.length]; exact hl.2), fun q H' s n e' => f2.ok (Ps.of_same P2.sub s) P2 ⟨q, _, rfl, n, P2.sub.free n, P2.nf _ n, fun i z => (P2.on i q z).2.2.1 n, e', hx2.rep _⟩⟩
    · cases hz
  · cases hz⟩
/-- -a -/
def negM : PyData → Option PyData
  | .int a => some (.int (-a))
  | _ => none
section
variable {K : PySem.W.Frag} {E : XE} {X : Cx} {a b c e : Expr} {es : List Expr} {ma mb mc : M PyData} {pos : Pos}
theorem de_neg (ha : DE K E X a ma) : DE K E X (.UnaryOp .USub a pos) (ma.bind fun d => M.lift (negM d)) := ⟨fun hK => PE.imp (pe_un un_neg (ha.pe hK)) fun σ H Q ⟨F, O, G, r, out, P, em, f⟩ => by
  refine tM.run P f em fun d r1 x G1 H1 P1 g1 q1 e1 f1 => ?_
  obtain ⟨z, hz, rfl⟩ := lift_ok e1
  unfold negM at hz
  split at hz
  · cases hz; cases q1
    exact ⟨_, rfl, f1.ok (Ps.refl P1.sub) P1 (.int _)⟩
  · cases hz⟩
/-- a < b < c -/
def mChain (f g : PyData → PyData → Option PyData) (ma mb mc : M PyData) : M PyData :=
  ma.bind fun d => mb.bind fun e => (M.lift ((f d e).bind asBool)).bind fun k => if k then mc.bind fun h => M.lift ((g e h).bind fun z => (asBool z).map PyData.bool) else M.ret (.bool false)
theorem de_chain {op op' : CmpOp} {f g : PyData → PyData → Option PyData} (ho : OpD K X (compareOp op) f) (ho' : OpD K X (compareOp op') g) (ha : DE K E X a ma) (hb : DE K E X b mb) (hc : DE K E X c mc)
    (h1 : lastMarks [op, op'] [b, c] = false := by with_unfolding_all rfl) : DE K E X (.Compare a [op, op'] [b, c] pos) (mChain f g ma mb mc) :=
  ⟨fun hK => PE.imp (pe_chain (ho hK) (ho' hK) (ha.pe hK) (hb.pe hK) (hc.pe hK) h1) fun σ H Q ⟨F, O, G, r, out, P, em, ff⟩ => by
  refine tM.run P ff em fun d r1 x G1 H1 P1 g1 q1 e1 f1 => ?_
  refine tM.run P1 f1 e1 fun ds r2 y G2 H2 P2 g2 q2 e2 f2 => ?_
  obtain ⟨k, hz, e3⟩ := bind_lift_ok e2
  obtain ⟨z, h1, h2⟩ := Option.bind_eq_some_iff.mp hz
  cases asBool_some h2
  refine ⟨G2, _, _, _, P2.sub, q1.sm g2.gg, q2, h1, fun v G' H' p q => ⟨k, dp_bool q, ?_⟩⟩
  have P2' := P2.ps p
  have f2' := f2.via (p.go : Go O G2 H2 G' H')
  cases k with
  | true =>
    refine iteT (tM.run P2' f2' e3 fun h r3 w G3 H3 P3 g3 q3 e4 f3 => ?_)
    obtain ⟨o, ho, rfl⟩ := lift_ok e4
    obtain ⟨z', h3, h4⟩ := Option.bind_eq_some_iff.mp ho
    obtain ⟨b', h5, rfl⟩ := Option.map_eq_some_iff.mp h4
    cases asBool_some h5
    exact ⟨G3, _, _, _, P3.sub, (q2.sm p.gg).sm g3.gg, q3, h3, fun v G' H' p q => f3.ok p P3 q⟩
  | false =>
    cases e3
    exact iteF (f2'.ok (Ps.refl P2'.sub) P2' (.bl _))⟩
end
end DL
namespace DL
open PySem PySem.Spec PyProof.Rows L2 Lk
/-! ## builtins -/
def intsOf : List PyData → Option (List Int)
  | [] => some []
  | .int i :: ds => (intsOf ds).map (i :: ·)
  | _ :: _ => none
def boolsOf : List PyData → Option (List Bool)
  | [] => some []
  | .bool i :: ds => (boolsOf ds).map (i :: ·)
  | _ :: _ => none
theorem intsOf_some : ∀ {ds : List PyData} {ns : List Int}, intsOf ds = some ns → ds = ns.map PyData.int
  | [], _, h => by cases h; rfl
  | .int i :: ds, ns, h => by
    obtain ⟨ms, h1, rfl⟩ := Option.map_eq_some_iff.mp (show (intsOf ds).map (i :: ·) = some ns from h)
    rw [intsOf_some h1]
    rfl
  | .none :: _, _, h | .bool _ :: _, _, h | .str _ :: _, _, h | .list _ :: _, _, h | .tuple _ :: _, _, h | .dict _ :: _, _, h => by cases h
@[simp] theorem intsOf_map : ∀ ns : List Int, intsOf (ns.map PyData.int) = some ns
  | [] => rfl
  | n :: ns => by
    show (intsOf (ns.map PyData.int)).map (n :: ·) = _
    rw [intsOf_map ns]
    rfl
theorem boolsOf_some : ∀ {ds : List PyData} {ns : List Bool}, boolsOf ds = some ns → ds = ns.map PyData.bool
  | [], _, h => by cases h; rfl
  | .bool i :: ds, ns, h => by
    obtain ⟨ms, h1, rfl⟩ := Option.map_eq_some_iff.mp (show (boolsOf ds).map (i :: ·) = some ns from h)
    rw [boolsOf_some h1]
    rfl
  | .none :: _, _, h | .int _ :: _, _, h | .str _ :: _, _, h | .list _ :: _, _, h | .tuple _ :: _, _, h | .dict _ :: _, _, h => by cases h
@[simp] theorem boolsOf_map : ∀ ns : List Bool, boolsOf (ns.map PyData.bool) = some ns
  | [] => rfl
  | n :: ns => by
    show (boolsOf (ns.map PyData.bool)).map (n :: ·) = _
    rw [boolsOf_map ns]
    rfl
def lenM : List PyData → Option PyData
  | [.list ds] => some (.int ds.length)
  | [.tuple ds] => some (.int ds.length)
  | [.str x] => if x.length ≤ 1000000 then some (.int x.length) else none
  | _ => none
def sumM : List PyData → Option PyData
  | [.list ds] => (intsOf ds).map fun ns => .int ns.sum
  | _ => none
def minL : List Int → Int
  | [] => 0
  | [a] => a
  | a :: b :: l => min a (minL (b :: l))
def maxL : List Int → Int
  | [] => 0
  | [a] => a
  | a :: b :: l => max a (maxL (b :: l))
theorem minL_spec : ∀ {l : List Int}, l ≠ [] → minL l ∈ l ∧ ∀ x ∈ l, minL l ≤ x
  | [], h => absurd rfl h
  | [a], _ => ⟨List.mem_singleton.mpr rfl, fun x hx => by rw [List.mem_singleton.mp hx]; exact Int.le_refl _⟩
  | a :: b :: l, _ => by
    obtain ⟨h1, h2⟩ := minL_spec (l := b :: l) (by simp)
    have e : minL (a :: b :: l) = min a (minL (b :: l)) := rfl
    rw [e]
    refine ⟨?_, fun x hx => ?_⟩
    · rcases Int.le_total a (minL (b :: l)) with z | z
      · rw [Int.min_eq_left z]; exact List.mem_cons_self ..
      · rw [Int.min_eq_right z]; exact List.mem_cons_of_mem _ h1
    · rcases List.mem_cons.mp hx with rfl | hx
      · omega
      · have := h2 x hx; omega
theorem maxL_spec : ∀ {l : List Int}, l ≠ [] → maxL l ∈ l ∧ ∀ x ∈ l, x ≤ maxL l
  | [], h => absurd rfl h
  | [a], _ => ⟨List.mem_singleton.mpr rfl, fun x hx => by rw [List.mem_singleton.mp hx]; exact Int.le_refl _⟩
  | a :: b :: l, _ => by
    obtain ⟨h1, h2⟩ := maxL_spec (l := b :: l) (by simp)
    have e : maxL (a :: b :: l) = max a (maxL (b :: l)) := rfl
    rw [e]
    refine ⟨?_, fun x hx => ?_⟩
    · rcases Int.le_total a (maxL (b :: l)) with z | z
      · rw [Int.max_eq_right z]; exact List.mem_cons_of_mem _ h1
      · rw [Int.max_eq_left z]; exact List.mem_cons_self ..
    · rcases List.mem_cons.mp hx with rfl | hx
      · omega
      · have := h2 x hx; omega
def minM : List PyData → Option PyData
  | [.list ds] => (intsOf ds).bind fun ns => if ns.isEmpty then none else some (.int (minL ns))
  | _ => none
def maxM : List PyData → Option PyData
  | [.list ds] => (intsOf ds).bind fun ns => if ns.isEmpty then none else some (.int (maxL ns))
  | _ => none
def min2M : List PyData → Option PyData
  | [.int a, .int b] => some (.int (if b < a then b else a))
  | _ => none
def max2M : List PyData → Option PyData
  | [.int a, .int b] => some (.int (if b > a then b else a))
  | _ => none
def absM : List PyData → Option PyData
  | [.int a] => some (.int (if a < 0 then -a else a))
  | _ => none
def allM : List PyData → Option PyData
  | [.list ds] => (boolsOf ds).map fun bs => .bool (bs.all id)
  | _ => none
def anyM : List PyData → Option PyData
  | [.list ds] => (boolsOf ds).map fun bs => .bool (bs.any id)
  | _ => none
def intM : List PyData → Option PyData
  | [.int a] => some (.int a)
  | [.bool b] => some (.int (if b then 1 else 0))
  | _ => none
def boolM : List PyData → Option PyData
  | [.int a] => some (.bool (a != 0))
  | [.bool b] => some (.bool b)
  | _ => none
def strM : List PyData → Option PyData
  | [.int a] => if a.natAbs < 2 ^ 1000 then some (.str (toString a)) else none
  | _ => none
def tupleM : List PyData → Option PyData
  | [.list ds] => some (.tuple ds)
  | [.tuple ds] => some (.tuple ds)
  | _ => none
def listM : List PyData → Option (List PyData)
  | [.list ds] => some ds
  | [.tuple ds] => some ds
  | _ => none
def insI (a : Int) : List Int → List Int
  | [] => [a]
  | b :: l => if a ≤ b then a :: b :: l else b :: insI a l
def sortI : List Int → List Int
  | [] => []
  | a :: l => insI a (sortI l)
theorem insI_perm (a : Int) : ∀ l : List Int, (insI a l).Perm (a :: l)
  | [] => .refl _
  | b :: l => by
    unfold insI
    split
    · exact .refl _
    · exact ((insI_perm a l).cons b).trans (.swap ..)
theorem sortI_perm : ∀ l : List Int, (sortI l).Perm l
  | [] => .refl _
  | a :: l => (insI_perm a _).trans ((sortI_perm l).cons a)
theorem insI_sorted {a : Int} : ∀ {l : List Int}, l.Pairwise (· ≤ ·) → (insI a l).Pairwise (· ≤ ·)
  | [], _ => List.pairwise_singleton ..
  | b :: l, h => by
    have h' := List.pairwise_cons.mp h
    unfold insI
    split
    · rename_i hab
      refine List.pairwise_cons.mpr ⟨fun x hx => ?_, h⟩
      rcases List.mem_cons.mp hx with rfl | hx
      · exact hab
      · have := h'.1 x hx; omega
    · rename_i hab
      refine List.pairwise_cons.mpr ⟨fun x hx => ?_, insI_sorted h'.2⟩
      rcases List.mem_cons.mp ((insI_perm a l).mem_iff.mp hx) with rfl | hx
      · omega
      · exact h'.1 x hx
theorem sortI_sorted : ∀ l : List Int, (sortI l).Pairwise (· ≤ ·)
  | [] => .nil
  | _ :: l => insI_sorted (sortI_sorted l)
theorem sorted_unique : ∀ {l m : List Int}, l.Perm m → l.Pairwise (· ≤ ·) → m.Pairwise (· ≤ ·) → l = m
  | [], m, p, _, _ => by rw [List.nil_perm.mp p]
  | a :: l, [], p, _, _ => absurd p.symm (by simp)
  | a :: l, b :: m, p, h1, h2 => by
    have h1' := List.pairwise_cons.mp h1
    have h2' := List.pairwise_cons.mp h2
    have e : a = b := by
      have ma : a ∈ b :: m := p.mem_iff.mp (List.mem_cons_self ..)
      have mb : b ∈ a :: l := p.mem_iff.mpr (List.mem_cons_self ..)
      rcases List.mem_cons.mp ma with z | z
      · exact z
      · rcases List.mem_cons.mp mb with y | y
        · exact y.symm
        · have := h1'.1 b y
          have := h2'.1 a z
          omega
    subst e
    rw [sorted_unique ((List.perm_cons a).mp p) h1'.2 h2'.2]
theorem sorted_is {l m : List Int} (p : l.Perm m) (h : l.Pairwise (· ≤ ·)) : l = sortI m := sorted_unique (p.trans (sortI_perm m).symm) h (sortI_sorted m)
def sortedM : List PyData → Option (List PyData)
  | [.list ds] => (intsOf ds).map fun ns => (sortI ns).map PyData.int
  | _ => none
section
variable {K : PySem.W.Frag} {X : Cx}
theorem one_of {G : Hp} {vs : List V} {d : PyData} (h : DqAll K G vs [d]) : ∃ v, vs = [v] ∧ Dq K G v d := by
  cases h with
  | cons h1 h2 =>
    cases h2
    exact ⟨_, rfl, h1⟩
theorem two_of {G : Hp} {vs : List V} {d e : PyData} (h : DqAll K G vs [d, e]) : ∃ v w, vs = [v, w] ∧ Dq K G v d ∧ Dq K G w e := by
  cases h with
  | cons h1 h2 =>
    cases h2 with
    | cons h3 h4 =>
      cases h4
      exact ⟨_, _, rfl, h1, h3⟩
theorem lst_ints {G : Hp} {v : V} {ds : List PyData} {ns : List Int} (h : Dq K G v (.list ds)) (e : intsOf ds = some ns) : ∃ p, v = .ref p ∧ SqL K G p (ns.map V.int) := by
  cases h with
  | lst hs ha =>
    rw [intsOf_some e] at ha
    rw [ha.of_ints] at hs
    exact ⟨_, rfl, hs⟩
theorem lst_bools {G : Hp} {v : V} {ds : List PyData} {ns : List Bool} (h : Dq K G v (.list ds)) (e : boolsOf ds = some ns) : ∃ p, v = .ref p ∧ SqL K G p (ns.map V.bl) := by
  cases h with
  | lst hs ha =>
    rw [boolsOf_some e] at ha
    rw [ha.of_bools] at hs
    exact ⟨_, rfl, hs⟩
theorem cd_len : CallD K X (.builtin "len") lenM := fun hK => by
  subst hK
  intro pins s σ H xs us Q I r h
  obtain ⟨G, ds, z, sg, hd, hz, q⟩ := h
  unfold lenM at hz
  split at hz
  · cases hz
    obtain ⟨v, rfl, hv⟩ := one_of hd
    cases hv with
    | lst hs ha => exact call_len_seq pins s σ H _ us Q I r ⟨_, _, rfl, .inl ((sg.seq hs)), by rw [ha.length]; exact q _ G H (Ps.refl sg) (.int _)⟩
  · cases hz
    obtain ⟨v, rfl, hv⟩ := one_of hd
    cases hv with
    | tup hs ha => exact call_len_seq pins s σ H _ us Q I r ⟨_, _, rfl, .inr (Lk.Same.tup sg hs), by rw [ha.length]; exact q _ G H (Ps.refl sg) (.int _)⟩
  · split at hz
    · rename_i hl
      cases hz
      obtain ⟨v, rfl, hv⟩ := one_of hd
      cases hv
      exact call_len_str pins s σ H _ us Q I r ⟨_, rfl, line_le hl, q _ G H (Ps.refl sg) (.int _)⟩
    · cases hz
  · cases hz
theorem cd_sum (hc : X.calm = true) : CallD K X (.builtin "sum") sumM := fun hK => by
  subst hK
  intro pins s σ H xs us Q I r h
  obtain ⟨G, ds, z, sg, hd, hz, q⟩ := h
  unfold sumM at hz
  split at hz
  · obtain ⟨ns, hn, rfl⟩ := Option.map_eq_some_iff.mp hz
    obtain ⟨v, rfl, hv⟩ := one_of hd
    obtain ⟨p, rfl, hp⟩ := lst_ints hv hn
    exact cr_sum hc pins s σ H _ us Q I r ⟨p, ns, rfl, (sg.seq hp), q _ G H (Ps.refl sg) (.int _)⟩
  · cases hz
theorem cd_min (hc : X.calm = true) : CallD K X (.builtin "min") minM := fun hK => by
  subst hK
  intro pins s σ H xs us Q I r h
  obtain ⟨G, ds, z, sg, hd, hz, q⟩ := h
  unfold minM at hz
  split at hz
  · obtain ⟨ns, hn, hz⟩ := Option.bind_eq_some_iff.mp hz
    split at hz
    · cases hz
    · rename_i he
      cases hz
      obtain ⟨v, rfl, hv⟩ := one_of hd
      obtain ⟨p, rfl, hp⟩ := lst_ints hv hn
      have ne : ns ≠ [] := fun e => he (by rw [e]; rfl)
      refine cr_min hc pins s σ H _ us Q I r ⟨p, ns, rfl, (sg.seq hp), List.length_pos_iff.mpr ne, fun m h1 h2 => ?_⟩
      obtain ⟨h3, h4⟩ := minL_spec ne
      rw [show m = minL ns from Int.le_antisymm (h2 _ h3) (h4 _ h1)]
      exact q _ G H (Ps.refl sg) (.int _)
  · cases hz
theorem cd_max (hc : X.calm = true) : CallD K X (.builtin "max") maxM := fun hK => by
  subst hK
  intro pins s σ H xs us Q I r h
  obtain ⟨G, ds, z, sg, hd, hz, q⟩ := h
  unfold maxM at hz
  split at hz
  · obtain ⟨ns, hn, hz⟩ := Option.bind_eq_some_iff.mp hz
    split at hz
    · cases hz
    · rename_i he
      cases hz
      obtain ⟨v, rfl, hv⟩ := one_of hd
      obtain ⟨p, rfl, hp⟩ := lst_ints hv hn
      have ne : ns ≠ [] := fun e => he (by rw [e]; rfl)
      refine cr_max hc pins s σ H _ us Q I r ⟨p, ns, rfl, (sg.seq hp), List.length_pos_iff.mpr ne, fun m h1 h2 => ?_⟩
      obtain ⟨h3, h4⟩ := maxL_spec ne
      rw [show m = maxL ns from Int.le_antisymm (h4 _ h1) (h2 _ h3)]
      exact q _ G H (Ps.refl sg) (.int _)
  · cases hz
theorem cd_min2 (hc : X.calm = true) : CallD K X (.builtin "min") min2M := fun hK => by
  intro pins s σ H xs us Q I r h
  obtain ⟨G, ds, z, sg, hd, hz, q⟩ := h
  unfold min2M at hz
  split at hz
  · cases hz
    obtain ⟨v, w, rfl, hv, hw⟩ := two_of hd
    cases hv; cases hw
    exact call_min2 hc pins s σ H _ us Q I r ⟨_, _, rfl, q _ G H (Ps.refl sg) (.int _)⟩
  · cases hz
theorem cd_max2 (hc : X.calm = true) : CallD K X (.builtin "max") max2M := fun hK => by
  intro pins s σ H xs us Q I r h
  obtain ⟨G, ds, z, sg, hd, hz, q⟩ := h
  unfold max2M at hz
  split at hz
  · cases hz
    obtain ⟨v, w, rfl, hv, hw⟩ := two_of hd
    cases hv; cases hw
    exact call_max2 hc pins s σ H _ us Q I r ⟨_, _, rfl, q _ G H (Ps.refl sg) (.int _)⟩
  · cases hz
theorem cd_abs : CallD K X (.builtin "abs") absM := fun hK => by
  intro pins s σ H xs us Q I r h
  obtain ⟨G, ds, z, sg, hd, hz, q⟩ := h
  unfold absM at hz
  split at hz
  · cases hz
    obtain ⟨v, rfl, hv⟩ := one_of hd
    cases hv
    exact call_abs pins s σ H _ us Q I r ⟨_, rfl, q _ G H (Ps.refl sg) (.int _)⟩
  · cases hz
theorem cd_all (hc : X.calm = true) : CallD K X (.builtin "all") allM := fun hK => by
  subst hK
  intro pins s σ H xs us Q I r h
  obtain ⟨G, ds, z, sg, hd, hz, q⟩ := h
  unfold allM at hz
  split at hz
  · obtain ⟨ns, hn, rfl⟩ := Option.map_eq_some_iff.mp hz
    obtain ⟨v, rfl, hv⟩ := one_of hd
    obtain ⟨p, rfl, hp⟩ := lst_bools hv hn
    exact cr_all hc pins s σ H _ us Q I r ⟨p, ns, rfl, (sg.seq hp), q _ G H (Ps.refl sg) (.bl _)⟩
  · cases hz
theorem cd_any (hc : X.calm = true) : CallD K X (.builtin "any") anyM := fun hK => by
  subst hK
  intro pins s σ H xs us Q I r h
  obtain ⟨G, ds, z, sg, hd, hz, q⟩ := h
  unfold anyM at hz
  split at hz
  · obtain ⟨ns, hn, rfl⟩ := Option.map_eq_some_iff.mp hz
    obtain ⟨v, rfl, hv⟩ := one_of hd
    obtain ⟨p, rfl, hp⟩ := lst_bools hv hn
    exact cr_any hc pins s σ H _ us Q I r ⟨p, ns, rfl, (sg.seq hp), q _ G H (Ps.refl sg) (.bl _)⟩
  · cases hz
theorem cd_int : CallD K X (.type "int") intM := fun hK => by
  intro pins s σ H xs us Q I r h
  obtain ⟨G, ds, z, sg, hd, hz, q⟩ := h
  unfold intM at hz
  split at hz
  · cases hz
    obtain ⟨v, rfl, hv⟩ := one_of hd
    cases hv
    exact call_int1 pins s σ H _ us Q I r (.inl ⟨_, rfl, q _ G H (Ps.refl sg) (.int _)⟩)
  · cases hz
    obtain ⟨v, rfl, hv⟩ := one_of hd
    cases hv
    exact call_int1 pins s σ H _ us Q I r (.inr ⟨_, rfl, q _ G H (Ps.refl sg) (.int _)⟩)
  · cases hz
theorem cd_bool : CallD K X (.type "bool") boolM := fun hK => by
  intro pins s σ H xs us Q I r h
  obtain ⟨G, ds, z, sg, hd, hz, q⟩ := h
  unfold boolM at hz
  split at hz
  · cases hz
    obtain ⟨v, rfl, hv⟩ := one_of hd
    cases hv
    exact call_bool1 pins s σ H _ us Q I r (.inl ⟨_, rfl, q _ G H (Ps.refl sg) (.bl _)⟩)
  · cases hz
    obtain ⟨v, rfl, hv⟩ := one_of hd
    cases hv
    exact call_bool1 pins s σ H _ us Q I r (.inr ⟨_, rfl, q _ G H (Ps.refl sg) (.bl _)⟩)
  · cases hz
theorem cd_str : CallD K X (.type "str") strM := fun hK => by
  intro pins s σ H xs us Q I r h
  obtain ⟨G, ds, z, sg, hd, hz, q⟩ := h
  unfold strM at hz
  split at hz
  · split at hz
    · rename_i hl
      cases hz
      obtain ⟨v, rfl, hv⟩ := one_of hd
      cases hv
      exact call_str_int pins s σ H _ us Q I r ⟨_, rfl, Nat.lt_of_lt_of_le (PySem.Flt.log2_lt_of (by decide) hl) (by decide), q _ G H (Ps.refl sg) (.str _)⟩
    · cases hz
  · cases hz
theorem cd_tuple : CallD K X (.type "tuple") tupleM := fun hK => by
  subst hK
  intro pins s σ H xs us Q I r h
  obtain ⟨G, ds, z, sg, hd, hz, q⟩ := h
  unfold tupleM at hz
  split at hz
  · cases hz
    obtain ⟨v, rfl, hv⟩ := one_of hd
    cases hv with
    | lst hs ha => exact call_tuple_of pins s σ H _ us Q I r ⟨_, _, rfl, .inl ⟨(sg.seq hs), fun p n => q _ _ _ (Ps.new sg (same_new n) n upd_same) (.tup (.inl (.inl upd_same)) (ha.sm (same_new (sg.free n))))⟩⟩
  · cases hz
    obtain ⟨v, rfl, hv⟩ := one_of hd
    cases hv with
    | tup hs ha => exact call_tuple_of pins s σ H _ us Q I r ⟨_, _, rfl, .inr ⟨Lk.Same.tup sg hs, q _ _ _ (Ps.refl sg) (.tup hs ha)⟩⟩
  · cases hz
theorem cf_list : CallF K X (.type "list") listM := fun hK => by
  subst hK
  intro pins s σ H xs us Q I r h
  obtain ⟨G, ds, z, sg, hd, hz, q⟩ := h
  unfold listM at hz
  split at hz
  · cases hz
    obtain ⟨v, rfl, hv⟩ := one_of hd
    cases hv with
    | lst hs ha => exact call_listN pins s σ H _ us Q I r ⟨_, _, rfl, .inl ((sg.seq hs)), fun p H' sm n e => q p _ G H' (Ps.of_same sg sm) (sg.free n) n e ha⟩
  · cases hz
    obtain ⟨v, rfl, hv⟩ := one_of hd
    cases hv with
    | tup hs ha => exact call_listN pins s σ H _ us Q I r ⟨_, _, rfl, .inr (Lk.Same.tup sg hs), fun p H' sm n e => q p _ G H' (Ps.of_same sg sm) (sg.free n) n e ha⟩
  · cases hz
theorem cf_sorted : CallF K X (.builtin "sorted") sortedM := fun hK => by
  subst hK
  intro pins s σ H xs us Q I r h
  obtain ⟨G, ds, z, sg, hd, hz, q⟩ := h
  unfold sortedM at hz
  split at hz
  · obtain ⟨ns, hn, rfl⟩ := Option.map_eq_some_iff.mp hz
    obtain ⟨v, rfl, hv⟩ := one_of hd
    obtain ⟨p, rfl, hp⟩ := lst_ints hv hn
    refine cr_sortedI pins s σ H _ us Q I r ⟨p, ns, rfl, (sg.seq hp), fun ns' l pm hw nl => ?_⟩
    have e : ns' = sortI ns := sorted_is pm hw
    subst e
    exact q l _ G _ (Ps.of_same sg (same_new nl)) (sg.free nl) nl upd_same (DqAll.ints _)
  · cases hz
end
/-! ## what is walked -/
def Gives (K : PySem.W.Frag) (J : It) (items : List PyData) (G : Hp) : Prop := ∀ (i : Nat) (H' G1 : Hp), Same G G1 → Same G1 H' →
  (∀ d, items[i]? = some d → J.go i H' ∧ ∀ x H'', J.yld i H' x H'' → ∃ G2, Ps G1 H' G2 H'' ∧ Dq K G2 x d) ∧ (items.length ≤ i → J.stop i H')
def rIt (K : PySem.W.Frag) : RR It (List PyData) := fun _ _ _ G _ J items => Gives K J items G
instance {K : PySem.W.Frag} : Anti (rIt K) := ⟨fun _ h => h⟩
structure DI (K : PySem.W.Frag) (E : XE) (X : Cx) (tg iter : Expr) (m : M (List PyData)) : Prop where
  pi : X.K = K → PI X tg iter (tM K E (rIt K) m)
theorem PI.imp {X : Cx} {tg iter : Expr} {t t' : TI} (h : PI X tg iter t) (i : ∀ σ H Q, t' σ H Q → t σ H Q) : PI X tg iter t' := ⟨fun pins s σ H Q I q => h.run pins s σ H Q I (i _ _ _ q)⟩
def asSeq : PyData → Option (List PyData)
  | .list ds => some ds
  | .tuple ds => some ds
  | _ => none
section
variable {K : PySem.W.Frag} {E : XE} {X : Cx} {tg a b e : Expr} {es : List Expr} {ma mb : M PyData} {m : M (List PyData)} {pos : Pos}
theorem gives_list {G : Hp} {a : Addr} {xs : List V} {ds : List PyData} (hs : SqL K G a xs) (ha : DqAll K G xs ds) : Gives K (Itl K a) ds G := fun i H' G1 s1 s2 => by
  have hq : SqL K H' a xs := s2.seq (s1.seq hs)
  refine ⟨fun d hd => ?_, fun hl => ⟨xs, hq, by rw [ha.length]; exact hl⟩⟩
  obtain ⟨v, h1, h2⟩ := ha.get hd
  refine ⟨⟨xs, v, hq, h1⟩, fun x H'' y => ?_⟩
  obtain ⟨rfl, y⟩ := y
  rw [y xs hq] at h1
  cases h1
  exact ⟨G1, Ps.refl s2, h2.sm s1⟩
theorem gives_tup {G : Hp} {a : Addr} {xs : List V} {ds : List PyData} (hs : SqT K G a xs) (ha : DqAll K G xs ds) : Gives K (Itt K a) ds G := fun i H' G1 s1 s2 => by
  have hq : SqT K H' a xs := Lk.Same.tup s2 (Lk.Same.tup s1 hs)
  refine ⟨fun d hd => ?_, fun hl => ⟨xs, hq, by rw [ha.length]; exact hl⟩⟩
  obtain ⟨v, h1, h2⟩ := ha.get hd
  refine ⟨⟨xs, v, hq, h1⟩, fun x H'' y => ?_⟩
  obtain ⟨rfl, y⟩ := y
  rw [y xs hq] at h1
  cases h1
  exact ⟨G1, Ps.refl s2, h2.sm s1⟩
theorem di_seq (hl : DE K E X e ma) : DI K E X tg e (ma.bind fun d => M.lift (asSeq d)) := ⟨fun hK => by
  subst hK
  refine ⟨fun pins s σ H R I h => ?_⟩
  obtain ⟨F, O, G, r, out, P, em, f⟩ := h
  have q := tM.run (Q1 := fun (x : V) H1 => (∃ a, x = V.ref a ∧ (∃ xs, SqL X.K H1 a xs) ∧ R (Itl X.K a) H1) ∨ ∃ a, x = V.ref a ∧ (∃ xs, SqT X.K H1 a xs) ∧ R (Itt X.K a) H1) (R1 := rD X.K) P f em fun d r1 x G1 H1 P1 g1 q1 e1 f1 => by
    obtain ⟨ds, hz, rfl⟩ := lift_ok e1
    cases d <;> first | cases hz | skip
    · cases q1 with
      | lst hs ha => exact .inl ⟨_, rfl, ⟨_, (P1.sub.seq hs)⟩, f1.ok (Ps.refl P1.sub) P1 (gives_list hs ha)⟩
    · cases q1 with
      | tup hs ha => exact .inr ⟨_, rfl, ⟨_, Lk.Same.tup P1.sub hs⟩, f1.ok (Ps.refl P1.sub) P1 (gives_tup hs ha)⟩
  refine thn ((hl.pe rfl).run pins s σ H _ I q) fun v s1 ⟨x, H1, I1, r1, q1⟩ => ?_
  rcases q1 with ⟨a, e, ⟨xs, hq⟩, q⟩ | ⟨a, e, ⟨xs, hq⟩, q⟩
  · subst e
    cases r1
    obtain ⟨its, rv, p, hz⟩ := I1.list hq
    refine wpAny_pyIter_list p.isList ?_
    refine ⟨s1.heap.objs.size, [s1.heap.objs.size], _, _, H1, rfl, I1.kept (t' := s1.toks) fun b o e => Heap.get?_push_of_some _ e, turn_list a _, ⟨_, Heap.get?_push_size _ rfl, rfl, rfl⟩, fun b hb => ?_, q⟩
    have e : b = s1.heap.objs.size := by simpa using hb
    subst e
    exact I1.fpOk (Nat.le_refl _) (I1.hok.fresh (Nat.le_refl _))
  · subst e
    cases r1
    obtain ⟨its, rv, p, hz⟩ := I1.tuple hq
    refine wpAny_pyIter_tuple (show s1.heap.IsTuple a its.toArray from p) ?_
    refine ⟨s1.heap.objs.size, [s1.heap.objs.size], _, _, H1, rfl, I1.kept (t' := s1.toks) fun b o e => Heap.get?_push_of_some _ e, turn_tuple a _, ⟨_, Heap.get?_push_size _ rfl, rfl, rfl⟩, fun b hb => ?_, q⟩
    have e : b = s1.heap.objs.size := by simpa using hb
    subst e
    exact I1.fpOk (Nat.le_refl _) (I1.hok.fresh (Nat.le_refl _))⟩
def rngL (lo : Int) (n : Nat) : List PyData := (List.range n).map fun i => .int (lo + (i : Nat))
def rngM : List PyData → Option (List PyData)
  | [.int j] => if j.natAbs ≤ 1000000 then some (rngL 0 j.toNat) else none
  | [.int i, .int j] => if i.natAbs ≤ 1000000 ∧ j.natAbs ≤ 1000000 then some (rngL i (j - i).toNat) else none
  | _ => none
theorem rngL_at {lo : Int} {n i : Nat} {d : PyData} (h : (rngL lo n)[i]? = some d) : i < n ∧ d = .int (lo + (i : Nat)) := by
  unfold rngL at h
  rw [List.getElem?_map] at h
  obtain ⟨k, h1, rfl⟩ := Option.map_eq_some_iff.mp h
  obtain ⟨h2, h3⟩ := List.getElem?_eq_some_iff.mp h1
  rw [List.length_range] at h2
  rw [List.getElem_range] at h3
  exact ⟨h2, by rw [h3]⟩
theorem gives_range {G : Hp} {lo : Int} {n : Nat} : Gives K (Itr lo n) (rngL lo n) G := fun i H' G1 s1 s2 => by
  refine ⟨fun d hd => ?_, fun hl => ?_⟩
  · obtain ⟨h1, rfl⟩ := rngL_at hd
    refine ⟨h1, fun x H'' y => ?_⟩
    obtain ⟨rfl, rfl⟩ := y
    exact ⟨G1, Ps.refl s2, .int _⟩
  · rw [rngL, List.length_map, List.length_range] at hl
    exact hl
theorem di_range1 {p : Pos} (hg : Gl X "range") (hm : X.mg "range" = none) (ha : DA K E X [a] m) (hs : starEach [a] X.env = [(false, eval a X.env)] := by rfl) : DI K E X tg (.Call (.Name "range" p) [a] [] pos) (m.bind fun ds => M.lift (if ds.length = 1 then rngM ds else none)) :=
  ⟨fun hK => PI.imp (pi_range1 hg hm (ha.pa hK) hs) fun σ H Q ⟨F, O, G, r, out, P, em, f⟩ => by
  refine tM.run P f em fun ds r1 xs G1 H1 P1 g1 q1 e1 f1 => ?_
  obtain ⟨z, hz, rfl⟩ := lift_ok e1
  split at hz
  · unfold rngM at hz
    split at hz
    · split at hz
      · rename_i hl
        cases hz
        obtain ⟨v, rfl, hv⟩ := one_of q1
        cases hv
        exact ⟨_, rfl, by omega, by omega, f1.ok (Ps.refl P1.sub) P1 gives_range⟩
      · cases hz
    · rename_i h2
      cases h2
    · cases hz
  · cases hz⟩
theorem di_range2 {p : Pos} (hg : Gl X "range") (hm : X.mg "range" = none) (ha : DA K E X [a, b] m) (hs : starEach [a, b] X.env = [(false, eval a X.env), (false, eval b X.env)] := by rfl) (hs2 : starEach [b] X.env = [(false, eval b X.env)] := by rfl) :
    DI K E X tg (.Call (.Name "range" p) [a, b] [] pos) (m.bind fun ds => M.lift (if ds.length = 2 then rngM ds else none)) :=
  ⟨fun hK => PI.imp (pi_range2 hg hm (ha.pa hK) hs hs2) fun σ H Q ⟨F, O, G, r, out, P, em, f⟩ => by
  refine tM.run P f em fun ds r1 xs G1 H1 P1 g1 q1 e1 f1 => ?_
  obtain ⟨z, hz, rfl⟩ := lift_ok e1
  split at hz
  · unfold rngM at hz
    split at hz
    · rename_i h2
      cases h2
    · split at hz
      · rename_i hl
        cases hz
        obtain ⟨v, w, rfl, hv, hw⟩ := two_of q1
        cases hv; cases hw
        exact ⟨_, _, rfl, ⟨by omega, by omega, by omega, by omega⟩, f1.ok (Ps.refl P1.sub) P1 gives_range⟩
      · cases hz
    · cases hz
  · cases hz⟩
end
end DL
namespace DL
open PySem PySem.Spec PyProof.Rows L2 Lk
/-! ## names change -/
section
variable {K : PySem.W.Frag} {F : Fm} {O : Ow} {G G' H H' : Hp} {σ : L2.St} {r : En}
/-- slot i gets the cell c, the value v; it is no list of our own -/
theorem Rp.put (R : Rp K F O G σ H r) {i : Nat} (o : O i = none) {v : Option V} {c : Cel} (hc : c = .un ∨ ∃ d x, c = .pl d ∧ v = some x ∧ Dq K G x d) : Rp K F O G (σ.set i v) H (r.set i c) := by
  have co : ∀ (j : Nat) (ds : List PyData), (r.set i c)[j]? = some (Cel.ow ds) ∨ (r.set i c)[j]? = some (Cel.io ds) → j ≠ i := fun j ds e z => by
    subst z
    have nc : ∀ ds, c ≠ .ow ds ∧ c ≠ .io ds := fun ds => by
      rcases hc with rfl | ⟨d, x, rfl, _⟩
      · exact ⟨fun z => Cel.noConfusion z, fun z => Cel.noConfusion z⟩
      · exact ⟨fun z => Cel.noConfusion z, fun z => Cel.noConfusion z⟩
    rw [List.getElem?_set] at e
    simp only [if_true] at e
    split at e
    · rcases e with e | e
      · exact (nc ds).1 (Option.some.inj e)
      · exact (nc ds).2 (Option.some.inj e)
    · rcases e with e | e <;> cases e
  refine ⟨R.sub, by rw [List.length_set, List.length_set]; exact R.len, fun j d e => ?_, fun j ds e => ?_, fun j ds e => ?_, fun j p e => ?_, R.inj, R.old, R.nf, R.g0, R.gn⟩
  · by_cases z : i = j
    · subst z
      have li : i < r.length := by
        have := (List.getElem?_eq_some_iff.mp e).1
        rw [List.length_set] at this
        exact this
      rw [List.getElem?_set_self li] at e
      cases e
      rcases hc with h | ⟨d', x, h, rfl, hd⟩
      · cases h
      · cases h
        exact ⟨x, by rw [List.getElem?_set_self (by rw [R.len]; exact li)], hd⟩
    · rw [List.getElem?_set_ne z] at e ⊢
      exact R.pl j d e
  · have z := co j ds (.inl e)
    rw [List.getElem?_set_ne (Ne.symm z)] at e ⊢
    exact R.ow j ds e
  · have z := co j ds (.inr e)
    rw [List.getElem?_set_ne (Ne.symm z)] at e ⊢
    exact R.io j ds e
  · obtain ⟨⟨c', h1, h2⟩, h3⟩ := R.on j p e
    have z : i ≠ j := fun z => by rw [← z, o] at e; cases e
    exact ⟨⟨c', by rw [List.getElem?_set_ne z]; exact h1, h2⟩, h3⟩
theorem Rp.forget (R : Rp K F O G (σ.set i none) H r) (o : O i = none) : Rp K F O G σ H (r.set i .un) := by
  have P := R.put (i := i) o (v := none) (c := .un) (.inl rfl)
  rw [List.set_set] at P
  refine ⟨P.sub, by have := P.len; rw [List.length_set] at this; exact this, fun j d e => ?_, fun j ds e => ?_, fun j ds e => ?_, P.on, P.inj, P.old, P.nf, P.g0, P.gn⟩
  · have z : i ≠ j := fun z => by
      subst z
      have li := (List.getElem?_eq_some_iff.mp e).1
      rw [List.length_set] at li
      rw [List.getElem?_set_self li] at e
      cases e
    have := P.pl j d e
    rw [List.getElem?_set_ne z] at this
    exact this
  · have z : i ≠ j := fun z => by
      subst z
      have li := (List.getElem?_eq_some_iff.mp e).1
      rw [List.length_set] at li
      rw [List.getElem?_set_self li] at e
      cases e
    have := P.ow j ds e
    rw [List.getElem?_set_ne z] at this
    exact this
  · have z : i ≠ j := fun z => by
      subst z
      have li := (List.getElem?_eq_some_iff.mp e).1
      rw [List.length_set] at li
      rw [List.getElem?_set_self li] at e
      cases e
    have := P.io j ds e
    rw [List.getElem?_set_ne z] at this
    exact this
/-- slot i is given a cell that its value bears -/
theorem Rp.tell (R : Rp K F O G σ H r) (o : O i = none) {c : Cel} (hc : c = .un ∨ ∃ d x, c = .pl d ∧ σ[i]? = some (some x) ∧ Dq K G x d) : Rp K F O G σ H (r.set i c) := by
  rcases hc with rfl | ⟨d, x, rfl, hx, hd⟩
  · have P := R.put o (v := none) (c := .un) (.inl rfl)
    have Q := Rp.forget P o
    rw [List.set_set] at Q
    exact Q
  · have P := R.put o (v := some x) (c := .pl d) (.inr ⟨d, x, rfl, rfl, hd⟩)
    rw [show σ.set i (some x) = σ from ?_] at P
    · exact P
    · have li := (List.getElem?_eq_some_iff.mp hx).1
      have e := (List.getElem?_eq_some_iff.mp hx).2
      rw [← e, List.set_getElem_self]
def wipeE (r : En) : List Nat → En
  | [] => r
  | v :: vs => (wipeE r vs).set v .un
theorem Rp.wipe : ∀ {vs : List Nat}, Rp K F O G σ H r → (∀ v ∈ vs, O v = none) → Rp K F O G (L2.wipe σ vs) H (wipeE r vs)
  | [], R, _ => R
  | _ :: _, R, o => (Rp.wipe R fun w hw => o w (List.mem_cons_of_mem _ hw)).put (o _ (List.mem_cons_self ..)) (.inl rfl)
def restE (r : En) : En → List Nat → En
  | r', [] => r'
  | r', v :: vs => (restE r (r'.set v .un) vs).set v ((r[v]?).getD .un)
theorem Rp.rest {r0 : En} : ∀ {vs : List Nat} {r' : En}, (∀ v ∈ vs, ∀ d, r0[v]? = some (Cel.pl d) → ∃ x, σ[v]? = some (some x) ∧ Dq K G x d) → (∀ v ∈ vs, ∀ ds, r0[v]? ≠ some (Cel.ow ds) ∧ r0[v]? ≠ some (Cel.io ds)) →
    Rp K F O G (L2.wipe σ vs) H r' → (∀ v ∈ vs, O v = none) → Rp K F O G σ H (restE r0 r' vs)
  | [], _, _, _, R, _ => R
  | v :: vs, r', h1, h2, R, o => by
    have ov := o v (List.mem_cons_self ..)
    have R1 : Rp K F O G (L2.wipe σ vs) H (r'.set v .un) := Rp.forget R ov
    refine (Rp.rest (fun w hw => h1 w (List.mem_cons_of_mem _ hw)) (fun w hw => h2 w (List.mem_cons_of_mem _ hw)) R1 fun w hw => o w (List.mem_cons_of_mem _ hw)).tell ov ?_
    cases e : r0[v]? with
    | none => exact .inl rfl
    | some c =>
      cases c with
      | un => exact .inl rfl
      | pl d =>
        obtain ⟨x, hx, hd⟩ := h1 v (List.mem_cons_self ..) d e
        exact .inr ⟨d, x, rfl, hx, hd⟩
      | ow ds => exact absurd e (h2 v (List.mem_cons_self ..) ds).1
      | io ds => exact absurd e (h2 v (List.mem_cons_self ..) ds).2
/-- an object that nobody sees is written -/
theorem Rp.wr (R : Rp K F O G σ H r) {D : Addr} {o : HO} (g : G D = none) (h0 : F.H0 D = none) (ho : ∀ i, O i ≠ some D) : Rp K F O G σ (upd H D o) r where
  sub := fun c x e => by
    rw [upd_ne (ne_of_none e g)]
    exact R.sub _ _ e
  len := R.len
  pl := R.pl
  ow := fun i ds e => by
    obtain ⟨p, xs, h1, h2, h3, h4, h5⟩ := R.ow i ds e
    exact ⟨p, xs, h1, h2, h3, by rw [upd_ne fun z => ho i (by rw [h1, z])]; exact h4, h5⟩
  io := fun i ds e => by
    obtain ⟨p, xs, h0, h1, h2, h4, h5⟩ := R.io i ds e
    exact ⟨p, xs, h0, h1, h2, by rw [upd_ne fun z => ho i (by rw [h1, z])]; exact h4, h5⟩
  on := fun i p e => by
    obtain ⟨h1, h2, h3, h4⟩ := R.on i p e
    exact ⟨h1, h2, by rw [upd_ne fun z => ho i (by rw [e, z])]; exact h3, h4⟩
  inj := R.inj
  old := fun c x e n => by
    rw [upd_ne (ne_of_none e h0)]
    exact R.old c x e n
  nf := fun c e => by
    by_cases z : c = D
    · rw [z]
      exact h0
    · rw [upd_ne z] at e
      exact R.nf c e
  g0 := R.g0
  gn := R.gn
theorem Go.wr {G1 H1 : Hp} (g : Go O G1 H1 G H) {D : Addr} {o : HO} (n : H1 D = none) : Go O G1 H1 G (upd H D o) := by
  refine ⟨g.gg, fun c x e no => ?_, g.gn, fun c e => ?_⟩
  · rw [upd_ne (ne_of_none e n)]
    exact g.keep c x e no
  · by_cases z : c = D
    · rw [z]
      exact n
    · rw [upd_ne z] at e
      exact g.nf c e
end
/-! ## targets -/
def gN (i : Nat) : PyData → En → Option En := fun d r => match r[i]? with
  | some c => if c.own then none else some (r.set i (.pl d))
  | none => none
def tG (K : PySem.W.Frag) (ts : List Nat) (g : PyData → En → Option En) : TG := fun x σ H Q => ∃ F O G r r' d, Rp K F O G σ H r ∧ Dq K G x d ∧ g d r = some r' ∧
  ∀ σ', Rp K F O G σ' H r' → σ'.length = σ.length → (∀ j, j ∉ ts → σ'[j]? = σ[j]?) → Q σ' H
structure DG (K : PySem.W.Frag) (X : Cx) (tg : Expr) (ts : List Nat) (g : PyData → En → Option En) : Prop where
  pg : X.K = K → PG X tg (tG K ts g)
theorem PG.imp {X : Cx} {tg : Expr} {t t' : TG} (h : PG X tg t) (i : ∀ v σ H Q, t' v σ H Q → t v σ H Q) : PG X tg t' := ⟨fun pins s σ H v u Q I r q => h.run pins s σ H v u Q I r (i _ _ _ _ q)⟩
theorem PGs.imp {X : Cx} {tg : List Expr} {t t' : TGs} (h : PGs X tg t) (i : ∀ v σ H Q, t' v σ H Q → t v σ H Q) : PGs X tg t' := ⟨fun pins s σ H v u Q I r q => h.run pins s σ H v u Q I r (i _ _ _ _ q)⟩
def gNilD : List PyData → En → Option En := fun ds r => if ds.isEmpty then some r else none
def gConsD (g : PyData → En → Option En) (h : List PyData → En → Option En) : List PyData → En → Option En := fun ds r => match ds with
  | [] => none
  | d :: ds => (g d r).bind (h ds)
def tGs (K : PySem.W.Frag) (ts : List Nat) (g : List PyData → En → Option En) : TGs := fun xs σ H Q => ∃ F O G r r' ds, Rp K F O G σ H r ∧ DqAll K G xs ds ∧ g ds r = some r' ∧
  ∀ σ', Rp K F O G σ' H r' → σ'.length = σ.length → (∀ j, j ∉ ts → σ'[j]? = σ[j]?) → Q σ' H
structure DGs (K : PySem.W.Frag) (X : Cx) (tg : List Expr) (ts : List Nat) (g : List PyData → En → Option En) : Prop where
  pg : X.K = K → PGs X tg (tGs K ts g)
def gTupD (n : Nat) (g : List PyData → En → Option En) : PyData → En → Option En := fun d r => match d with
  | .tuple ds => if ds.length = n then g ds r else none
  | _ => none
section
variable {K : PySem.W.Frag} {X : Cx} {pos : Pos}
theorem Rp.not_own {F : Fm} {O : Ow} {G H : Hp} {σ : L2.St} {r : En} (R : Rp K F O G σ H r) {i : Nat} {c : Cel} (e : r[i]? = some c) (n : ¬ c.own = true) : O i = none := by
  cases q : O i with
  | none => rfl
  | some p =>
    obtain ⟨⟨c', h1, h2⟩, _⟩ := R.on i p q
    rw [e] at h1
    cases h1
    exact absurd h2 n
theorem dg_name (i : Nat) {x : Str} (hN : X.N.Nodup) (hi : X.N[i]? = some x) (hx : Loc X.env.scope x) (hf : X.fn x = true ∨ X.env.scope.names.lookup x = some .local := by first | exact .inl rfl | exact .inr rfl | assumption) : DG K X (.Name x pos) [i] (gN i) :=
  ⟨fun hK => PG.imp (pg_name hN hi hx hf) fun v σ H Q ⟨F, O, G, r, r', d, P, hd, hg, q⟩ => by
  unfold gN at hg
  split at hg
  · rename_i c e
    split at hg
    · cases hg
    · rename_i n
      cases hg
      refine q _ (P.put (P.not_own e n) (.inr ⟨d, v, rfl, rfl, hd⟩)) (List.length_set ..) fun j hj => ?_
      rw [List.getElem?_set_ne]
      intro z
      exact hj (by rw [z]; exact List.mem_cons_self ..)
  · cases hg⟩
theorem dgs_nil : DGs K X [] [] gNilD := ⟨fun hK => PGs.imp pgs_nil fun v σ H Q ⟨F, O, G, r, r', ds, P, hd, hg, q⟩ => by
  unfold gNilD at hg
  split at hg
  · rename_i he
    cases hg
    cases ds with
    | nil =>
      cases hd
      exact ⟨rfl, q _ P rfl fun _ _ => rfl⟩
    | cons _ _ => cases he
  · cases hg⟩
theorem dgs_cons {e : Expr} {es : List Expr} {ts us : List Nat} {g : PyData → En → Option En} {h : List PyData → En → Option En} (h1 : DG K X e ts g) (h2 : DGs K X es us h)
    (hs : (assignEach (e :: es) X.env).map (·.2) = assign e X.env :: (assignEach es X.env).map (·.2) := by rfl) : DGs K X (e :: es) (ts ++ us) (gConsD g h) := ⟨fun hK => PGs.imp (pgs_cons (h1.pg hK) (h2.pg hK) hs) fun v σ H Q ⟨F, O, G, r, r', ds, P, hd, hg, q⟩ => by
  cases ds with
  | nil => cases hg
  | cons d ds =>
    cases hd with
    | cons hd1 hd2 =>
      obtain ⟨r1, e1, e2⟩ := Option.bind_eq_some_iff.mp hg
      refine ⟨_, _, rfl, F, O, G, r, r1, d, P, hd1, e1, fun σ' P' l' k' => ?_⟩
      exact ⟨F, O, G, r1, r', ds, P', hd2, e2, fun σ2 P2 l2 k2 => q σ2 P2 (l2.trans l') fun j hj => by
        rw [List.mem_append, not_or] at hj
        rw [k2 j hj.2, k' j hj.1]⟩⟩
theorem dg_tup {es : List Expr} {k : Nat} {n : Nat} {ts : List Nat} {g : List PyData → En → Option En} (hc : X.calm = true) (h : DGs K X es ts g)
    (hn : (assignEach es X.env).length = n := by rfl) (hst : (assignEach es X.env).findIdx? (·.1) = none := by rfl) : DG K X (.Tuple es k pos) ts (gTupD n g) := ⟨fun hK => by
  subst hK
  refine PG.imp (pg_tup hc (h.pg rfl) hn hst) fun v σ H Q ⟨F, O, G, r, r', d, P, hd, hg, q⟩ => ?_
  unfold gTupD at hg
  split at hg
  · split at hg
    · rename_i hl
      cases hd with
      | tup hs ha => exact ⟨_, _, rfl, Lk.Same.tup P.sub hs, by rw [ha.length]; exact hl, F, O, G, r, r', _, P, ha, hg, q⟩
    · cases hg
  · cases hg⟩
end
/-! ## comprehensions -/
def lcGo (vs : List Nat) (g : PyData → En → Option En) (mt : M Bool) (me : M PyData) : List PyData → En → Option (List PyData × En)
  | [], r => some ([], wipeE r vs)
  | x :: xs, r => (g x (wipeE r vs)).bind fun r1 => match mt r1 with
    | some (.ok true r2) => (match me r2 with
      | some (.ok d r3) => (lcGo vs g mt me xs r3).map fun z => (d :: z.1, z.2)
      | _ => none)
    | some (.ok false r2) => lcGo vs g mt me xs r2
    | _ => none
def freeAt (r : En) (vs : List Nat) : Bool := vs.all fun v => match r[v]? with
  | some c => !c.own
  | none => true
def mLc (vs : List Nat) (mi : M (List PyData)) (g : PyData → En → Option En) (mt : M Bool) (me : M PyData) : M (List PyData) := mi.bind fun items r =>
  if freeAt r vs && decide (items.length ≤ 1000000) then (lcGo vs g mt me items r).map fun z => .ok z.1 (restE r z.2 vs) else none
abbrev mYes : M Bool := M.ret true
structure DTs (K : PySem.W.Frag) (X : Cx) (ifs : List Expr) (m : M Bool) : Prop where
  pt : X.K = K → PTs X ifs (tM K XN rB m)
theorem PTs.imp {X : Cx} {es : List Expr} {t t' : TT} (h : PTs X es t) (i : ∀ σ H Q, t' σ H Q → t σ H Q) : PTs X es t' := ⟨fun pins s σ H Q I q => h.run pins s σ H Q I (i _ _ _ q)⟩
section
variable {K : PySem.W.Frag} {E : XE} {X : Cx} {pos : Pos}
theorem dts_nil : DTs K X [] mYes := ⟨fun _ => PTs.imp pts_nil fun σ H Q ⟨F, O, G, r, out, P, em, f⟩ => by
  cases em
  exact f.ok (Ps.refl P.sub) P rfl⟩
theorem dts_one {c : Expr} {m : M Bool} (h : DT K XN X c m) : DTs K X [c] m := ⟨fun hK => pts_one (h.pt hK)⟩
theorem free_own {F : Fm} {O : Ow} {G H : Hp} {σ : L2.St} {r : En} {vs : List Nat} (R : Rp K F O G σ H r) (h : freeAt r vs = true) : ∀ v ∈ vs, O v = none := fun v hv => by
  have q := List.all_eq_true.mp h v hv
  cases z : O v with
  | none => rfl
  | some p =>
    obtain ⟨⟨c, h1, h2⟩, _⟩ := R.on v p z
    rw [h1] at q
    simp only [h2] at q
    cases q
theorem wipe_eq {σ σ' : L2.St} (hl : σ'.length = σ.length) : ∀ {vs : List Nat}, (∀ j, j ∉ vs → σ'[j]? = σ[j]?) → L2.wipe σ' vs = L2.wipe σ vs := fun {vs} h => by
  refine List.ext_getElem? fun j => ?_
  by_cases hj : j ∈ vs
  · have w : ∀ {σ : L2.St} {vs : List Nat}, j ∈ vs → (L2.wipe σ vs)[j]? = if j < σ.length then some none else none := fun {σ vs} => by
      induction vs with
      | nil => intro h; cases h
      | cons v vs ih =>
        intro h
        show ((L2.wipe σ vs).set v none)[j]? = _
        by_cases e : v = j
        · subst e
          rw [List.getElem?_set]
          simp only [if_true, wipe_length]
        · rw [List.getElem?_set_ne e]
          rcases List.mem_cons.mp h with z | z
          · exact absurd z.symm e
          · exact ih z
    rw [w hj, w hj, hl]
  · rw [wipe_out hj, wipe_out hj, h j hj]
theorem wipe_wipe {σ : L2.St} {vs : List Nat} : L2.wipe (L2.wipe σ vs) vs = L2.wipe σ vs := wipe_eq (wipe_length _ _) fun j hj => by rw [wipe_out hj]
theorem lc_run {vs ts : List Nat} {mi : M (List PyData)} {g : PyData → En → Option En} {mt : M Bool} {me : M PyData} (hts : ∀ t ∈ ts, t ∈ vs) {σ : L2.St} {H : Hp} {Q : VK} (h : tM K E (rF K) (mLc vs mi g mt me) σ H Q) :
    tLc (tM K E (rIt K) mi) (tG K ts g) (tM K XN rB mt) (tM K XN (rD K) me) vs σ H Q := by
  obtain ⟨F, O, G, r, out, P, em, f⟩ := h
  refine tM.run P f em fun items r1 J G1 H1 P1 g1 q1 e1 f1 => ?_
  split at e1
  · rename_i hcond
    rw [Bool.and_eq_true, decide_eq_true_eq] at hcond
    obtain ⟨hfree, hlen⟩ := hcond
    obtain ⟨⟨ds, r'⟩, hgo, rfl⟩ := Option.map_eq_some_iff.mp e1
    have ov := free_own P1 hfree
    intro D nD
    have hD0 : F.H0 D = none := P1.nf _ nD
    have hDo : ∀ i, O i ≠ some D := fun i z => (P1.on i D z).2.2.1 nD
    have hDG : G1 D = none := P1.sub.free nD
    refine ⟨fun i m H' => m = items.length - i ∧ i ≤ items.length ∧ ∃ G' r2 xs ds0 ds1, Rp K F O G' (L2.wipe σ vs) H' (wipeE r2 vs) ∧ Go O G1 H1 G' H' ∧ G' D = none ∧ H' D = some (.lst xs) ∧ DqAll K G' xs ds0 ∧ xs.length ≤ i ∧ lcGo vs g mt me (items.drop i) r2 = some (ds1, r') ∧ ds = ds0 ++ ds1,
      ⟨items.length, by simp, Nat.zero_le _, G1, r1, [], [], ds, ?_, ?_, hDG, upd_same, .nil, Nat.zero_le _, hgo, rfl⟩, ?_⟩
    · exact (P1.wr hDG hD0 hDo).wipe ov
    · exact Go.refl.wr nD
    rintro i m H' ⟨rfl, hi, G', r2, xs, ds0, ds1, P2, g2, gD, hD, hx, lx, hgo2, rfl⟩
    by_cases hlt : i < items.length
    · refine .inr ?_
      have e3 := List.getElem?_eq_getElem hlt
      rw [List.drop_eq_getElem_cons hlt] at hgo2
      obtain ⟨jgo, jy⟩ := (q1 i H' G' g2.gg P2.sub).1 _ e3
      refine ⟨jgo, _, fun H4 p => ⟨_, (by omega : items.length - (i + 1) < items.length - i), p⟩, fun x H'' y => ?_⟩
      obtain ⟨G2, ps, hd⟩ := jy x H'' y
      obtain ⟨r3, e4, e5⟩ := Option.bind_eq_some_iff.mp hgo2
      have g2D : G2 D = none := by
        cases z : G2 D with
        | none => rfl
        | some o =>
          rcases ps.gn D (some_ne z) with w | w
          · exact absurd gD w
          · rw [hD] at w
            cases w
      refine ⟨F, O, G2, _, r3, _, P2.ps ps, hd, e4, fun σ2 P3 l3 k3 => ⟨?_, ?_⟩⟩
      · have := wipe_eq l3 (vs := vs) fun j hj => k3 j fun z => hj (hts j z)
        rw [this, wipe_wipe]
      have w3 : L2.wipe σ2 vs = L2.wipe σ vs := by
        have := wipe_eq l3 (vs := vs) fun j hj => k3 j fun z => hj (hts j z)
        rw [this, wipe_wipe]
      have gg3 := g2.trans (ps.go (O := O))
      have hD3 := ps.hh _ _ hD
      cases em3 : mt r3 with
      | none => rw [em3] at e5; cases e5
      | some o3 =>
        rw [em3] at e5
        cases o3 with
        | ex c p => cases e5
        | ok b r4 =>
          refine ⟨F, O, G2, r3, _, P3, em3, fun b' G4 H4 P4 g4 hb => ?_⟩
          cases hb
          have hD4 := g4.keep _ _ hD3 hDo
          have gD4 : G4 D = none := by
            cases z : G4 D with
            | none => rfl
            | some o =>
              rcases g4.gn D (some_ne z) with w | w
              · exact absurd g2D w
              · rw [hD3] at w
                cases w
          have gg4 := gg3.trans g4
          cases b with
          | false =>
            refine iteF ⟨rfl, hlt, G4, r4, xs, ds0, ds1, ?_, gg4, gD4, hD4, hx.sm (ps.gg.trans g4.gg), by omega, e5, rfl⟩
            have := P4.wipe ov
            rw [w3] at this
            exact this
          | true =>
            refine iteT ?_
            cases em5 : me r4 with
            | none =>
              simp only [em5] at e5
              cases e5
            | some o5 =>
              cases o5 with
              | ex c p =>
                simp only [em5] at e5
                cases e5
              | ok d r5 =>
                simp only [em5] at e5
                obtain ⟨⟨ds2, r6⟩, hgo6, e6⟩ := Option.map_eq_some_iff.mp e5
                cases e6
                refine ⟨F, O, G4, r4, _, P4, em5, fun y G5 H5 P5 g5 hy => ?_⟩
                have hD5 := g5.keep _ _ hD4 hDo
                have gD5 : G5 D = none := by
                  cases z : G5 D with
                  | none => rfl
                  | some o =>
                    rcases g5.gn D (some_ne z) with w | w
                    · exact absurd gD4 w
                    · rw [hD4] at w
                      cases w
                refine ⟨xs, hD5, line_lt (by omega), rfl, hlt, G5, r5, xs ++ [y], ds0 ++ [d], ds2, ?_, (gg4.trans g5).wr nD, gD5, upd_same, (hx.sm ((ps.gg.trans g4.gg).trans g5.gg)).append (.cons hy .nil), by rw [List.length_append]; simp; omega, hgo6, by rw [List.append_assoc]; rfl⟩
                have := (P5.wr (o := .lst (xs ++ [y])) gD5 hD0 hDo).wipe ov
                rw [w3] at this
                exact this
    · refine .inl ?_
      have e3 : i = items.length := by omega
      subst e3
      rw [List.drop_length] at hgo2
      cases hgo2
      rw [List.append_nil] at f1
      refine ⟨(q1 _ H' G' g2.gg P2.sub).2 (Nat.le_refl _), f1 _ G' H' (Rp.rest (fun v hv d e => ?_) (fun v hv ds => ?_) P2 ov) g2 ⟨D, xs, rfl, nD, gD, hD0, hDo, hD, hx⟩⟩
      · obtain ⟨x, h1, h2⟩ := P1.pl v d e
        exact ⟨x, h1, h2.sm g2.gg⟩
      · have q := List.all_eq_true.mp hfree v hv
        refine ⟨fun e => ?_, fun e => ?_⟩
        · rw [e] at q
          cases q
        · rw [e] at q
          cases q
  · cases e1
theorem df_lc {elt tg iter : Expr} {ifs : List Expr} {scope : Scope} {own : List (Str × Nat)} {ts : List Nat} {mi : M (List PyData)} {g : PyData → En → Option En} {mt : M Bool} {me : M PyData} (hc : X.calm = true) (hN : X.N.Nodup) (hi : DI K E X tg iter mi) (ok : BlkOk X.N X.env.scope scope own)
    (hg : ∀ (s : Shared) (H : Hp) (C : Addr) (cl : List (Str × Addr)) (fp : List Addr), DG K (X.blk s H scope (compEnvC scope cl C X.env) fp) tg ts g) (ht : ∀ (s : Shared) (H : Hp) (C : Addr) (cl : List (Str × Addr)) (fp : List Addr), DTs K (X.blk s H scope (compEnvC scope cl C X.env) fp) ifs mt)
    (he : ∀ (s : Shared) (H : Hp) (C : Addr) (cl : List (Str × Addr)) (fp : List Addr), DE K XN (X.blk s H scope (compEnvC scope cl C X.env) fp) elt me) (hts : ∀ t ∈ ts, t ∈ own.map (·.2) := by decide) (hs : ∀ x, foldedSetIterable iter X.env x = pure x := by intro _; rfl) :
    DF K E X (.ListComp elt [⟨tg, iter, ifs, 0⟩] scope pos) (mLc (own.map (·.2)) mi g mt me) :=
  ⟨fun hK => PE.imp (pe_lc hc hN (hi.pi hK) ok (fun s H C cl fp => (hg s H C cl fp).pg hK) (fun s H C cl fp => (ht s H C cl fp).pt hK) (fun s H C cl fp => (he s H C cl fp).pe hK) hs) fun _ _ _ h => lc_run hts h⟩
end
end DL
namespace DL
open PySem PySem.Spec PyProof.Rows L2 Lk
/-! ## statements -/
inductive Fl where
  | nx (r : En) | rt (d : PyData) (r : En) | bk (r : En) | ct (r : En) | ex (c : Str) (p : List PyData) | rf (ds : List PyData) (r : En)
abbrev SM := En → Option Fl
def FinS (K : PySem.W.Frag) (E : XE) (F : Fm) (G : Hp) (D : Ends) : Fl → Prop
  | .nx r' => ∀ O' G' σ' H', Rp K F O' G' σ' H' r' → Same G G' → D.nx σ' H'
  | .bk r' => ∀ O' G' σ' H', Rp K F O' G' σ' H' r' → Same G G' → D.bk σ' H'
  | .ct r' => ∀ O' G' σ' H', Rp K F O' G' σ' H' r' → Same G G' → D.ct σ' H'
  | .rt d r' => ∀ O' G' σ' H' v, Rp K F O' G' σ' H' r' → Same G G' → Dq K G' v d → D.rt v H'
  | .ex c p => ∀ H', (∀ c o, F.H0 c = some o → (∀ i, F.ios i ≠ some c) → H' c = some o) → E c p H'
  | .rf ds r' => ∀ O' G' σ' H' p xs, Rp K F O' G' σ' H' r' → Same G G' → G' p = none → F.H0 p = none → H' p = some (.lst xs) → DqAll K G' xs ds → D.rt (.ref p) H'
def tS (K : PySem.W.Frag) (E : XE) (m : SM) : TS := fun D σ H => ∃ F O G r fl, Rp K F O G σ H r ∧ m r = some fl ∧ FinS K E F G D fl
structure DS (K : PySem.W.Frag) (E : XE) (X : Cx) (st : Stmt) (m : SM) : Prop where
  ps : X.K = K → PS X st (tS K E m)
structure DSs (K : PySem.W.Frag) (E : XE) (X : Cx) (st : List Stmt) (m : SM) : Prop where
  ps : X.K = K → PSs X st (tS K E m)
def sBind {α : Type} (m : M α) (k : α → SM) : SM := fun r => match m r with
  | some (.ok a r') => k a r'
  | some (.ex c p) => some (.ex c p)
  | none => none
def sNil : SM := fun r => some (.nx r)
def sSeq (a b : SM) : SM := fun r => match a r with
  | some (.nx r') => b r'
  | o => o
section
variable {X : Cx} {st : Stmt} {sts : List Stmt}
theorem PS.imp {t t' : TS} (h : PS X st t) (i : ∀ D σ H, t' D σ H → t D σ H) : PS X st t' := ⟨fun pins s σ H D I q => h.run pins s σ H D I (i _ _ _ q)⟩
theorem PSs.imp {t t' : TS} (h : PSs X sts t) (i : ∀ D σ H, t' D σ H → t D σ H) : PSs X sts t' := ⟨fun pins s σ H D I q => h.run pins s σ H D I (i _ _ _ q)⟩
end
section
variable {K : PySem.W.Frag} {E : XE} {F : Fm} {O : Ow} {G G1 H H1 : Hp} {σ : L2.St} {r : En} {α β : Type} {D : Ends} {fl : Fl}
theorem FinS.via (g : Same G G1) (f : FinS K E F G D fl) : FinS K E F G1 D fl := by
  cases fl with
  | nx r' => exact fun O' G' σ' H' p q => f O' G' σ' H' p (g.trans q)
  | bk r' => exact fun O' G' σ' H' p q => f O' G' σ' H' p (g.trans q)
  | ct r' => exact fun O' G' σ' H' p q => f O' G' σ' H' p (g.trans q)
  | rt d r' => exact fun O' G' σ' H' v p q => f O' G' σ' H' v p (g.trans q)
  | ex c p => exact f
  | rf ds r' => exact fun O' G' σ' H' p xs q s => f O' G' σ' H' p xs q (g.trans s)
theorem tS.run {R1 : RR β α} {Q1 : β → Hp → Prop} {m : M α} {k : α → SM} (P : Rp K F O G σ H r) (f : FinS K E F G D fl) (e : sBind m k r = some fl)
    (h : ∀ a r1 b G1 H1, Rp K F O G1 σ H1 r1 → Go O G H G1 H1 → R1 H O F G1 H1 b a → k a r1 = some fl → FinS K E F G1 D fl → Q1 b H1) : tM K E R1 m σ H Q1 := by
  cases em : m r with
  | none =>
    rw [sBind, em] at e
    cases e
  | some o =>
    cases o with
    | ok a r1 =>
      rw [sBind, em] at e
      exact ⟨F, O, G, r, _, P, em, fun b G1 H1 P1 g1 q => h a r1 b G1 H1 P1 g1 q e (f.via g1.gg)⟩
    | ex c p =>
      rw [sBind, em] at e
      cases e
      exact ⟨F, O, G, r, _, P, em, f⟩
end
def sExpr (m : M PyData) : SM := sBind m fun _ => sNil
def sRet (m : M PyData) : SM := sBind m fun d r => some (.rt d r)
def sRetN : SM := fun r => some (.rt .none r)
def sIf (c : M Bool) (a b : SM) : SM := sBind c fun k => if k then a else b
/-- slot i holds d from now on -/
def sPut (i : Nat) (d : PyData) : SM := fun r => match r[i]? with
  | some (.io _) => none
  | some _ => some (.nx (r.set i (.pl d)))
  | none => none
def sSet (i : Nat) (m : M PyData) : SM := sBind m (sPut i)
def sPutO (i : Nat) (ds : List PyData) : SM := fun r => match r[i]? with
  | some (.io _) => none
  | some _ => some (.nx (r.set i (.ow ds)))
  | none => none
/-- slot i owns a new list -/
def sOwn (i : Nat) (m : M (List PyData)) : SM := sBind m (sPutO i)
/-- the list in slot i is never changed again -/
def sFrz (i : Nat) (m : SM) : SM := fun r => match r[i]? with
  | some (.ow ds) => m (r.set i (.pl (.list ds)))
  | _ => m r
def ownOf : Option Cel → Option (List PyData)
  | some (.ow ds) => some ds
  | some (.io ds) => some ds
  | _ => none
def reOwn (ds : List PyData) : Cel → Cel
  | .io _ => .io ds
  | _ => .ow ds
/-- what is in the list in slot i -/
def upO (i : Nat) (ds : List PyData) (r : En) : En := match r[i]? with
  | some c => r.set i (reOwn ds c)
  | none => r
section
variable {K : PySem.W.Frag} {F : Fm} {O : Ow} {G H : Hp} {σ : L2.St} {r : En}
theorem dropO (R : Rp K F O G σ H r) {i : Nat} (hio : ∀ ds, r[i]? ≠ some (Cel.io ds)) : Rp K F (fun j => if j = i then none else O j) G σ H (r.set i .un) := by
  have ne : ∀ (j : Nat) (c : Cel), (r.set i .un)[j]? = some c → c ≠ .un → j ≠ i ∧ r[j]? = some c := fun j c e n => by
    by_cases z : i = j
    · subst z
      rw [List.getElem?_set] at e
      simp only [if_true] at e
      split at e
      · exact absurd (Option.some.inj e).symm n
      · cases e
    · rw [List.getElem?_set_ne z] at e
      exact ⟨Ne.symm z, e⟩
  refine ⟨R.sub, by rw [List.length_set]; exact R.len, fun j d e => ?_, fun j ds e => ?_, fun j ds e => ?_, fun j p e => ?_, fun a b p e1 e2 => ?_, R.old, R.nf, R.g0, R.gn⟩
  · exact R.pl j d (ne j _ e fun z => Cel.noConfusion z).2
  · obtain ⟨z, e'⟩ := ne j _ e fun z => Cel.noConfusion z
    obtain ⟨p, xs, h1, h2⟩ := R.ow j ds e'
    exact ⟨p, xs, by rw [if_neg z]; exact h1, h2⟩
  · obtain ⟨z, e'⟩ := ne j _ e fun z => Cel.noConfusion z
    obtain ⟨p, xs, h0, h1, h2⟩ := R.io j ds e'
    exact ⟨p, xs, h0, by rw [if_neg z]; exact h1, h2⟩
  · split at e
    · cases e
    · rename_i z
      obtain ⟨⟨c, h1, h2⟩, h3⟩ := R.on j p e
      exact ⟨⟨c, by rw [List.getElem?_set_ne (Ne.symm z)]; exact h1, h2⟩, h3⟩
  · split at e1
    · cases e1
    · split at e2
      · cases e2
      · exact R.inj a b p e1 e2
theorem Rp.put0 (R : Rp K F O G σ H r) {i : Nat} (hio : ∀ ds, r[i]? ≠ some (Cel.io ds)) {v : V} {d : PyData} (hd : Dq K G v d) : Rp K F (fun j => if j = i then none else O j) G (σ.set i (some v)) H (r.set i (.pl d)) := by
  have P := (dropO R hio).put (i := i) (by show (if i = i then none else O i) = none; rw [if_pos rfl]) (v := some v) (c := .pl d) (.inr ⟨d, v, rfl, rfl, hd⟩)
  rw [List.set_set] at P
  exact P
theorem Rp.own0 (R : Rp K F O G σ H r) {i : Nat} (hi : i < r.length) (hio : ∀ ds, r[i]? ≠ some (Cel.io ds)) {p : Addr} {xs : List V} {ds : List PyData} (g : G p = none) (h0 : F.H0 p = none) (ho : ∀ j, O j ≠ some p) (hp : H p = some (.lst xs)) (ha : DqAll K G xs ds) :
    Rp K F (fun j => if j = i then some p else O j) G (σ.set i (some (.ref p))) H (r.set i (.ow ds)) := by
  have P := dropO R hio
  have ne : ∀ (j : Nat) (c : Cel), (r.set i (.ow ds))[j]? = some c → j ≠ i → (r.set i .un)[j]? = some c := fun j c e z => by
    rw [List.getElem?_set_ne (Ne.symm z)] at e ⊢
    exact e
  have li : i < σ.length := by rw [R.len]; exact hi
  refine ⟨P.sub, by rw [List.length_set, List.length_set]; exact R.len, fun j d e => ?_, fun j ds' e => ?_, fun j ds' e => ?_, fun j q e => ?_, fun a b q e1 e2 => ?_, R.old, R.nf, R.g0, R.gn⟩
  · by_cases z : j = i
    · subst z
      rw [List.getElem?_set_self hi] at e
      cases e
    · obtain ⟨v, h1, h2⟩ := P.pl j d (ne j _ e z)
      exact ⟨v, by rw [List.getElem?_set_ne (Ne.symm z)]; exact h1, h2⟩
  · by_cases z : j = i
    · subst z
      rw [List.getElem?_set_self hi] at e
      cases e
      exact ⟨p, xs, by rw [if_pos rfl], by rw [List.getElem?_set_self li], h0, hp, ha⟩
    · obtain ⟨q, ys, h1, h2, h3⟩ := P.ow j ds' (ne j _ e z)
      rw [if_neg z] at h1
      exact ⟨q, ys, by rw [if_neg z]; exact h1, by rw [List.getElem?_set_ne (Ne.symm z)]; exact h2, h3⟩
  · by_cases z : j = i
    · subst z
      rw [List.getElem?_set_self hi] at e
      cases e
    · obtain ⟨q, ys, h0, h1, h2, h3⟩ := P.io j ds' (ne j _ e z)
      rw [if_neg z] at h1
      exact ⟨q, ys, h0, by rw [if_neg z]; exact h1, by rw [List.getElem?_set_ne (Ne.symm z)]; exact h2, h3⟩
  · split at e
    · rename_i z
      subst z
      cases e
      exact ⟨⟨_, List.getElem?_set_self hi, rfl⟩, g, some_ne hp, .inl h0⟩
    · rename_i z
      obtain ⟨⟨c, h1, h2⟩, h3⟩ := R.on j q e
      exact ⟨⟨c, by rw [List.getElem?_set_ne (Ne.symm z)]; exact h1, h2⟩, h3⟩
  · split at e1
    · rename_i z1
      split at e2
      · rename_i z2
        rw [z1, z2]
      · cases e1
        exact absurd e2 (ho b)
    · split at e2
      · cases e2
        exact absurd e1 (ho a)
      · exact R.inj a b q e1 e2
theorem Rp.frz (R : Rp K F O G σ H r) {i : Nat} {ds : List PyData} (e : r[i]? = some (Cel.ow ds)) : ∃ O' G', Same G G' ∧ Rp K F O' G' σ H (r.set i (.pl (.list ds))) := by
  obtain ⟨p, xs, h1, h2, h0, h3, h4⟩ := R.ow i ds e
  have hio : ∀ ds', r[i]? ≠ some (Cel.io ds') := fun ds' z => by rw [e] at z; cases z
  have gp : G p = none := (R.on i p h1).2.1
  have P := dropO R hio
  have no : ∀ j, (fun j => if j = i then none else O j) j ≠ some p := fun j z => by
    dsimp only at z
    split at z
    · cases z
    · rename_i n
      exact n (R.inj j i p z h1)
  have Q := P.see h3 gp h0 no
  have S := Q.tell (i := i) (c := .pl (.list ds)) (by show (if i = i then none else O i) = none; rw [if_pos rfl]) (.inr ⟨_, .ref p, rfl, h2, .lst (.inl (.inl upd_same)) (h4.sm (same_new gp))⟩)
  rw [List.set_set] at S
  exact ⟨_, _, same_new gp, S⟩
/-- the list of slot i -/
theorem Rp.own_at (R : Rp K F O G σ H r) {i : Nat} {ds : List PyData} (e : ownOf r[i]? = some ds) : ∃ p xs, O i = some p ∧ σ[i]? = some (some (.ref p)) ∧ H p = some (.lst xs) ∧ DqAll K G xs ds := by
  cases h : r[i]? with
  | none => rw [h] at e; cases e
  | some c =>
    rw [h] at e
    cases c with
    | ow ds' =>
      cases e
      obtain ⟨p, xs, h1, h2, _, h3, h4⟩ := R.ow i _ h
      exact ⟨p, xs, h1, h2, h3, h4⟩
    | io ds' =>
      cases e
      obtain ⟨p, xs, _, h1, h2, h3, h4⟩ := R.io i _ h
      exact ⟨p, xs, h1, h2, h3, h4⟩
    | _ => cases e
/-- the list of slot i changes -/
theorem Rp.chg (R : Rp K F O G σ H r) {i : Nat} {ds ds' : List PyData} (e : ownOf r[i]? = some ds) {p : Addr} (hp : O i = some p) {H' G' : Hp} {xs : List V} (gg : Same G G') (gh : Same G' H') (gp : G' p = none) (k : ∀ c o, c ≠ p → H c = some o → H' c = some o) (gn : ∀ c, G' c ≠ none → G c ≠ none ∨ H c = none)
    (hx : H' p = some (.lst xs)) (ha : DqAll K G' xs ds') : Rp K F O G' σ H' (upO i ds' r) ∧ Go O G H G' H' := by
  obtain ⟨c, hc, hown⟩ : ∃ c, r[i]? = some c ∧ c.own = true := by
    obtain ⟨h1, _⟩ := R.on i p hp
    exact h1
  have li := (List.getElem?_eq_some_iff.mp hc).1
  have eu : upO i ds' r = r.set i (reOwn ds' c) := by unfold upO; rw [hc]
  have hpn : H p ≠ none := (R.on i p hp).2.2.1
  have nf : ∀ c, H' c = none → H c = none := fun c e => by
    by_cases z : c = p
    · rw [z, hx] at e
      cases e
    · cases q : H c with
      | none => rfl
      | some o => rw [k c o z q] at e; cases e
  refine ⟨?_, gg, fun c o e n => k c o (fun z => n i (by rw [z]; exact hp)) e, gn, nf⟩
  rw [eu]
  have ne : ∀ (j : Nat) (c' : Cel), (r.set i (reOwn ds' c))[j]? = some c' → j ≠ i → r[j]? = some c' := fun j c' e z => by
    rw [List.getElem?_set_ne (Ne.symm z)] at e
    exact e
  refine ⟨gh, by rw [List.length_set]; exact R.len, fun j d e => ?_, fun j es e => ?_, fun j es e => ?_, fun j q e => ?_, R.inj, fun c o e n => ?_, fun c e => R.nf c (nf c e), R.g0.trans gg, fun c e => ?_⟩
  · by_cases z : j = i
    · subst z
      rw [List.getElem?_set_self li] at e
      cases c <;> cases e
    · obtain ⟨v, h1, h2⟩ := R.pl j d (ne j _ e z)
      exact ⟨v, h1, h2.sm gg⟩
  · by_cases z : j = i
    · subst z
      rw [List.getElem?_set_self li] at e
      cases c with
      | ow es' =>
        cases e
        obtain ⟨q, ys, h1, h2, h3, _⟩ := R.ow j es' hc
        rw [hp] at h1
        cases h1
        exact ⟨p, xs, hp, h2, h3, hx, ha⟩
      | io _ => cases e
      | _ => cases hown
    · obtain ⟨q, ys, h1, h2, h3, h4, h5⟩ := R.ow j es (ne j _ e z)
      exact ⟨q, ys, h1, h2, h3, k q _ (fun w => z (R.inj j i p (by rw [h1, w]) hp)) h4, h5.sm gg⟩
  · by_cases z : j = i
    · subst z
      rw [List.getElem?_set_self li] at e
      cases c with
      | io es' =>
        cases e
        obtain ⟨q, ys, h0, h1, h2, _⟩ := R.io j es' hc
        rw [hp] at h1
        cases h1
        exact ⟨p, xs, h0, hp, h2, hx, ha⟩
      | ow _ => cases e
      | _ => cases hown
    · obtain ⟨q, ys, h0, h1, h2, h4, h5⟩ := R.io j es (ne j _ e z)
      exact ⟨q, ys, h0, h1, h2, k q _ (fun w => z (R.inj j i p (by rw [h1, w]) hp)) h4, h5.sm gg⟩
  · obtain ⟨⟨c', h1, h2⟩, h3, h4, h5⟩ := R.on j q e
    refine ⟨?_, ?_, ?_, h5⟩
    · by_cases z : j = i
      · subst z
        refine ⟨_, List.getElem?_set_self li, ?_⟩
        cases c <;> first | rfl | cases hown
      · exact ⟨c', by rw [List.getElem?_set_ne (Ne.symm z)]; exact h1, h2⟩
    · cases w : G' q with
      | none => rfl
      | some o =>
        rcases gn q (some_ne w) with y | y
        · exact absurd h3 y
        · exact absurd y h4
    · intro w
      exact h4 (nf q w)
  · refine k c o (fun z => ?_) (R.old c o e n)
    subst z
    rcases (R.on i _ hp).2.2.2 with w | ⟨j, w⟩
    · rw [w] at e
      cases e
    · exact n j w
  · rcases gn c e with z | z
    · exact R.gn c z
    · exact .inr (R.nf c z)
end
section
variable {K : PySem.W.Frag} {E : XE} {X : Cx} {st : Stmt} {sts : List Stmt} {a b : SM} {m : M PyData} {mc : M Bool} {ml : M (List PyData)} {e c : Expr} {pos : Pos}
theorem dss_nil : DSs K E X [] sNil := ⟨fun _ => PSs.imp pss_nil fun D σ H ⟨F, O, G, r, fl, P, em, f⟩ => by
  cases em
  exact f O G σ H P (Same.refl _)⟩
theorem dss_cons (h1 : DS K E X st a) (h2 : DSs K E X sts b) : DSs K E X (st :: sts) (sSeq a b) := ⟨fun hK => PSs.imp (pss_cons (h1.ps hK) (h2.ps hK)) fun D σ H ⟨F, O, G, r, fl, P, em, f⟩ => by
  unfold sSeq at em
  cases ea : a r with
  | none => rw [ea] at em; cases em
  | some fa =>
    rw [ea] at em
    refine ⟨F, O, G, r, fa, P, ea, ?_⟩
    cases fa with
    | nx r' => exact fun O' G' σ' H' P' g => ⟨F, O', G', r', fl, P', em, f.via g⟩
    | rt d r' => cases em; exact f
    | bk r' => cases em; exact f
    | ct r' => cases em; exact f
    | ex c p => cases em; exact f
    | rf ds r' => cases em; exact f⟩
theorem dss_one (h : DS K E X st a) : DSs K E X [st] a := ⟨fun hK => pss_one (h.ps hK)⟩
theorem ds_expr (he : DE K E X e m) (hs : swapsWith e none pos.line X.env = pure false := by rfl) : DS K E X (.Expr e pos) (sExpr m) := ⟨fun hK => PS.imp (ps_expr (he.pe hK) hs) fun D σ H ⟨F, O, G, r, fl, P, em, f⟩ => by
  refine tS.run P f em fun d r1 x G1 H1 P1 g1 q1 e1 f1 => ?_
  cases e1
  exact f1 O G1 σ H1 P1 (Same.refl _)⟩
theorem ds_ret (he : DE K E X e m) : DS K E X (.Return (some e) pos) (sRet m) := ⟨fun hK => PS.imp (ps_ret (he.pe hK)) fun D σ H ⟨F, O, G, r, fl, P, em, f⟩ => by
  refine tS.run P f em fun d r1 x G1 H1 P1 g1 q1 e1 f1 => ?_
  cases e1
  exact f1 O G1 σ H1 x P1 (Same.refl _) q1⟩
theorem ds_retN : DS K E X (.Return none pos) sRetN := ⟨fun _ => PS.imp ps_retN fun D σ H ⟨F, O, G, r, fl, P, em, f⟩ => by
  cases em
  exact f O G σ H .non P (Same.refl _) .non⟩
theorem ds_if {sa sb : List Stmt} (hc : DT K E X c mc) (ha : DSs K E X sa a) (hb : DSs K E X sb b) : DS K E X (.If c sa sb pos) (sIf mc a b) := ⟨fun hK => PS.imp (ps_if (hc.pt hK) (ha.ps hK) (hb.ps hK)) fun D σ H ⟨F, O, G, r, fl, P, em, f⟩ => by
  refine tS.run P f em fun d r1 x G1 H1 P1 g1 q1 e1 f1 => ?_
  cases q1
  cases d with
  | true => exact iteT ⟨F, O, G1, r1, fl, P1, e1, f1⟩
  | false => exact iteF ⟨F, O, G1, r1, fl, P1, e1, f1⟩⟩
theorem ds_pass : DS K E X (.Pass pos) sNil := ⟨fun _ => PS.imp ps_pass fun D σ H ⟨F, O, G, r, fl, P, em, f⟩ => by
  cases em
  exact f O G σ H P (Same.refl _)⟩
theorem ds_break : DS K E X (.Break pos) (fun r => some (.bk r)) := ⟨fun _ => PS.imp ps_break fun D σ H ⟨F, O, G, r, fl, P, em, f⟩ => by
  cases em
  exact f O G σ H P (Same.refl _)⟩
theorem ds_continue : DS K E X (.Continue pos) (fun r => some (.ct r)) := ⟨fun _ => PS.imp ps_continue fun D σ H ⟨F, O, G, r, fl, P, em, f⟩ => by
  cases em
  exact f O G σ H P (Same.refl _)⟩
theorem ds_never : DS K E X st (fun _ => none) := ⟨fun _ => PS.imp ps_never fun D σ H ⟨F, O, G, r, fl, P, em, f⟩ => by cases em⟩
/-- name = e, the name from now on a datum -/
theorem ds_set_t {te : TE} {i : Nat} (h : PS X st (tAsg te (gName i))) (ht : ∀ σ H Q, tM K E (rD K) m σ H Q → te σ H Q) : PS X st (tS K E (sSet i m)) := PS.imp h fun D σ H ⟨F, O, G, r, fl, P, em, f⟩ => by
  refine ht _ _ _ (tS.run P f em fun d r1 x G1 H1 P1 g1 q1 e1 f1 => ?_)
  unfold sPut at e1
  split at e1
  · cases e1
  · rename_i cel hne hc
    cases e1
    exact f1 _ G1 _ H1 (P1.put0 (fun ds z => hne ds (Option.some.inj (hc.symm.trans z))) q1) (Same.refl _)
  · cases e1
theorem ds_own_t {te : TE} {i : Nat} (h : PS X st (tAsg te (gName i))) (ht : ∀ σ H Q, tM K E (rF K) ml σ H Q → te σ H Q) : PS X st (tS K E (sOwn i ml)) := PS.imp h fun D σ H ⟨F, O, G, r, fl, P, em, f⟩ => by
  refine ht _ _ _ (tS.run P f em fun ds r1 x G1 H1 P1 g1 q1 e1 f1 => ?_)
  obtain ⟨p, xs, rfl, _, hg, h0, ho, hp, ha⟩ := q1
  unfold sPutO at e1
  split at e1
  · cases e1
  · rename_i cel hne hc
    cases e1
    exact f1 _ G1 _ H1 (P1.own0 (List.getElem?_eq_some_iff.mp hc).1 (fun ds z => hne ds (Option.some.inj (hc.symm.trans z))) hg h0 ho hp ha) (Same.refl _)
  · cases e1
theorem ds_set {i : Nat} {x : Str} {pos' : Pos} (hN : X.N.Nodup) (hi : X.N[i]? = some x) (hx : Loc X.env.scope x) (he : DE K E X e m) (hs : swapsWith e (some (.Name x pos')) pos.line X.env = pure false := by rfl) (hf : X.fn x = true ∨ X.env.scope.names.lookup x = some .local := by first | exact .inl rfl | exact .inr rfl | assumption) :
    DS K E X (.Assign [.Name x pos'] e pos) (sSet i m) := ⟨fun hK => ds_set_t (ps_set hN hi hx (he.pe hK) hs hf) fun _ _ _ h => h⟩
theorem ds_own {i : Nat} {x : Str} {pos' : Pos} (hN : X.N.Nodup) (hi : X.N[i]? = some x) (hx : Loc X.env.scope x) (he : DF K E X e ml) (hs : swapsWith e (some (.Name x pos')) pos.line X.env = pure false := by rfl) (hf : X.fn x = true ∨ X.env.scope.names.lookup x = some .local := by first | exact .inl rfl | exact .inr rfl | assumption) :
    DS K E X (.Assign [.Name x pos'] e pos) (sOwn i ml) := ⟨fun hK => ds_own_t (ps_set hN hi hx (he.pe hK) hs hf) fun _ _ _ h => h⟩
/-- what a new list gives as a datum -/
theorem fr_t {σ : L2.St} {H : Hp} {Q : VK} (h : tM K E (rD K) (ml.map PyData.list) σ H Q) : tM K E (rF K) ml σ H Q := by
  obtain ⟨F, O, G, r, out, P, em, f⟩ := h
  refine tM.run P f em fun ds r1 v G1 H1 P1 g1 q1 e1 f1 => ?_
  cases e1
  obtain ⟨p, xs, rfl, hs, hg, h0, ho, hp, ha⟩ := q1
  cases em2 : ml r with
  | none =>
    rw [M.map, M.bind, em2] at em
    cases em
  | some o =>
    cases o with
    | ex c z =>
      rw [M.map, M.bind, em2] at em
      cases em
    | ok ds' r' =>
      rw [M.map, M.bind, em2] at em
      cases em
      refine f _ _ _ (P1.see hp hg h0 ho) ?_ (.lst (.inl (.inl upd_same)) (ha.sm (same_new hg)))
      refine ⟨g1.gg.trans (same_new hg), g1.keep, fun c e => ?_, g1.nf⟩
      by_cases z : c = p
      · rw [z]
        exact .inr hs
      · rw [upd_ne z] at e
        exact g1.gn c e
section
variable {i : Nat} {y : Str} {py : Pos} {elt tg iter : Expr} {ifs : List Expr} {scope : Scope} {own : List (Str × Nat)} {ts : List Nat} {spos : Pos} {mi : M (List PyData)} {g : PyData → En → Option En} {mt : M Bool} {me : M PyData}
/-- name = [..] on one line -/
theorem ds_setLc (hc : X.calm = true) (hN : X.N.Nodup) (hy : X.N[i]? = some y) (hyl : X.env.scope.names.lookup y = some .local)
    (hsw : swapsWith (.ListComp elt [⟨tg, iter, ifs, 0⟩] scope pos) (some (.Name y py)) spos.line X.env = pure true) (hi : DI K E X tg iter mi) (ok : BlkOk X.N X.env.scope scope own)
    (hg : ∀ (s : Shared) (H : Hp) (C : Addr) (cl : List (Str × Addr)) (fp : List Addr), DG K (X.blk s H scope (compEnvC scope cl C X.env) fp) tg ts g) (ht : ∀ (s : Shared) (H : Hp) (C : Addr) (cl : List (Str × Addr)) (fp : List Addr), DTs K (X.blk s H scope (compEnvC scope cl C X.env) fp) ifs mt)
    (he : ∀ (s : Shared) (H : Hp) (C : Addr) (cl : List (Str × Addr)) (fp : List Addr), DE K XN (X.blk s H scope (compEnvC scope cl C X.env) fp) elt me) (hts : ∀ t ∈ ts, t ∈ own.map (·.2) := by decide) (hs : ∀ x, foldedSetIterable iter X.env x = pure x := by intro _; rfl) :
    DS K E X (.Assign [.Name y py] (.ListComp elt [⟨tg, iter, ifs, 0⟩] scope pos) spos) (sSet i ((mLc (own.map (·.2)) mi g mt me).map PyData.list)) :=
  ⟨fun hK => ds_set_t (ps_setLc hc hN hy hyl hsw (hi.pi hK) ok (fun s H C cl fp => (hg s H C cl fp).pg hK) (fun s H C cl fp => (ht s H C cl fp).pt hK) (fun s H C cl fp => (he s H C cl fp).pe hK) hs) fun _ _ _ h => lc_run hts (fr_t h)⟩
theorem ds_ownLc (hc : X.calm = true) (hN : X.N.Nodup) (hy : X.N[i]? = some y) (hyl : X.env.scope.names.lookup y = some .local)
    (hsw : swapsWith (.ListComp elt [⟨tg, iter, ifs, 0⟩] scope pos) (some (.Name y py)) spos.line X.env = pure true) (hi : DI K E X tg iter mi) (ok : BlkOk X.N X.env.scope scope own)
    (hg : ∀ (s : Shared) (H : Hp) (C : Addr) (cl : List (Str × Addr)) (fp : List Addr), DG K (X.blk s H scope (compEnvC scope cl C X.env) fp) tg ts g) (ht : ∀ (s : Shared) (H : Hp) (C : Addr) (cl : List (Str × Addr)) (fp : List Addr), DTs K (X.blk s H scope (compEnvC scope cl C X.env) fp) ifs mt)
    (he : ∀ (s : Shared) (H : Hp) (C : Addr) (cl : List (Str × Addr)) (fp : List Addr), DE K XN (X.blk s H scope (compEnvC scope cl C X.env) fp) elt me) (hts : ∀ t ∈ ts, t ∈ own.map (·.2) := by decide) (hs : ∀ x, foldedSetIterable iter X.env x = pure x := by intro _; rfl) :
    DS K E X (.Assign [.Name y py] (.ListComp elt [⟨tg, iter, ifs, 0⟩] scope pos) spos) (sOwn i (mLc (own.map (·.2)) mi g mt me)) :=
  ⟨fun hK => ds_own_t (ps_setLc hc hN hy hyl hsw (hi.pi hK) ok (fun s H C cl fp => (hg s H C cl fp).pg hK) (fun s H C cl fp => (ht s H C cl fp).pt hK) (fun s H C cl fp => (he s H C cl fp).pe hK) hs) fun _ _ _ h => lc_run hts h⟩
end
theorem ds_frz (i : Nat) (h : DS K E X st a) : DS K E X st (sFrz i a) := ⟨fun hK => PS.imp (h.ps hK) fun D σ H ⟨F, O, G, r, fl, P, em, f⟩ => by
  unfold sFrz at em
  split at em
  · rename_i ds e
    obtain ⟨O', G', g, P'⟩ := P.frz e
    exact ⟨F, O', G', _, fl, P', em, f.via g⟩
  · exact ⟨F, O, G, r, fl, P, em, f⟩⟩
theorem dss_frz (i : Nat) (h : DSs K E X sts a) : DSs K E X sts (sFrz i a) := ⟨fun hK => PSs.imp (h.ps hK) fun D σ H ⟨F, O, G, r, fl, P, em, f⟩ => by
  unfold sFrz at em
  split at em
  · rename_i ds e
    obtain ⟨O', G', g, P'⟩ := P.frz e
    exact ⟨F, O', G', _, fl, P', em, f.via g⟩
  · exact ⟨F, O, G, r, fl, P, em, f⟩⟩
/-- any target -/
theorem ds_asg {tg : Expr} {ts : List Nat} {g : PyData → En → Option En} (he : DE K E X e m) (hg : DG K X tg ts g) (hs : swapsWithSole [tg] e pos.line X.env = pure false := by rfl) (hw : swappedStores [tg] e X.env = pure none := by rfl)
    (h1 : (assignEach [tg] X.env).map (·.2) = [assign tg X.env] := by rfl) : DS K E X (.Assign [tg] e pos) (sBind m fun d r => (g d r).map .nx) := ⟨fun hK => PS.imp (ps_asg (he.pe hK) (hg.pg hK) hs hw h1) fun D σ H ⟨F, O, G, r, fl, P, em, f⟩ => by
  refine tS.run P f em fun d r1 x G1 H1 P1 g1 q1 e1 f1 => ?_
  obtain ⟨r2, e2, rfl⟩ := Option.map_eq_some_iff.mp e1
  exact ⟨F, O, G1, r1, r2, d, P1, q1, e2, fun σ' P' _ _ => f1 O G1 σ' H1 P' (Same.refl _)⟩⟩
/-- x += e, whole numbers -/
def sAug (i : Nat) (g : PyData → PyData → Option PyData) (m : M PyData) : SM := fun r => match r[i]? with
  | some (.pl d) => sBind m (fun e r => match g d e with
    | some z => sPut i z r
    | none => none) r
  | _ => none
def intG (f : Int → Int → Int) : PyData → PyData → Option PyData
  | .int a, .int b => some (.int (f a b))
  | _, _ => none
theorem ds_aug {i : Nat} {x : Str} {op : Operator} {f : Int → Int → Int} {pos' : Pos} (hN : X.N.Nodup) (hi : X.N[i]? = some x) (hx : Loc X.env.scope x) (he : DE K E X e m) (ho : PIp X op (ipI f)) (hf : X.fn x = true ∨ X.env.scope.names.lookup x = some .local := by first | exact .inl rfl | exact .inr rfl | assumption) :
    DS K E X (.AugAssign (.Name x pos') op e pos) (sAug i (intG f) m) := ⟨fun hK => PS.imp (ps_aug hN hi hx (he.pe hK) ho hf) fun D σ H ⟨F, O, G, r, fl, P, em, ff⟩ => by
  unfold sAug at em
  split at em
  · rename_i d hd
    obtain ⟨v, h1, h2⟩ := P.pl i d hd
    refine ⟨v, h1, tS.run (R1 := rD K) P ff em fun d2 r1 y G1 H1 P1 g1 q1 e1 f1 => ?_⟩
    split at e1
    · rename_i z hz
      unfold intG at hz
      split at hz
      · cases hz
        cases h2; cases q1
        refine ⟨_, _, rfl, rfl, ?_⟩
        unfold sPut at e1
        split at e1
        · cases e1
        · rename_i cel hne hc
          cases e1
          exact f1 _ G1 _ H1 (P1.put0 (fun ds z => hne ds (Option.some.inj (hc.symm.trans z))) (.int _)) (Same.refl _)
        · cases e1
      · cases hz
    · cases e1
  · cases em⟩
end
/-! ## loops -/
def forGo (g : PyData → En → Option En) (b : SM) : List PyData → SM
  | [] => sNil
  | x :: xs => fun r => (g x r).bind fun r1 => match b r1 with
    | some (.nx r2) => forGo g b xs r2
    | some (.ct r2) => forGo g b xs r2
    | some (.bk r2) => some (.nx r2)
    | o => o
def sFor (mi : M (List PyData)) (g : PyData → En → Option En) (b : SM) : SM := sBind mi fun items => forGo g b items
def whGo (c : M Bool) (b : SM) : Nat → SM
  | 0 => fun _ => none
  | n + 1 => sBind c fun k => if k then fun r1 => (match b r1 with
    | some (.nx r2) => whGo c b n r2
    | some (.ct r2) => whGo c b n r2
    | some (.bk r2) => some (.nx r2)
    | o => o) else sNil
section
variable {K : PySem.W.Frag} {E : XE} {X : Cx} {st : Stmt} {body : List Stmt} {b : SM} {mc : M Bool} {c iter tg : Expr} {pos : Pos}
theorem ds_for {mi : M (List PyData)} {ts : List Nat} {g : PyData → En → Option En} (hp : PassesOwn (model X.prog X.w) X.A X.env X.xe) (hc : X.calm = true) (hi : DI K E X tg iter mi) (hg : DG K X tg ts g) (hb : DSs K E X body b)
    (hs : ∀ x, foldedSetIterable iter X.env x = pure x := by intro _; rfl) : DS K E X (.For tg iter body [] pos) (sFor mi g b) := ⟨fun hK => PS.imp (ps_for hp hc (hi.pi hK) (hg.pg hK) (hb.ps hK) hs) fun D σ H ⟨F, O, G, r, fl, P, em, f⟩ => by
  refine tS.run P f em fun items r1 J G1 H1 P1 g1 q1 e1 f1 => ?_
  refine ⟨fun i n σ H => n = items.length - i ∧ i ≤ items.length ∧ ∃ O' G' r', Rp K F O' G' σ H r' ∧ Same G1 G' ∧ forGo g b (items.drop i) r' = some fl, ⟨items.length, by simp, Nat.zero_le _, O, G1, r1, P1, Same.refl _, e1⟩, ?_⟩
  rintro i n σ H ⟨rfl, hi, O', G', r', P2, g2, e2⟩
  by_cases hlt : i < items.length
  · have e3 := List.getElem?_eq_getElem hlt
    obtain ⟨jgo, jy⟩ := (q1 i H G' g2 P2.sub).1 _ e3
    rw [List.drop_eq_getElem_cons hlt] at e2
    refine .inr ⟨jgo, _, fun σ' H' p => ⟨_, (by omega : items.length - (i + 1) < items.length - i), p⟩, fun x H' y => ?_⟩
    obtain ⟨G2, ps, hd⟩ := jy x H' y
    obtain ⟨r3, e4, e5⟩ := Option.bind_eq_some_iff.mp e2
    refine ⟨F, O', G2, r', r3, _, P2.ps ps, hd, e4, fun σ2 P3 _ _ => ?_⟩
    have g3 := g2.trans ps.gg
    cases eb : b r3 with
    | none => rw [eb] at e5; cases e5
    | some fb =>
      rw [eb] at e5
      refine ⟨F, O', G2, r3, fb, P3, eb, ?_⟩
      cases fb with
      | nx r4 => exact fun O4 G4 σ4 H4 P4 g4 => ⟨rfl, hlt, O4, G4, r4, P4, g3.trans g4, e5⟩
      | ct r4 => exact fun O4 G4 σ4 H4 P4 g4 => ⟨rfl, hlt, O4, G4, r4, P4, g3.trans g4, e5⟩
      | bk r4 =>
        cases e5
        exact fun O4 G4 σ4 H4 P4 g4 => f1 O4 G4 σ4 H4 P4 (g3.trans g4)
      | rt d r4 =>
        cases e5
        exact fun O4 G4 σ4 H4 v P4 g4 => f1 O4 G4 σ4 H4 v P4 (g3.trans g4)
      | ex c p =>
        cases e5
        exact f1
      | rf ds r4 =>
        cases e5
        exact fun O4 G4 σ4 H4 p ys P4 g4 => f1 O4 G4 σ4 H4 p ys P4 (g3.trans g4)
  · have e3 : i = items.length := by omega
    subst e3
    rw [List.drop_length] at e2
    cases e2
    exact .inl ⟨(q1 _ H G' g2 P2.sub).2 (Nat.le_refl _), f1 O' G' σ H P2 g2⟩⟩
theorem ds_while (n : Nat) (hp : PassesOwn (model X.prog X.w) X.A X.env X.xe) (hc : DT K E X c mc) (hb : DSs K E X body b) : DS K E X (.While c body [] pos) (whGo mc b n) := ⟨fun hK => PS.imp (ps_while hp (hc.pt hK) (hb.ps hK)) fun D σ H ⟨F, O, G, r, fl, P, em, f⟩ => by
  refine ⟨fun n σ H => ∃ O' G' r', Rp K F O' G' σ H r' ∧ Same G G' ∧ whGo mc b n r' = some fl, ⟨n, O, G, r, P, Same.refl _, em⟩, ?_⟩
  rintro n σ H ⟨O', G', r', P2, g2, e2⟩
  cases n with
  | zero => cases e2
  | succ n =>
    refine tS.run P2 (f.via g2) e2 fun k r1 x G1 H1 P1 g1 q1 e1 f1 => ?_
    cases q1
    cases k with
    | false =>
      cases e1
      exact iteF (f1 O' G1 σ H1 P1 (Same.refl _))
    | true =>
      refine iteT ⟨_, fun σ' H' p => ⟨n, Nat.lt_succ_self n, p⟩, ?_⟩
      simp only [if_true] at e1
      have g3 := g2.trans g1.gg
      cases eb : b r1 with
      | none => rw [eb] at e1; cases e1
      | some fb =>
        rw [eb] at e1
        refine ⟨F, O', G1, r1, fb, P1, eb, ?_⟩
        cases fb with
        | nx r4 => exact fun O4 G4 σ4 H4 P4 g4 => ⟨O4, G4, r4, P4, g3.trans g4, e1⟩
        | ct r4 => exact fun O4 G4 σ4 H4 P4 g4 => ⟨O4, G4, r4, P4, g3.trans g4, e1⟩
        | bk r4 =>
          cases e1
          exact fun O4 G4 σ4 H4 P4 g4 => f1 O4 G4 σ4 H4 P4 g4
        | rt d r4 =>
          cases e1
          exact fun O4 G4 σ4 H4 v P4 g4 => f1 O4 G4 σ4 H4 v P4 g4
        | ex c p =>
          cases e1
          exact f1
        | rf ds r4 =>
          cases e1
          exact fun O4 G4 σ4 H4 p ys P4 g4 => f1 O4 G4 σ4 H4 p ys P4 g4⟩
/-- return a new list, return the list that a slot owns -/
def sRetF (m : M (List PyData)) : SM := sBind m fun ds r => some (.rf ds r)
theorem ds_retF (he : DF K E X e ml) : DS K E X (.Return (some e) pos) (sRetF ml) := ⟨fun hK => PS.imp (ps_ret (he.pe hK)) fun D σ H ⟨F, O, G, r, fl, P, em, f⟩ => by
  refine tS.run P f em fun d r1 x G1 H1 P1 g1 q1 e1 f1 => ?_
  cases e1
  obtain ⟨p, xs, rfl, hs, hg, h0, ho, hp, ha⟩ := q1
  exact f1 O G1 σ H1 p xs P1 (Same.refl _) hg h0 hp ha⟩
end
end DL
namespace DL
open PySem PySem.Spec PyProof.Rows L2 Lk
/-! ## a def that may be called -/
def Has (P : Program) (w : World) (K : PySem.W.Frag) (mg : Str → Option Value) (base : Heap) (k : Nat) (x : Str) (ps : List Str) (sp : Sp) : Prop :=
  ∃ (f : Addr) (fd : FuncData), FnOk P w K mg base CX0 k f fd ps sp ∧ Binds K fd ps [] ∧ mg x = some (.ref f) ∧ PySem.W.keepIn K (.ref f) = true
theorem Has.mono {P : Program} {w : World} {K : PySem.W.Frag} {mg : Str → Option Value} {base : Heap} {k j : Nat} {x : Str} {ps : List Str} {sp : Sp} (h : Has P w K mg base k x ps sp) (l : k ≤ j) : Has P w K mg base j x ps sp := by
  obtain ⟨f, fd, F, r⟩ := h
  exact ⟨f, fd, F.mono l, r⟩
section
variable {K : PySem.W.Frag} {E : XE} {X : Cx} {e : Expr} {es : List Expr} {m : M (List PyData)} {pos : Pos}
theorem dc {x : Str} {p : Pos} {k : Nat} {ps : List Str} {g : List PyData → Option PyData} (G : Has X.prog X.w K X.mg X.base k x ps (spD K g)) (hr : Room k X.A) (hg : Gl X x)
    (ha : DA K E X (e :: es) m) (hdb : (x == ("__debug__" : Str)) = false := by decide) (he : starEach (e :: es) X.env = (false, eval e X.env) :: starEach es X.env := by rfl)
    (hpl : (backTo pos (starEach es X.env)).any (·.1) = false := by rfl) : DE K E X (.Call (.Name x p) (e :: es) [] pos) (m.bind fun ds => M.lift (g ds)) := by
  obtain ⟨f, fd, F, b, gm, kp⟩ := G
  exact de_call F b gm kp hr hg ha hdb he hpl
theorem dcF {x : Str} {p : Pos} {k : Nat} {ps : List Str} {g : List PyData → Option (List PyData)} (G : Has X.prog X.w K X.mg X.base k x ps (spF K g)) (hr : Room k X.A) (hg : Gl X x)
    (ha : DA K E X (e :: es) m) (hdb : (x == ("__debug__" : Str)) = false := by decide) (he : starEach (e :: es) X.env = (false, eval e X.env) :: starEach es X.env := by rfl)
    (hpl : (backTo pos (starEach es X.env)).any (·.1) = false := by rfl) : DF K E X (.Call (.Name x p) (e :: es) [] pos) (m.bind fun ds => M.lift (g ds)) := by
  obtain ⟨f, fd, F, b, gm, kp⟩ := G
  exact df_call F b gm kp hr hg ha hdb he hpl
/-- f(xs, ..), f changes the list of slot i -/
def mCallM (i : Nat) (m : M (List PyData)) (g : List PyData → List PyData → Option (PyData × List PyData)) : M PyData := fun r0 => if (ownOf r0[i]?).isSome then (m.bind fun ds r => match ownOf r[i]? with
  | some bs => (g bs ds).map fun z => .ok z.1 (upO i z.2 r)
  | none => none) r0 else none
theorem isSome_ex {α : Type} {o : Option α} (h : o.isSome = true) : ∃ a, o = some a := by
  cases o with
  | none => cases h
  | some a => exact ⟨a, rfl⟩
theorem dcM (i : Nat) {x y : Str} {p p2 : Pos} {k : Nat} {ps : List Str} {g : List PyData → List PyData → Option (PyData × List PyData)} (G : Has X.prog X.w K X.mg X.base k x ps (spM K g)) (hr : Room k X.A) (hg : Gl X x)
    (ha : DA K E X es m) (hN : X.N[i]? = some y := by rfl) (hv : Vis X.env.scope y := by first | exact Or.inl rfl | exact Or.inr (Or.inl rfl) | exact Or.inr (Or.inr rfl)) (hd : (y == ("__debug__" : Str)) = false := by decide) (hcd : (y == ("__classdict__" : Str)) = false := by decide)
    (hdb : (x == ("__debug__" : Str)) = false := by decide) (he : starEach (.Name y p2 :: es) X.env = (false, eval (.Name y p2) X.env) :: starEach es X.env := by rfl)
    (hpl : (backTo pos (starEach es X.env)).any (·.1) = false := by rfl) : DE K E X (.Call (.Name x p) (.Name y p2 :: es) [] pos) (mCallM i m g) := ⟨fun hK => by
  subst hK
  obtain ⟨f, fd, Fk, b, gm, kp⟩ := G
  refine PE.imp (pe_call (E := E0) Fk hr hg gm kp b .nil pass0 (pa_cons (pe_var hN hv hd hcd) (ha.pa rfl) he) hdb he hpl) fun σ H Q ⟨F, O, G, r, out, P, em, ff⟩ => ?_
  unfold mCallM at em
  split at em
  · rename_i hs
    obtain ⟨bs0, e0⟩ := isSome_ex hs
    obtain ⟨q, xs0, hq, hσ, _, _⟩ := P.own_at e0
    refine ⟨_, hσ, ?_⟩
    refine tM.run P ff em fun ds r1 xs G1 H1 P1 g1 q1 e1 f1 => ?_
    show spM X.K g ((.ref q :: xs) ++ []) H1 Q E0
    rw [List.append_nil]
    split at e1
    · rename_i bs e2
      obtain ⟨z, hz, rfl⟩ := Option.map_eq_some_iff.mp e1
      obtain ⟨q', xs1, hq', hσ', hx, hb⟩ := P1.own_at e2
      rw [hq] at hq'
      cases hq'
      refine ⟨G1, q, xs1, xs, bs, ds, z.1, z.2, rfl, P1.sub, (P1.on i q hq).2.1, hx, hb, q1, hz, fun v G' H' xs' gg gh gp kp gn hx' hb' hv' => ?_⟩
      obtain ⟨P2, g2⟩ := P1.chg e2 hq gg gh gp kp gn hx' hb'
      exact f1 v G' H' P2 g2 hv'
    · cases e1
  · cases em⟩
/-! ## the list of a slot is read -/
theorem Rp.own_dp {F : Fm} {O : Ow} {G H : Hp} {σ : L2.St} {r : En} (R : Rp K F O G σ H r) {i : Nat} {ds : List PyData} (e : ownOf r[i]? = some ds) : ∃ p xs, σ[i]? = some (some (.ref p)) ∧ H p = some (.lst xs) ∧ DqAll K G xs ds ∧ Dp K H (.ref p) (.list ds) := by
  obtain ⟨p, xs, h1, h2, h3, h4⟩ := R.own_at e
  exact ⟨p, xs, h2, h3, h4, .lst (.inl (.inl h3)) (h4.sm R.sub).dp⟩
def mLenO (i : Nat) : M PyData := fun r => match ownOf r[i]? with
  | some ds => some (.ok (.int ds.length) r)
  | none => none
theorem de_lenO (i : Nat) {y : Str} {p p2 : Pos} (hg : Gl X "len") (hm : X.mg "len" = none) (hN : X.N[i]? = some y := by rfl) (hv : Vis X.env.scope y := by first | exact Or.inl rfl | exact Or.inr (Or.inl rfl) | exact Or.inr (Or.inr rfl)) (hd : (y == ("__debug__" : Str)) = false := by decide) (hcd : (y == ("__classdict__" : Str)) = false := by decide)
    (he : starEach [.Name y p2] X.env = (false, eval (.Name y p2) X.env) :: starEach [] X.env := by rfl) : DE K E X (.Call (.Name "len" p) [.Name y p2] [] pos) (mLenO i) := ⟨fun hK => by
  subst hK
  refine PE.imp (pe_callB call_len_seq hg hm PySem.boot_len (pa_cons (pe_var hN hv hd hcd) pa_nil he) (by decide) (by decide) he (by rfl)) fun σ H Q ⟨F, O, G, r, out, P, em, ff⟩ => ?_
  unfold mLenO at em
  split at em
  · rename_i ds e0
    cases em
    obtain ⟨q, xs, h1, h2, h3, h4⟩ := P.own_dp e0
    exact ⟨_, h1, q, xs, rfl, .inl (.inl (.inl h2)), by rw [h3.length]; exact ff.ok (Ps.refl P.sub) P (.int _)⟩
  · cases em⟩
def mIxO (i : Nat) (m : M PyData) : M PyData := fun r0 => if (ownOf r0[i]?).isSome then (m.bind fun d r => match ownOf r[i]?, asInt d with
  | some ds, some j => (atI ds j).map fun z => .ok z r
  | _, _ => none) r0 else none
theorem de_ixO (i : Nat) {y : Str} {p2 : Pos} {ma : M PyData} (ha : DE K E X e ma) (hs : PlainIx e) (hN : X.N[i]? = some y := by rfl) (hv : Vis X.env.scope y := by first | exact Or.inl rfl | exact Or.inr (Or.inl rfl) | exact Or.inr (Or.inr rfl)) (hd : (y == ("__debug__" : Str)) = false := by decide) (hcd : (y == ("__classdict__" : Str)) = false := by decide) :
    DE K E X (.Subscript (.Name y p2) e pos) (mIxO i ma) := ⟨fun hK => by
  subst hK
  refine PE.imp (pe_ix ix_list (pe_var hN hv hd hcd) (ha.pe rfl) hs) fun σ H Q ⟨F, O, G, r, out, P, em, ff⟩ => ?_
  unfold mIxO at em
  split at em
  · rename_i hs
    obtain ⟨bs0, e0⟩ := isSome_ex hs
    obtain ⟨q, xs0, hq, hσ, _, _⟩ := P.own_at e0
    refine ⟨_, hσ, ?_⟩
    refine tM.run P ff em fun d r1 x G1 H1 P1 g1 q1 e1 f1 => ?_
    split at e1
    · rename_i ds j e2 hj
      cases asInt_some hj
      cases q1
      obtain ⟨z, hz, rfl⟩ := Option.map_eq_some_iff.mp e1
      obtain ⟨q', xs1, hq', hσ', hx, hb⟩ := P1.own_at e2
      rw [hq] at hq'
      cases hq'
      obtain ⟨v, h1, h2⟩ := atI_dq hb hz
      exact ⟨q, xs1, j, v, rfl, rfl, .inl (.inl hx), h1, f1.ok (Ps.refl P1.sub) P1 h2⟩
    · cases e1
  · cases em⟩
def mTruO (i : Nat) : M Bool := fun r => match ownOf r[i]? with
  | some ds => some (.ok (!ds.isEmpty) r)
  | none => none
theorem dt_truO (i : Nat) {y : Str} {p2 : Pos} (hN : X.N[i]? = some y := by rfl) (hv : Vis X.env.scope y := by first | exact Or.inl rfl | exact Or.inr (Or.inl rfl) | exact Or.inr (Or.inr rfl)) (hd : (y == ("__debug__" : Str)) = false := by decide) (hcd : (y == ("__classdict__" : Str)) = false := by decide) :
    DT K E X (.Name y p2) (mTruO i) := ⟨fun hK => by
  subst hK
  refine PT.imp (pt_truth (pe_var hN hv hd hcd) (by intro _; rfl)) fun σ H Q ⟨F, O, G, r, out, P, em, ff⟩ => ?_
  unfold mTruO at em
  split at em
  · rename_i ds e0
    cases em
    obtain ⟨q, xs, h1, h2, h3, h4⟩ := P.own_dp e0
    refine ⟨_, h1, _, .inl ⟨xs, .inl (.inl h2), rfl⟩, ?_⟩
    have e : xs.isEmpty = ds.isEmpty := by
      have := h3.length
      cases xs <;> cases ds <;> first | rfl | (cases this)
    rw [e]
    exact ff.ok (Ps.refl P.sub) P rfl
  · cases em⟩
/-- a datum as a test: a list, a tuple, a text, a whole number, a bool, None -/
def truD : PyData → Option Bool
  | .none => some false
  | .bool b => some b
  | .int i => some (i != 0)
  | .str x => if x.length ≤ 1000000 then some ((x.length : Int) != 0) else none
  | .list ds => some (!ds.isEmpty)
  | .tuple ds => some (!ds.isEmpty)
  | .dict _ => none
theorem dq_empty {G : Hp} {xs : List V} {ds : List PyData} (h : DqAll K G xs ds) : xs.isEmpty = ds.isEmpty := by
  cases h <;> rfl
theorem dt_tru {ma : M PyData} (ha : DE K E X e ma) (he : ∀ whole, isTrue e X.env whole = (do let v ← whole; standAt e.pos; holding [v] (truthy v)) := by intro _; rfl) : DT K E X e (ma.bind fun d => M.lift (truD d)) := ⟨fun hK => by
  subst hK
  refine PT.imp (pt_truth (ha.pe rfl) he) fun σ H Q ⟨F, O, G, r, out, P, em, f⟩ => ?_
  refine tM.run P f em fun d r1 x G1 H1 P1 g1 q1 e1 f1 => ?_
  obtain ⟨b, hb, rfl⟩ := lift_ok e1
  have fin : Q b H1 := f1.ok (Ps.refl P1.sub) P1 rfl
  refine ⟨b, ?_, fin⟩
  cases q1 with
  | non => cases hb; rfl
  | bl b => cases hb; rfl
  | int i => cases hb; rfl
  | str x =>
    simp only [truD] at hb
    split at hb
    · rename_i hl
      cases hb
      exact ⟨line_le hl, rfl⟩
    · cases hb
  | lst hs ha =>
    cases hb
    exact .inl ⟨_, (P1.sub.seq hs), by rw [dq_empty ha]⟩
  | tup hs ha =>
    cases hb
    exact .inr (.inl ⟨_, Lk.Same.tup P1.sub hs, by rw [dq_empty ha]⟩)⟩
/-- xs.pop() -/
def mPop (i : Nat) : M PyData := fun r => match ownOf r[i]? with
  | some ds => (ds[ds.length - 1]?).map fun z => .ok z (upO i ds.dropLast r)
  | none => none
theorem de_pop (i : Nat) {y : Str} {p2 ap : Pos} (hN : X.N[i]? = some y := by rfl) (hv : Vis X.env.scope y := by first | exact Or.inl rfl | exact Or.inr (Or.inl rfl) | exact Or.inr (Or.inr rfl)) (hd : (y == ("__debug__" : Str)) = false := by decide) (hcd : (y == ("__classdict__" : Str)) = false := by decide)
    (hb : attributeBase (.Name y p2) "pop" X.env (eval (.Name y p2) X.env) = eval (.Name y p2) X.env := by rfl) (hpe : PE X (.Call (.Attribute (.Name y p2) "pop" ap) [] [] pos) (tBM0 X.K "list" rPop (tVar i))) :
    DE K E X (.Call (.Attribute (.Name y p2) "pop" ap) [] [] pos) (mPop i) := ⟨fun hK => by
  subst hK
  refine PE.imp hpe fun σ H Q ⟨F, O, G, r, out, P, em, ff⟩ => ?_
  unfold mPop at em
  split at em
  · rename_i ds e0
    obtain ⟨z, hz, rfl⟩ := Option.map_eq_some_iff.mp em
    obtain ⟨p, xs, h1, h2, h3, h4⟩ := P.own_at e0
    obtain ⟨v, h5, h6⟩ := h4.get hz
    refine ⟨_, h2, .inl ⟨rfl, _, .inl (.inl h3)⟩, p, xs, v, rfl, rfl, h3, by rw [h4.length]; exact h5, ?_⟩
    have gp := (P.on i p h1).2.1
    obtain ⟨P2, g2⟩ := P.chg e0 h1 (Same.refl G) (fun c o e => by rw [upd_ne (ne_of_none e gp)]; exact P.sub _ _ e) gp (fun c o n e => by rw [upd_ne n]; exact e) (fun c e => .inl e) (upd_same (o := .lst xs.dropLast)) (h4.dropLast)
    exact ff _ _ _ P2 g2 h6
  · cases em⟩
/-- xs.append(e) as a statement -/
def sApp (i : Nat) (m : M PyData) : SM := fun r0 => if (ownOf r0[i]?).isSome then sBind m (fun d r => match ownOf r[i]? with
  | some ds => if ds.length ≤ 1000000 then some (.nx (upO i (ds ++ [d]) r)) else none
  | none => none) r0 else none
theorem ds_app (i : Nat) {st : Stmt} {te : TE} {ma : M PyData} (ha : X.K = K → ∀ σ H Q, tM K E (rD K) ma σ H Q → te σ H Q) (hp : PS X st (tDrop (tBM X.K "list" rAppend (tVar i) (tCons te tNil)))) : DS K E X st (sApp i ma) := ⟨fun hK => by
  subst hK
  refine PS.imp hp fun D σ H ⟨F, O, G, r, fl, P, em, ff⟩ => ?_
  unfold sApp at em
  split at em
  · rename_i hs
    obtain ⟨bs0, e0⟩ := isSome_ex hs
    obtain ⟨q, xs0, hq, hσ, hx0, _⟩ := P.own_at e0
    refine ⟨_, hσ, .inl ⟨rfl, _, .inl (.inl hx0)⟩, ha rfl _ _ _ (tS.run P ff em fun d r1 x G1 H1 P1 g1 q1 e1 f1 => ?_)⟩
    split at e1
    · rename_i ds e2
      split at e1
      · rename_i hl
        cases e1
        obtain ⟨q', xs1, hq', hσ', hx, hb⟩ := P1.own_at e2
        rw [hq] at hq'
        cases hq'
        refine ⟨q, xs1, x, rfl, rfl, hx, line_lt (by rw [hb.length]; exact hl), ?_⟩
        have gp := (P1.on i q hq).2.1
        obtain ⟨P2, g2⟩ := P1.chg e2 hq (Same.refl G1) (fun c o e => by rw [upd_ne (ne_of_none e gp)]; exact P1.sub _ _ e) gp (fun c o n e => by rw [upd_ne n]; exact e) (fun c e => .inl e) (upd_same (o := .lst (xs1 ++ [x]))) (hb.append (.cons q1 .nil))
        exact f1 O G1 σ _ P2 (Same.refl _)
      · cases e1
    · cases e1
  · cases em⟩
/-- xs[a] = b -/
def sPutIx (i : Nat) (ma mb : M PyData) : SM := sBind mb fun d r1 => if (ownOf r1[i]?).isSome then sBind ma (fun j r => match ownOf r[i]?, asInt j with
  | some ds, some j => (ixN ds.length j).map fun n => .nx (upO i (ds.set n d) r)
  | _, _ => none) r1 else none
theorem ds_putIx (i : Nat) {y : Str} {p2 tp : Pos} {a b : Expr} {ma mb : M PyData} (hb : DE K E X b mb) (ha : DE K E X a ma) (hN : X.N[i]? = some y := by rfl) (hv : Vis X.env.scope y := by first | exact Or.inl rfl | exact Or.inr (Or.inl rfl) | exact Or.inr (Or.inr rfl)) (hd : (y == ("__debug__" : Str)) = false := by decide) (hcd : (y == ("__classdict__" : Str)) = false := by decide)
    (hs : swapsWithSole [.Subscript (.Name y p2) a tp] b pos.line X.env = pure false := by rfl) (hw : swappedStores [.Subscript (.Name y p2) a tp] b X.env = pure none := by rfl)
    (h1 : (assignEach [.Subscript (.Name y p2) a tp] X.env).map (·.2) = [assign (.Subscript (.Name y p2) a tp) X.env] := by rfl)
    (h2 : ∀ v, assign (.Subscript (.Name y p2) a tp) X.env v = (do
      let ov ← holding [v] (eval (.Name y p2) X.env)
      let iv ← holding [v, ov] (eval a X.env)
      standAt tp
      holding [v, ov, iv] (setItem ov iv v)
      release [v, ov, iv] []) := by intro _; rfl) : DS K E X (.Assign [.Subscript (.Name y p2) a tp] b pos) (sPutIx i ma mb) := ⟨fun hK => by
  subst hK
  refine PS.imp (ps_asg (hb.pe rfl) (pg_sub (pe_var hN hv hd hcd) (ha.pe rfl) set_list h2) hs hw h1) fun D σ H ⟨F, O, G, r, fl, P, em, ff⟩ => ?_
  refine tS.run P ff em fun d r1 x G1 H1 P1 g1 q1 e1 f1 => ?_
  split at e1
  · rename_i hs
    obtain ⟨bs0, e0⟩ := isSome_ex hs
    obtain ⟨q, xs0, hq, hσ, hx0, _⟩ := P1.own_at e0
    refine ⟨_, hσ, ?_⟩
    refine tS.run P1 f1 e1 fun j r2 y2 G2 H2 P2 g2 q2 e2 f2 => ?_
    split at e2
    · rename_i ds j' e3 hj
      cases asInt_some hj
      cases q2
      obtain ⟨n, hn, rfl⟩ := Option.map_eq_some_iff.mp e2
      obtain ⟨q', xs1, hq', hσ', hx, hbs⟩ := P2.own_at e3
      rw [hq] at hq'
      cases hq'
      refine ⟨q, xs1, j', n, rfl, rfl, hx, by rw [hbs.length]; exact hn, ?_⟩
      have gp := (P2.on i q hq).2.1
      obtain ⟨P3, g3⟩ := P2.chg e3 hq (Same.refl G2) (fun c o e => by rw [upd_ne (ne_of_none e gp)]; exact P2.sub _ _ e) gp (fun c o n e => by rw [upd_ne n]; exact e) (fun c e => .inl e) (upd_same (o := .lst (xs1.set n x))) (hbs.set (q1.sm g2.gg) n)
      exact f2 O G2 σ _ P3 (Same.refl _)
    · cases e2
  · cases e1⟩
end
/-! ## defs -/
def ini (N : List Str) (ds : List PyData) : En := ds.map Cel.pl ++ List.replicate (N.length - ds.length) .un
section
variable {P : Program} {w : World} {K : PySem.W.Frag} {mg : Str → Option Value} {base : Heap}
theorem start_rp {N : List Str} {G H : Hp} {vs : List V} {ds : List PyData} (sg : Same G H) (hd : DqAll K G vs ds) : Rp K ⟨H, G, fun _ => none⟩ (fun _ => none) G (L2.start N vs) H (ini N ds) := by
  have hl := hd.length
  refine ⟨sg, by simp [L2.start, ini, hl], fun i d e => ?_, fun i ds' e => ?_, fun i ds' e => ?_, fun i p e => (by cases e), fun i j p e => (by cases e), fun c o e _ => e, fun c e => e, Same.refl _, fun c e => .inl e⟩
  all_goals
    unfold ini at e
    rw [List.getElem?_append] at e
    split at e
    · rename_i hi
      rw [List.length_map] at hi
      rw [List.getElem?_map] at e
      obtain ⟨d', h1, h2⟩ := Option.map_eq_some_iff.mp e
      first
      | (cases h2
         obtain ⟨v, h3, h4⟩ := hd.get h1
         refine ⟨v, ?_, h4⟩
         unfold L2.start
         rw [List.getElem?_append_left (by rw [List.length_map, hl]; exact hi), List.getElem?_map, h3]
         rfl)
      | cases h2
    · rw [List.getElem?_replicate] at e
      split at e
      · cases e
      · cases e
theorem def_D {x qual : Str} {st : Stmt} {f : Addr} {fd : FuncData} {N ps : List Str} {k : Nat} {g : List PyData → Option PyData} {sv : SM} (F : Fun K x qual st f fd) (S : FnScope N ps (defScope st))
    (h : ∀ (cdv : Value) (A : Around) (outer : List Env) (s : Shared) (H : Hp) (E : XK), Room k (A.deeper (envOfC qual (defScope st) s.heap.objs.size f cdv)) → DSs K XN (cxOf CX0 P w K mg base N qual (defScope st) f cdv A outer s H E).nox (defBody st) sv)
    (sp : ∀ ds z, g ds = some z → ds.length = ps.length ∧ ∃ r', sv (ini N ds) = some (.rt z r') ∨ z = .none ∧ sv (ini N ds) = some (.nx r')) : FnOk P w K mg base CX0 (k + 1) f fd ps (spD K g) := by
  refine F.ok S (fun vs H Q E ⟨G, ds, z, sg, hd, hz, q⟩ => by rw [hd.length]; exact (sp ds z hz).1) fun cdv A outer s H vs Q E hr ⟨G, ds, z, sg, hd, hz, q⟩ => ?_
  refine ⟨_, (h cdv A outer s H E hr).ps rfl, ?_⟩
  obtain ⟨_, r', e | ⟨rfl, e⟩⟩ := sp ds z hz
  · exact ⟨_, _, G, _, _, start_rp sg hd, e, fun O' G' σ' H' v R g hv => q v G' H' ⟨R.g0, R.sub, fun c o e => R.old c o e fun i z => (nomatch z), R.gn⟩ hv⟩
  · exact ⟨_, _, G, _, _, start_rp sg hd, e, fun O' G' σ' H' R g => q .non G' H' ⟨R.g0, R.sub, fun c o e => R.old c o e fun i z => (nomatch z), R.gn⟩ .non⟩
theorem def_F {x qual : Str} {st : Stmt} {f : Addr} {fd : FuncData} {N ps : List Str} {k : Nat} {g : List PyData → Option (List PyData)} {sv : SM} (F : Fun K x qual st f fd) (S : FnScope N ps (defScope st))
    (h : ∀ (cdv : Value) (A : Around) (outer : List Env) (s : Shared) (H : Hp) (E : XK), Room k (A.deeper (envOfC qual (defScope st) s.heap.objs.size f cdv)) → DSs K XN (cxOf CX0 P w K mg base N qual (defScope st) f cdv A outer s H E).nox (defBody st) sv)
    (sp : ∀ ds z, g ds = some z → ds.length = ps.length ∧ ∃ r', sv (ini N ds) = some (.rf z r')) : FnOk P w K mg base CX0 (k + 1) f fd ps (spF K g) := by
  refine F.ok S (fun vs H Q E ⟨G, ds, z, sg, hd, hz, q⟩ => by rw [hd.length]; exact (sp ds z hz).1) fun cdv A outer s H vs Q E hr ⟨G, ds, z, sg, hd, hz, q⟩ => ?_
  refine ⟨_, (h cdv A outer s H E hr).ps rfl, ?_⟩
  obtain ⟨_, r', e⟩ := sp ds z hz
  exact ⟨_, _, G, _, _, start_rp sg hd, e, fun O' G' σ' H' p xs R g gp h0 hp ha => q p xs G' H' ⟨R.g0, R.sub, fun c o e => R.old c o e fun i z => (nomatch z), R.gn⟩ gp h0 hp ha⟩
def iniM (N : List Str) (bs ds : List PyData) : En := .io bs :: (ds.map Cel.pl ++ List.replicate (N.length - (ds.length + 1)) .un)
theorem start_rpM {N : List Str} {G H : Hp} {p : Addr} {xs : List V} {vs : List V} {bs ds : List PyData} (sg : Same G H) (gp : G p = none) (hp : H p = some (.lst xs)) (hb : DqAll K G xs bs) (hd : DqAll K G vs ds) :
    Rp K ⟨H, G, fun i => if i = 0 then some p else none⟩ (fun i => if i = 0 then some p else none) G (L2.start N (.ref p :: vs)) H (iniM N bs ds) := by
  have hl := hd.length
  have no : ∀ {i : Nat} {q : Addr}, (if i = 0 then some p else none) = some q → i = 0 ∧ q = p := fun {i q} e => by
    split at e
    · cases e
      exact ⟨by assumption, rfl⟩
    · cases e
  have tail : ∀ (i : Nat) (c : Cel), (iniM N bs ds)[i + 1]? = some c → c = .un ∨ ∃ d, ds[i]? = some d ∧ c = .pl d := fun i c e => by
    have e' : (ds.map Cel.pl ++ List.replicate (N.length - (ds.length + 1)) .un)[i]? = some c := e
    rw [List.getElem?_append] at e'
    split at e'
    · rw [List.getElem?_map] at e'
      obtain ⟨d', h1, h2⟩ := Option.map_eq_some_iff.mp e'
      exact .inr ⟨d', h1, h2.symm⟩
    · rw [List.getElem?_replicate] at e'
      split at e'
      · exact .inl (Option.some.inj e').symm
      · cases e'
  refine ⟨sg, by simp [L2.start, iniM, hl], fun i d e => ?_, fun i ds' e => ?_, fun i ds' e => ?_, fun i q e => ?_, fun i j q e1 e2 => ?_, fun c o e _ => e, fun c e => e, Same.refl _, fun c e => .inl e⟩
  · cases i with
    | zero => cases e
    | succ i =>
      rcases tail i _ e with z | ⟨d', h1, h2⟩
      · cases z
      · cases h2
        obtain ⟨v, h3, h4⟩ := hd.get h1
        refine ⟨v, ?_, h4⟩
        have li := (List.getElem?_eq_some_iff.mp h3).1
        show (vs.map some ++ List.replicate _ none)[i]? = _
        rw [List.getElem?_append_left (by rw [List.length_map]; exact li), List.getElem?_map, h3]
        rfl
  · cases i with
    | zero => cases e
    | succ i =>
      rcases tail i _ e with z | ⟨d', h1, h2⟩
      · cases z
      · cases h2
  · cases i with
    | zero =>
      cases e
      exact ⟨p, xs, rfl, rfl, rfl, hp, hb⟩
    | succ i =>
      rcases tail i _ e with z | ⟨d', h1, h2⟩
      · cases z
      · cases h2
  · obtain ⟨rfl, rfl⟩ := no e
    exact ⟨⟨.io bs, rfl, rfl⟩, gp, some_ne hp, .inr ⟨0, rfl⟩⟩
  · obtain ⟨rfl, rfl⟩ := no e1
    exact (no e2).1.symm
theorem def_M {x qual : Str} {st : Stmt} {f : Addr} {fd : FuncData} {N ps : List Str} {k : Nat} {g : List PyData → List PyData → Option (PyData × List PyData)} {sv : SM} (F : Fun K x qual st f fd) (S : FnScope N ps (defScope st))
    (h : ∀ (cdv : Value) (A : Around) (outer : List Env) (s : Shared) (H : Hp) (E : XK), Room k (A.deeper (envOfC qual (defScope st) s.heap.objs.size f cdv)) → DSs K XN (cxOf CX0 P w K mg base N qual (defScope st) f cdv A outer s H E).nox (defBody st) sv)
    (sp : ∀ bs ds z, g bs ds = some z → ds.length + 1 = ps.length ∧ ∃ r', r'[0]? = some (Cel.io z.2) ∧ (sv (iniM N bs ds) = some (.rt z.1 r') ∨ z.1 = .none ∧ sv (iniM N bs ds) = some (.nx r'))) : FnOk P w K mg base CX0 (k + 1) f fd ps (spM K g) := by
  refine F.ok S (fun vs H Q E ⟨G, p, xs, ws, bs, ds, z, bs', e, sg, gp, hp, hb, hd, hz, q⟩ => by rw [e, List.length_cons, hd.length]; exact (sp bs ds _ hz).1) fun cdv A outer s H vs Q E hr ⟨G, p, xs, ws, bs, ds, z, bs', e, sg, gp, hp, hb, hd, hz, q⟩ => ?_
  subst e
  refine ⟨_, (h cdv A outer s H E hr).ps rfl, ?_⟩
  obtain ⟨_, r', hr0, e⟩ := sp bs ds _ hz
  have fin : ∀ (O' : Ow) (G' : Hp) (σ' : L2.St) (H' : Hp) (v : V), Rp K ⟨H, G, fun i => if i = 0 then some p else none⟩ O' G' σ' H' r' → Dq K G' v z → Q v H' := fun O' G' σ' H' v R hv => by
    obtain ⟨p', xs', h0, h1, h2, h3, h4⟩ := R.io 0 _ hr0
    cases h0
    exact q v G' H' xs' R.g0 R.sub (R.on 0 p h1).2.1 (fun c o n e => R.old c o e fun i z => by
      dsimp only at z
      split at z
      · cases z
        exact n rfl
      · cases z) R.gn h3 h4 hv
  rcases e with e | ⟨hz0, e⟩
  · exact ⟨_, _, G, _, _, start_rpM sg gp hp hb hd, e, fun O' G' σ' H' v R g hv => fin O' G' σ' H' v R hv⟩
  · refine ⟨_, _, G, _, _, start_rpM sg gp hp hb hd, e, fun O' G' σ' H' R g => fin O' G' σ' H' .non R ?_⟩
    rw [show z = .none from hz0]
    exact .non
end
end DL
namespace DL
open PySem PySem.Spec PyProof.Rows L2 Lk
/-! ## the readings by name -/
def mOp2 (g : PyData → PyData → Option PyData) (ma mb : M PyData) : M PyData := ma.bind fun d => mb.bind fun e => M.lift (g d e)
def mOpT (g : PyData → PyData → Option PyData) (ma mb : M PyData) : M Bool := ma.bind fun d => mb.bind fun e => M.lift ((g d e).bind asBool)
def mCons (ma : M PyData) (m : M (List PyData)) : M (List PyData) := ma.bind fun d => m.bind fun ds => M.ret (d :: ds)
def mNil : M (List PyData) := M.ret []
def mCall (g : List PyData → Option PyData) (m : M (List PyData)) : M PyData := m.bind fun ds => M.lift (g ds)
def mCallF (g : List PyData → Option (List PyData)) (m : M (List PyData)) : M (List PyData) := m.bind fun ds => M.lift (g ds)
def mTup (m : M (List PyData)) : M PyData := m.bind fun ds => M.lift (tupM ds)
def mLst (m : M (List PyData)) : M (List PyData) := m.bind fun ds => M.lift (lstM ds)
def mNew (m : M (List PyData)) : M PyData := m.map PyData.list
def mVal (m : M PyData) : M Bool := m.bind fun d => M.lift (asBool d)
def mTru (m : M PyData) : M Bool := m.bind fun d => M.lift (truD d)
def mNotT (m : M Bool) : M Bool := m.bind fun b => M.ret (!b)
def mNotV (m : M PyData) : M PyData := m.bind fun d => (M.lift (asBool d)).bind fun b => M.ret (.bool (!b))
def mIsi (n : String) (m : M PyData) : M PyData := m.bind fun d => M.ret (.bool (isTy n d))
def mNeg (m : M PyData) : M PyData := m.bind fun d => M.lift (negM d)
def mSeq (m : M PyData) : M (List PyData) := m.bind fun d => M.lift (asSeq d)
def mRng1 (m : M (List PyData)) : M (List PyData) := m.bind fun ds => M.lift (if ds.length = 1 then rngM ds else none)
def mRng2 (m : M (List PyData)) : M (List PyData) := m.bind fun ds => M.lift (if ds.length = 2 then rngM ds else none)
def mPart (m : M PyData) : M (Option Int) := m.bind fun d => M.lift ((asInt d).map some)
def mNoPart : M (Option Int) := M.ret none
def mSlice (m : M PyData) (ml mh : M (Option Int)) : M (List PyData) := m.bind fun d => ml.bind fun l => mh.bind fun h => M.lift ((asList d).map fun ds => cutD ds l h)
def mSliceT (m : M PyData) (ml mh : M (Option Int)) : M PyData := m.bind fun d => ml.bind fun l => mh.bind fun h => M.lift ((asTup d).bind fun ds => if HT.sIx ds.length 0 l = 0 ∧ HT.sIx ds.length ds.length h = ds.length then none else some (.tuple (cutD ds l h)))
def sAsg (m : M PyData) (g : PyData → En → Option En) : SM := sBind m fun d r => (g d r).map .nx
def sBrk : SM := fun r => some (.bk r)
def sCont : SM := fun r => some (.ct r)
def sNo : SM := fun _ => none
def outD : Option Fl → Option PyData
  | some (.rt z _) => some z
  | some (.nx _) => some .none
  | _ => none
def runD (N : List Str) (n : Nat) (sv : SM) (ds : List PyData) : Option PyData := if ds.length = n then outD (sv (ini N ds)) else none
def outF : Option Fl → Option (List PyData)
  | some (.rf z _) => some z
  | _ => none
def runF (N : List Str) (n : Nat) (sv : SM) (ds : List PyData) : Option (List PyData) := if ds.length = n then outF (sv (ini N ds)) else none
def ioAt (r : En) : Option (List PyData) := match r[0]? with
  | some (Cel.io bs) => some bs
  | _ => none
theorem ioAt_some {r : En} {bs : List PyData} (h : ioAt r = some bs) : r[0]? = some (Cel.io bs) := by
  unfold ioAt at h
  split at h
  · rename_i e
    cases h
    exact e
  · cases h
def outM : Option Fl → Option (PyData × List PyData)
  | some (.rt z r) => (ioAt r).map fun bs => (z, bs)
  | some (.nx r) => (ioAt r).map fun bs => (.none, bs)
  | _ => none
def runM (N : List Str) (n : Nat) (sv : SM) (bs ds : List PyData) : Option (PyData × List PyData) := if ds.length + 1 = n then outM (sv (iniM N bs ds)) else none
section
variable {P : Program} {w : World} {K : PySem.W.Frag} {mg : Str → Option Value} {base : Heap}
theorem def_d {x qual : Str} {st : Stmt} {f : Addr} {fd : FuncData} {N ps : List Str} {k n : Nat} {sv : SM} (F : Fun K x qual st f fd) (S : FnScope N ps (defScope st)) (hb : Binds K fd ps []) (hm : mg x = some (.ref f))
    (h : ∀ (cdv : Value) (A : Around) (outer : List Env) (s : Shared) (H : Hp) (E : XK), Room k (A.deeper (envOfC qual (defScope st) s.heap.objs.size f cdv)) → DSs K XN (cxOf CX0 P w K mg base N qual (defScope st) f cdv A outer s H E).nox (defBody st) sv)
    (hn : ps.length = n := by rfl) : Has P w K mg base (k + 1) x ps (spD K (runD N n sv)) := by
  refine ⟨f, fd, def_D F S h fun ds z e => ?_, hb, hm, F.kp⟩
  unfold runD at e
  split at e
  · rename_i hl
    refine ⟨hl.trans hn.symm, ?_⟩
    cases q : sv (ini N ds) with
    | none => rw [q] at e; cases e
    | some fl =>
      rw [q] at e
      cases fl with
      | rt d r => cases e; exact ⟨r, .inl rfl⟩
      | nx r => cases e; exact ⟨r, .inr ⟨rfl, rfl⟩⟩
      | _ => cases e
  · cases e
theorem def_f {x qual : Str} {st : Stmt} {f : Addr} {fd : FuncData} {N ps : List Str} {k n : Nat} {sv : SM} (F : Fun K x qual st f fd) (S : FnScope N ps (defScope st)) (hb : Binds K fd ps []) (hm : mg x = some (.ref f))
    (h : ∀ (cdv : Value) (A : Around) (outer : List Env) (s : Shared) (H : Hp) (E : XK), Room k (A.deeper (envOfC qual (defScope st) s.heap.objs.size f cdv)) → DSs K XN (cxOf CX0 P w K mg base N qual (defScope st) f cdv A outer s H E).nox (defBody st) sv)
    (hn : ps.length = n := by rfl) : Has P w K mg base (k + 1) x ps (spF K (runF N n sv)) := by
  refine ⟨f, fd, def_F F S h fun ds z e => ?_, hb, hm, F.kp⟩
  unfold runF at e
  split at e
  · rename_i hl
    refine ⟨hl.trans hn.symm, ?_⟩
    cases q : sv (ini N ds) with
    | none => rw [q] at e; cases e
    | some fl =>
      rw [q] at e
      cases fl with
      | rf d r => cases e; exact ⟨r, rfl⟩
      | _ => cases e
  · cases e
theorem def_m {x qual : Str} {st : Stmt} {f : Addr} {fd : FuncData} {N ps : List Str} {k n : Nat} {sv : SM} (F : Fun K x qual st f fd) (S : FnScope N ps (defScope st)) (hb : Binds K fd ps []) (hm : mg x = some (.ref f))
    (h : ∀ (cdv : Value) (A : Around) (outer : List Env) (s : Shared) (H : Hp) (E : XK), Room k (A.deeper (envOfC qual (defScope st) s.heap.objs.size f cdv)) → DSs K XN (cxOf CX0 P w K mg base N qual (defScope st) f cdv A outer s H E).nox (defBody st) sv)
    (hn : ps.length = n := by rfl) : Has P w K mg base (k + 1) x ps (spM K (runM N n sv)) := by
  refine ⟨f, fd, def_M F S h fun bs ds z e => ?_, hb, hm, F.kp⟩
  unfold runM at e
  split at e
  · rename_i hl
    refine ⟨hl.trans hn.symm, ?_⟩
    cases q : sv (iniM N bs ds) with
    | none => rw [q] at e; cases e
    | some fl =>
      rw [q] at e
      cases fl with
      | rt d r =>
        simp only [outM] at e
        obtain ⟨bs', h0, rfl⟩ := Option.map_eq_some_iff.mp e
        exact ⟨r, ioAt_some h0, .inl rfl⟩
      | nx r =>
        simp only [outM] at e
        obtain ⟨bs', h0, rfl⟩ := Option.map_eq_some_iff.mp e
        exact ⟨r, ioAt_some h0, .inr ⟨rfl, rfl⟩⟩
      | _ => cases e
  · cases e
end
end DL
namespace DL
open PySem PySem.Spec PyProof.Rows L2 Lk
/-! ## more operators -/
def shrM : PyData → PyData → Option PyData
  | .int a, .int b => if 0 ≤ b then some (.int (a / 2 ^ b.toNat)) else none
  | _, _ => none
section
variable {K : PySem.W.Frag} {E : XE} {X : Cx} {a b e : Expr} {es : List Expr} {ma mb : M PyData} {m : M (List PyData)} {pos : Pos}
theorem opd_shr : OpD K X (binaryOp .RShift) shrM := fun hK => by
  intro pins s σ H x y v u Q I rx ry h
  obtain ⟨G, d, e, z, sg, hd, he, hz, q⟩ := h
  unfold shrM at hz
  split at hz
  · split at hz
    · rename_i hl
      cases hz; cases hd; cases he
      exact op_shr pins s σ H _ _ v u Q I rx ry ⟨_, _, rfl, rfl, hl, q _ G H (Ps.refl sg) (.int _)⟩
    · cases hz
  · cases hz
/-- [*xs, a, ..] -/
def mStar (ma : M PyData) (m : M (List PyData)) : M (List PyData) := ma.bind fun d => (M.lift (asSeq d)).bind fun xs => m.bind fun ds => M.ret (xs ++ ds)
theorem da_star {p : Pos} (ha : DE K E X e ma) (hr : DA K E X es m) (hs : starEach (.Starred e p :: es) X.env = (true, eval e X.env) :: starEach es X.env := by rfl) : DA K E X (.Starred e p :: es) (mStar ma m) := ⟨fun hK => by
  subst hK
  refine PA.imp (StX.pa_star (ha.pe rfl) (hr.pa rfl) hs) fun σ H Q ⟨F, O, G, r, out, P, em, f⟩ => ?_
  refine tM.run P f em fun d r1 x G1 H1 P1 g1 q1 e1 f1 => ?_
  obtain ⟨xs, hx, e2⟩ := bind_lift_ok e1
  have go : ∀ (ys : List V), DqAll X.K G1 ys xs → tM X.K E (rA X.K) m σ H1 fun zs H2 => Q (ys ++ zs) H2 := fun ys hy => tM.run P1 f1 e2 fun ds r2 zs G2 H2 P2 g2 q2 e3 f2 => by
    cases e3
    exact f2.ok (Ps.refl P2.sub) P2 ((hy.sm g2.gg).append q2)
  cases d <;> first | cases hx | skip
  · cases q1 with
    | lst hs ha => exact ⟨_, _, rfl, .inr ((P1.sub.seq hs)), go _ ha⟩
  · cases q1 with
    | tup hs ha => exact ⟨_, _, rfl, .inl (Lk.Same.tup P1.sub hs), go _ ha⟩⟩
/-- list(range(n)) -/
def mLRng1 (ma : M PyData) : M (List PyData) := ma.bind fun d => M.lift ((asInt d).bind fun n => if n.natAbs ≤ 1000000 then some (rngL 0 n.toNat) else none)
theorem dq_rng {G : Hp} {a b : Int} : DqAll K G (rgV a b) (rngL a (b - a).toNat) := by
  have key : ∀ l : List Nat, DqAll K G (l.map fun i => V.int (a + (i : Nat))) (l.map fun i => PyData.int (a + (i : Nat))) := fun l => by
    induction l with
    | nil => exact .nil
    | cons i l ih => exact .cons (.int _) ih
  exact key _
theorem df_lrng1 {p p2 pos2 : Pos} (hc : X.calm = true) (hg : Gl X "list") (hm : X.mg "list" = none) (hg2 : Gl X "range") (hm2 : X.mg "range" = none) (ha : DE K E X a ma) (na : starEach [a] X.env = (false, eval a X.env) :: starEach [] X.env := by rfl)
    (na2 : starEach [.Call (.Name "range" p2) [a] [] pos2] X.env = (false, eval (.Call (.Name "range" p2) [a] [] pos2) X.env) :: starEach [] X.env := by rfl) : DF K E X (.Call (.Name "list" p) [.Call (.Name "range" p2) [a] [] pos2] [] pos) (mLRng1 ma) := ⟨fun hK => by
  refine PE.imp (pe_listRg hc hg hm (prg_1 hg2 hm2 (ha.pe hK) na) na2) fun σ H Q ⟨F, O, G, r, out, P, em, f⟩ => ?_
  refine tM.run P f em fun d r1 x G1 H1 P1 g1 q1 e1 f1 => ?_
  obtain ⟨z, hz, rfl⟩ := lift_ok e1
  obtain ⟨n, hn, hz2⟩ := Option.bind_eq_some_iff.mp hz
  cases asInt_some hn
  cases q1
  split at hz2
  · rename_i hl
    cases hz2
    refine ⟨n, rfl, ⟨by omega, by omega, by omega, by omega, by omega⟩, fun q nq => f1.ok (Ps.of_same P1.sub (same_new nq)) P1 ⟨q, _, rfl, nq, P1.sub.free nq, P1.nf _ nq, fun i z => (P1.on i q z).2.2.1 nq, upd_same, ?_⟩⟩
    have := dq_rng (K := K) (G := G1) (a := 0) (b := n)
    rw [Int.sub_zero] at this
    exact this
  · cases hz2⟩
/-- a, b = x, y -/
def sPar (i j : Nat) (m : M (List PyData)) : SM := sBind m fun ds r => match ds with
  | [d, e] => sSeq (sPut i d) (sPut j e) r
  | _ => none
theorem ds_par {i j : Nat} {x y : Str} {px py pt : Pos} {kt k2 pt2} (hc : X.calm = true) (hN : X.N.Nodup) (hi : X.N[i]? = some x) (hj : X.N[j]? = some y) (hij : i ≠ j)
    (hx : X.env.scope.names.lookup x = some .local) (hy : X.env.scope.names.lookup y = some .local) (ha : DA K E X [a, b] m)
    (hw : swappedStores [.Tuple [.Name x px, .Name y py] kt pt] (.Tuple [a, b] k2 pt2) X.env = pure (some [x, y]))
    (hs : swapsWithSole [.Tuple [.Name x px, .Name y py] kt pt] (.Tuple [a, b] k2 pt2) pos.line X.env = pure false := by rfl) :
    DS K E X (.Assign [.Tuple [.Name x px, .Name y py] kt pt] (.Tuple [a, b] k2 pt2) pos) (sPar i j m) := ⟨fun hK => by
  refine PS.imp (ps_par hc hN hi hj hij hx hy (ha.pa hK) hw hs) fun D σ H ⟨F, O, G, r, fl, P, em, f⟩ => ?_
  refine tS.run P f em fun ds r1 vs G1 H1 P1 g1 q1 e1 f1 => ?_
  split at e1
  · obtain ⟨v, w, rfl, hv, hw⟩ := two_of q1
    refine ⟨v, w, rfl, ?_⟩
    unfold sSeq at e1
    cases e2 : sPut i _ r1 with
    | none => rw [e2] at e1; cases e1
    | some fl2 =>
      rw [e2] at e1
      unfold sPut at e2
      split at e2
      · cases e2
      · rename_i cel hne hc
        cases e2
        simp only at e1
        unfold sPut at e1
        split at e1
        · cases e1
        · rename_i cel2 hne2 hc2
          cases e1
          have P2 := P1.put0 (fun ds z => hne ds (Option.some.inj (hc.symm.trans z))) hv
          exact f1 _ G1 _ H1 (P2.put0 (fun ds z => hne2 ds (Option.some.inj (hc2.symm.trans z))) hw) (Same.refl _)
        · cases e1
      · cases e2
  · cases e1⟩
/-! ## methods -/
def rMt (K : PySem.W.Frag) (g : PyData → List PyData → Option PyData) : V → List V → Hp → VK → Prop := fun x xs H Q => ∃ G d ds z, Same G H ∧ Dq K G x d ∧ DqAll K G xs ds ∧ g d ds = some z ∧ ∀ v G' H', Ps G H G' H' → Dq K G' v z → Q v H'
def MtD (K : PySem.W.Frag) (X : Cx) (id : String) (g : PyData → List PyData → Option PyData) : Prop := X.K = K → MtR X id (rMt K g)
/-- of that built-in type, one that bears methods here -/
def hasT (T : String) : PyData → Bool
  | .str _ => T == "str"
  | .int _ => T == "int"
  | .list _ => T == "list"
  | _ => false
def mMt (T : String) (g : PyData → List PyData → Option PyData) (ma : M PyData) (m : M (List PyData)) : M PyData := ma.bind fun d => if hasT T d then m.bind fun ds => M.lift (g d ds) else fun _ => none
theorem dq_ty {G H : Hp} {x : V} {d : PyData} {T : String} (h : Dq K G x d) (s : Same G H) (t : hasT T d = true) : tyV K T x H := by
  cases h with
  | str x => exact eq_of_beq t
  | int i => exact eq_of_beq t
  | lst hs ha => exact .inl ⟨eq_of_beq t, _, (s.seq hs)⟩
  | _ => cases t
theorem de_bm {T id : String} {name : Str} {ap : Pos} {g : PyData → List PyData → Option PyData} (pa : PlainAttrs T) (slot : Slot T name id) (hty : typeOf (.builtin id) = pure (.type "method_descriptor")) (hm : MtD K X id g) (ho : DE K E X a ma) (ha : DA K E X (e :: es) m)
    (hbase : attributeBase a name X.env (eval a X.env) = eval a X.env := by rfl)
    (hfew : ((backTo pos (starEach (e :: es) X.env)).all (fun x => !x.1) && (backToKw pos (keywordEach [] X.env)).all (fun x => x.1.isSome)
      && decide ((e :: es).length + ([] : List Keyword).length + (if ([] : List Keyword).isEmpty then 0 else 1) < 30)) = true := by rfl)
    (hline : (ap.endLine == pos.line) = true := by rfl) (hs : starEach (e :: es) X.env = (false, eval e X.env) :: starEach es X.env := by rfl) (hplain : (backTo pos (starEach es X.env)).any (·.1) = false := by rfl) :
    DE K E X (.Call (.Attribute a name ap) (e :: es) [] pos) (mMt T g ma m) := ⟨fun hK => by
  subst hK
  refine PE.imp (pe_bm pa slot hty (hm rfl) (ho.pe rfl) (ha.pa rfl) hbase hfew hline hs hplain) fun σ H Q ⟨F, O, G, r, out, P, em, f⟩ => ?_
  refine tM.run P f em fun d r1 x G1 H1 P1 g1 q1 e1 f1 => ?_
  split at e1
  · rename_i ht
    refine ⟨dq_ty q1 P1.sub ht, tM.run P1 f1 e1 fun ds r2 xs G2 H2 P2 g2 q2 e2 f2 => ?_⟩
    obtain ⟨z, hz, rfl⟩ := lift_ok e2
    exact ⟨G2, d, ds, z, P2.sub, q1.sm g2.gg, q2, hz, fun v G' H' p q => f2.ok p P2 q⟩
  · cases e1⟩
def countM : PyData → List PyData → Option PyData
  | .list ds, [d] => if flatD d && ds.all flatD then some (.int ((ds.countP fun z => PyData.eqv z d : Nat) : Int)) else none
  | _, _ => none
theorem countP_eqU {x : V} : ∀ {xs : List V} {us : List Value}, Vals xs us → xs.all flatV = true → us.countP (eqU x) = xs.countP fun y => eqV y x
  | [], [], .nil, _ => rfl
  | y :: xs, u :: us, .cons r t, f => by
    rw [List.all_cons, Bool.and_eq_true] at f
    rw [List.countP_cons, List.countP_cons, eqU_of r f.1, countP_eqU t f.2]
theorem dq_countV {G : Hp} {x : V} {d : PyData} (hx : Dq K G x d) (f : flatD d = true) : ∀ {vs : List V} {ds : List PyData}, DqAll K G vs ds → ds.all flatD = true → (vs.countP fun y => eqV y x) = ds.countP fun z => PyData.eqv z d
  | _, _, .nil, _ => rfl
  | _, _, .cons h1 h2, g => by
    rw [List.all_cons, Bool.and_eq_true] at g
    rw [List.countP_cons, List.countP_cons, dq_countV hx f h2 g.2, dq_eqV h1 hx g.1 f]
theorem mtd_count : MtD K X "list.count" countM := fun hK => by
  subst hK
  intro pins s σ H x xs v us Q I rx rxs h
  obtain ⟨G, d, ds, z, sg, hd, hds, hz, q⟩ := h
  unfold countM at hz
  split at hz
  · split at hz
    · rename_i hfl
      rw [Bool.and_eq_true] at hfl
      cases hz
      cases hd with
      | lst hs ha =>
        cases rx
        obtain ⟨w, rfl, hw⟩ := one_of hds
        obtain ⟨u, rfl, ru⟩ := rxs.one
        obtain ⟨its, rv, ⟨⟨cls, dd, data, sl⟩, n, ho, hc, hdn, hdt⟩, hlen⟩ := I.list ((sg.seq hs))
        simp only at hc hdt
        subst hc hdt
        have fw := dq_flat hw hfl.1
        have fx := dq_flats ha hfl.2
        refine call_meets PySem.F.slot_list_count ⟨_, ho, rfl⟩ PySem.F.entry_list_count (PySem.F.args_list_count_2 _ _)
          (SeqAt.list_countAt _ its.toArray n dd sl u (eqU w)) ⟨ho, fun y hy => mem_eqAt ru fw rv fx y (by simpa using hy), ?_⟩
        have ec : its.toArray.toList.countP (eqU w) = _ := (countP_eqU rv fx).trans (dq_countV hw hfl.1 ha hfl.2)
        refine ⟨.int _, H, I.tok _, ⟨s.toks, ?_⟩, q _ G H (Ps.refl sg) (.int _)⟩
        show Value.int ((its.toArray.toList.countP (eqU w) : Nat) : Int) s.toks = _
        rw [ec]
    · cases hz
  · cases hz
/-! ## xs.extend(e) -/
open PySem.AutoSeq1 in
theorem list_extend_tupA (l : Addr) (items : Array Value) (n : Nat) (b : Addr) (items2 : Array Value) (n2 : Nat) (od : Option Addr) (sl : Array (Option Value)) (hs0 : ¬(!items.isEmpty && Builtin.List.listTooLong (items.size + items2.size)) = true) (hs1 : items.size ≤ sizeLine) (hs2 : items.size + items2.size ≤ sizeLine + 1 := by seq_fits) :
    Meets (Builtin.«list.extend» ⟨[.ref l, .ref b], []⟩) (fun _ R s => s.heap.get? l = some { cls := .type "list", dict := none, data := .seq items n, slots := #[] } ∧ s.heap.get? b = some { cls := .type "tuple", dict := od, data := .seq items2 n2, slots := sl } ∧ R (.ok (.ret Value.none)) { s with heap := s.heap.update l (Obj.mapSeq fun x => x ++ items2), toks := s.toks }) :=
  .of_wp fun prog w A R s h => by
    obtain ⟨hp, g, d, tk, os⟩ := s; obtain ⟨hl, hb, h⟩ := h; have f1 := idx_int; have f2 := AutoSeq1.sub_tuple_tuple; have f3 := AutoSeq1.sub_list_list; have f4 := AutoSeq1.sub_tuple_list; have f5 := AutoSeq1.sub_list_tuple;
    have hz' : (items ++ items2).size ≤ sizeLine + 1 := by rw [Array.size_append]; exact hs2
    wp_walk using (wpAny_updateSeq hl rfl (hz := hs1) (_hz' := hz')), wpAny_loadPart' hl, wpAny_loadPart' hb; exact ⟨_, rfl, h⟩
def rExtendA (K : PySem.W.Frag) : V → List V → Hp → VK → Prop := fun x vs H Q => ∃ l b xs zs, x = .ref l ∧ vs = [.ref b] ∧ H l = some (.lst xs) ∧ SqT K H b zs ∧ xs.length + zs.length ≤ sizeLine ∧ Q .non (upd H l (.lst (xs ++ zs)))
theorem mt_extendA : MtM X "list.extend" (rExtendA X.K) := by
  intro pins s σ H x vs v us Q I rx rv h
  obtain ⟨l, b, xs, zs, rfl, rfl, hH, hB, hz, q⟩ := h
  cases rx
  obtain ⟨u, rfl, ru⟩ := rv.one
  cases ru
  obtain ⟨z, its, n, r, hl, e⟩ := I.lstM hH
  obtain ⟨its2, r2, ⟨⟨oc, od, odata, osl⟩, e2, hc, n2, hdata⟩, z2⟩ := I.tuple hB
  have hl2 : zs.length = its2.length := r2.length
  cases hc
  cases hdata
  have hsz : its.toArray.size + its2.toArray.size ≤ sizeLine := by rw [List.size_toArray, List.size_toArray]; omega
  have hlong : ¬ (!its.toArray.isEmpty && Builtin.List.listTooLong (its.toArray.size + its2.toArray.size)) = true := by
    rw [notLongL hsz, Bool.and_false]
    exact Bool.false_ne_true
  refine call_meets F.slot_list_extend ⟨_, e, rfl⟩ F.entry_list_extend (F.args_list_extend_2 _ _)
    (list_extend_tupA l its.toArray n b its2.toArray n2 od osl hlong (by rw [List.size_toArray]; omega) (by omega)) ⟨e, e2, ?_⟩
  refine ⟨.non, _, I.lset (its' := its ++ its2) hH e (by simp) (r.append r2) ?_, rfl, q⟩
  rw [List.length_append]
  omega
def sExt (i : Nat) (m : M PyData) : SM := fun r0 => if (ownOf r0[i]?).isSome then sBind m (fun d r => match ownOf r[i]?, asTup d with
  | some ds, some es => if ds.length + es.length ≤ 1000000 then some (.nx (upO i (ds ++ es) r)) else none
  | _, _ => none) r0 else none
theorem ds_ext (i : Nat) {st : Stmt} {te : TE} (ha : X.K = K → ∀ σ H Q, tM K E (rD K) ma σ H Q → te σ H Q) (hp : PS X st (tDrop (tBM X.K "list" (rExtendA X.K) (tVar i) (tCons te tNil)))) : DS K E X st (sExt i ma) := ⟨fun hK => by
  subst hK
  refine PS.imp hp fun D σ H ⟨F, O, G, r, fl, P, em, ff⟩ => ?_
  unfold sExt at em
  split at em
  · rename_i hs
    obtain ⟨bs0, e0⟩ := isSome_ex hs
    obtain ⟨q, xs0, hq, hσ, hx0, _⟩ := P.own_at e0
    refine ⟨_, hσ, .inl ⟨rfl, _, .inl (.inl hx0)⟩, ha rfl _ _ _ (tS.run P ff em fun d r1 x G1 H1 P1 g1 q1 e1 f1 => ?_)⟩
    split at e1
    · rename_i ds es e2 hes
      split at e1
      · rename_i hl
        cases e1
        obtain ⟨q', xs1, hq', hσ', hx, hb⟩ := P1.own_at e2
        rw [hq] at hq'
        cases hq'
        have gp := (P1.on i q hq).2.1
        have fin : ∀ (ys : List V), DqAll X.K G1 ys es → D.nx σ (upd H1 q (.lst (xs1 ++ ys))) := fun ys hy => by
          obtain ⟨P2, g2⟩ := P1.chg e2 hq (Same.refl G1) (fun c o e => by rw [upd_ne (ne_of_none e gp)]; exact P1.sub _ _ e) gp (fun c o n e => by rw [upd_ne n]; exact e) (fun c e => .inl e) (upd_same (o := .lst (xs1 ++ ys))) (hb.append hy)
          exact f1 O G1 σ _ P2 (Same.refl _)
        cases asTup_some hes
        cases q1 with
        | tup hs ha => exact ⟨q, _, xs1, _, rfl, rfl, hx, Lk.Same.tup P1.sub hs, line_le (by rw [hb.length, ha.length]; exact hl), fin _ ha⟩
      · cases e1
    · cases e1
  · cases em⟩
end
end DL
namespace DL
open PySem PySem.Spec PyProof.Rows L2 Lk
/-! ## comprehensions of two clauses -/
/-- the inner clause: vs1 its names -/
def lcIn (vs1 : List Nat) (g : PyData → En → Option En) (mt : M Bool) (me : M PyData) : List PyData → En → Option (List PyData × En) := lcGo vs1 g mt me
def lc2Go (vs vs1 : List Nat) (g : PyData → En → Option En) (mt : M Bool) (mi1 : M (List PyData)) (g1 : PyData → En → Option En) (mt1 : M Bool) (me : M PyData) : List PyData → En → Option (List PyData × En)
  | [], r => some ([], wipeE r vs)
  | x :: xs, r => (g x (wipeE r vs)).bind fun r1 => match mt r1 with
    | some (.ok true r2) => (match mi1 r2 with
      | some (.ok items r3) => (lcGo vs1 g1 mt1 me items r3).bind fun z => (lc2Go vs vs1 g mt mi1 g1 mt1 me xs z.2).map fun y => (z.1 ++ y.1, y.2)
      | _ => none)
    | some (.ok false r2) => lc2Go vs vs1 g mt mi1 g1 mt1 me xs r2
    | _ => none
def mLc2 (vs vs1 : List Nat) (mi : M (List PyData)) (g : PyData → En → Option En) (mt : M Bool) (mi1 : M (List PyData)) (g1 : PyData → En → Option En) (mt1 : M Bool) (me : M PyData) : M (List PyData) := mi.bind fun items r =>
  if freeAt r vs then (lc2Go vs vs1 g mt mi1 g1 mt1 me items r).bind fun z => if z.1.length ≤ 1000000 then some (.ok z.1 (restE r z.2 vs)) else none else none
section
variable {K : PySem.W.Frag} {E : XE} {X : Cx} {pos : Pos} {F : Fm} {O : Ow} {G H : Hp} {σ : L2.St} {r : En}
theorem own_none {vs : List Nat} (R : Rp K F O G σ H r) (o : ∀ v ∈ vs, O v = none) : ∀ v ∈ vs, ∀ ds, r[v]? ≠ some (Cel.ow ds) ∧ r[v]? ≠ some (Cel.io ds) := fun v hv ds => by
  refine ⟨fun e => ?_, fun e => ?_⟩
  · obtain ⟨p, xs, h1, _⟩ := R.ow v ds e
    rw [o v hv] at h1
    cases h1
  · obtain ⟨p, xs, _, h1, _⟩ := R.io v ds e
    rw [o v hv] at h1
    cases h1
theorem set_comm_wipe {v w : Nat} (σ : L2.St) : (σ.set v none).set w none = (σ.set w none).set v none := by
  by_cases h : v = w
  · subst h; rfl
  · exact List.set_comm _ _ h
theorem wipe_set {σ : L2.St} {v : Nat} : ∀ {vs : List Nat}, (L2.wipe σ vs).set v none = L2.wipe (σ.set v none) vs
  | [] => rfl
  | w :: vs => by
    show ((L2.wipe σ vs).set w none).set v none = (L2.wipe (σ.set v none) vs).set w none
    rw [set_comm_wipe, wipe_set (vs := vs)]
theorem wipe_sub {σ σ' : L2.St} {vs us : List Nat} (hs : ∀ u ∈ us, u ∈ vs) (h : L2.wipe σ us = L2.wipe σ' us) : L2.wipe σ vs = L2.wipe σ' vs := by
  have hl : σ.length = σ'.length := by rw [← wipe_length σ us, h, wipe_length]
  refine wipe_eq hl fun j hj => ?_
  have hj' : j ∉ us := fun z => hj (hs j z)
  rw [← wipe_out hj', h, wipe_out hj']
theorem wipeE_wipe : ∀ {vs : List Nat} {r : En}, (∀ v ∈ vs, r[v]? = some .un ∨ r[v]? = none) → wipeE r vs = r
  | [], _, _ => rfl
  | v :: vs, r, h => by
    show (wipeE r vs).set v .un = r
    rw [wipeE_wipe fun w hw => h w (List.mem_cons_of_mem _ hw)]
    rcases h v (List.mem_cons_self ..) with e | e
    · obtain ⟨h1, h2⟩ := List.getElem?_eq_some_iff.mp e
      rw [← h2, List.set_getElem_self]
    · rw [List.set_eq_of_length_le]
      exact List.getElem?_eq_none_iff.mp e
/-- the new list at D, unseen, so far -/
structure Acc (K : PySem.W.Frag) (F : Fm) (O : Ow) (G1 H1 : Hp) (D : Addr) (σ : L2.St) (G H : Hp) (r : En) (xs : List V) (ds : List PyData) : Prop where
  rp : Rp K F O G σ H r
  go : Go O G1 H1 G H
  gD : G D = none
  hD : H D = some (.lst xs)
  hx : DqAll K G xs ds
theorem Acc.step {G1 H1 G2 H2 : Hp} {D : Addr} {xs : List V} {ds : List PyData} {r2 : En} {σ2 : L2.St} (A : Acc K F O G1 H1 D σ G H r xs ds) (hDo : ∀ i, O i ≠ some D) (g : Go O G H G2 H2) (P : Rp K F O G2 σ2 H2 r2) : Acc K F O G1 H1 D σ2 G2 H2 r2 xs ds := by
  have hD2 := g.keep _ _ A.hD hDo
  refine ⟨P, A.go.trans g, ?_, hD2, A.hx.sm g.gg⟩
  cases z : G2 D with
  | none => rfl
  | some o =>
    rcases g.gn D (some_ne z) with w | w
    · exact absurd A.gD w
    · rw [A.hD] at w
      cases w
theorem Acc.app {G1 H1 : Hp} {D : Addr} {xs : List V} {ds : List PyData} {y : V} {d : PyData} (A : Acc K F O G1 H1 D σ G H r xs ds) (nD : H1 D = none) (hD0 : F.H0 D = none) (hDo : ∀ i, O i ≠ some D) (hy : Dq K G y d) : Acc K F O G1 H1 D σ G (upd H D (.lst (xs ++ [y]))) r (xs ++ [y]) (ds ++ [d]) :=
  ⟨A.rp.wr A.gD hD0 hDo, A.go.wr nD, A.gD, upd_same, A.hx.append (.cons hy .nil)⟩
theorem lc2_run {vs vs1 ts ts1 : List Nat} {mi : M (List PyData)} {g : PyData → En → Option En} {mt : M Bool} {mi1 : M (List PyData)} {g1 : PyData → En → Option En} {mt1 : M Bool} {me : M PyData} (hts : ∀ t ∈ ts, t ∈ vs) (hts1 : ∀ t ∈ ts1, t ∈ vs1) (hvs : ∀ t ∈ vs1, t ∈ vs) {Q : VK} (h : tM K E (rF K) (mLc2 vs vs1 mi g mt mi1 g1 mt1 me) σ H Q) :
    tLc2 (tM K E (rIt K) mi) (tG K ts g) (tM K XN rB mt) (tM K XN (rIt K) mi1) (tG K ts1 g1) (tM K XN rB mt1) (tM K XN (rD K) me) vs vs1 σ H Q := by
  obtain ⟨F, O, G, r, out, P, em, f⟩ := h
  refine tM.run P f em fun items r1 J G1 H1 P1 gg1 q1 e1 f1 => ?_
  split at e1
  · rename_i hfree
    obtain ⟨⟨ds, r'⟩, hgo, e1⟩ := Option.bind_eq_some_iff.mp e1
    split at e1
    · rename_i hlen
      cases e1
      dsimp only at hlen
      have ov := free_own P1 hfree
      have ov1 : ∀ v ∈ vs1, O v = none := fun v hv => ov v (hvs v hv)
      intro D nD
      have hD0 : F.H0 D = none := P1.nf _ nD
      have hDo : ∀ i, O i ≠ some D := fun i z => (P1.on i D z).2.2.1 nD
      have hDG : G1 D = none := P1.sub.free nD
      have A0 : Acc K F O G1 H1 D σ G1 (upd H1 D (.lst [])) r1 [] [] := ⟨P1.wr hDG hD0 hDo, Go.refl.wr nD, hDG, upd_same, .nil⟩
      refine ⟨fun i m H' => m = items.length - i ∧ i ≤ items.length ∧ ∃ G' r2 xs ds0 ds1, Acc K F O G1 H1 D (L2.wipe σ vs) G' H' (wipeE r2 vs) xs ds0 ∧ lc2Go vs vs1 g mt mi1 g1 mt1 me (items.drop i) r2 = some (ds1, r') ∧ ds = ds0 ++ ds1,
        ⟨items.length, by simp, Nat.zero_le _, G1, r1, [], [], ds, ⟨A0.rp.wipe ov, A0.go, A0.gD, A0.hD, A0.hx⟩, hgo, rfl⟩, ?_⟩
      rintro i m H' ⟨rfl, hi, G', r2, xs, ds0, ds1, A, hgo2, rfl⟩
      by_cases hlt : i < items.length
      · refine .inr ?_
        have e3 := List.getElem?_eq_getElem hlt
        rw [List.drop_eq_getElem_cons hlt] at hgo2
        obtain ⟨jgo, jy⟩ := (q1 i H' G' A.go.gg A.rp.sub).1 _ e3
        refine ⟨jgo, _, fun H4 p => ⟨_, (by omega : items.length - (i + 1) < items.length - i), p⟩, fun x H'' y => ?_⟩
        obtain ⟨G2, ps, hd⟩ := jy x H'' y
        obtain ⟨r3, e4, e5⟩ := Option.bind_eq_some_iff.mp hgo2
        have A2 := A.step hDo (ps.go (O := O)) (A.rp.ps ps)
        refine ⟨F, O, G2, _, r3, _, A2.rp, hd, e4, fun σ2 P3 l3 k3 => ?_⟩
        have w3 : L2.wipe σ2 vs = L2.wipe σ vs := by
          have := wipe_eq l3 (vs := vs) fun j hj => k3 j fun z => hj (hts j z)
          rw [this, wipe_wipe]
        refine ⟨w3, ?_⟩
        have A3 := A2.step hDo Go.refl P3
        cases em3 : mt r3 with
        | none => rw [em3] at e5; cases e5
        | some o3 =>
          rw [em3] at e5
          cases o3 with
          | ex c p => cases e5
          | ok b r4 =>
            refine ⟨F, O, G2, r3, _, P3, em3, fun b' G4 H4 P4 g4 hb => ?_⟩
            cases hb
            have A4 := A3.step hDo g4 P4
            cases b with
            | false =>
              refine iteF ⟨rfl, hlt, G4, r4, xs, ds0, ds1, ?_, e5, rfl⟩
              have := P4.wipe ov
              rw [w3] at this
              exact ⟨this, A4.go, A4.gD, A4.hD, A4.hx⟩
            | true =>
              refine iteT ?_
              cases em5 : mi1 r4 with
              | none =>
                simp only [em5] at e5
                cases e5
              | some o5 =>
                cases o5 with
                | ex c p =>
                  simp only [em5] at e5
                  cases e5
                | ok items1 r5 =>
                  simp only [em5] at e5
                  obtain ⟨⟨es, r6⟩, hgo6, e6⟩ := Option.bind_eq_some_iff.mp e5
                  obtain ⟨⟨fs, r7⟩, hgo7, e7⟩ := Option.map_eq_some_iff.mp e6
                  cases e7
                  refine ⟨F, O, G4, r4, _, P4, em5, fun J1 G5 H5 P5 g5 q5 => ?_⟩
                  have A5 := A4.step hDo g5 P5
                  refine ⟨fun j k H' => k = items1.length - j ∧ j ≤ items1.length ∧ ∃ G' r8 xs es0 es1, Acc K F O G1 H1 D (L2.wipe σ2 vs1) G' H' (wipeE r8 vs1) xs (ds0 ++ es0) ∧ Same G5 G' ∧ lcGo vs1 g1 mt1 me (items1.drop j) r8 = some (es1, r6) ∧ es = es0 ++ es1,
                    ⟨items1.length, by simp, Nat.zero_le _, G5, r5, xs, [], es, ⟨A5.rp.wipe ov1, A5.go, A5.gD, A5.hD, by rw [List.append_nil]; exact A5.hx⟩, Same.refl _, hgo6, rfl⟩, ?_⟩
                  rintro j k H6 ⟨rfl, hj, G6, r8, xs6, es0, es1, A6, gg6, hgo8, rfl⟩
                  by_cases hlt1 : j < items1.length
                  · refine .inr ?_
                    have e9 := List.getElem?_eq_getElem hlt1
                    rw [List.drop_eq_getElem_cons hlt1] at hgo8
                    obtain ⟨jgo1, jy1⟩ := (q5 j H6 G6 gg6 A6.rp.sub).1 _ e9
                    refine ⟨jgo1, _, fun H4 p => ⟨_, (by omega : items1.length - (j + 1) < items1.length - j), p⟩, fun x1 H7 y1 => ?_⟩
                    obtain ⟨G7, ps7, hd7⟩ := jy1 x1 H7 y1
                    obtain ⟨r9, e10, e11⟩ := Option.bind_eq_some_iff.mp hgo8
                    have A7 := A6.step hDo (ps7.go (O := O)) (A6.rp.ps ps7)
                    refine ⟨F, O, G7, _, r9, _, A7.rp, hd7, e10, fun σ3 P8 l8 k8 => ?_⟩
                    have w8 : L2.wipe σ3 vs1 = L2.wipe σ2 vs1 := by
                      have := wipe_eq l8 (vs := vs1) fun j hj => k8 j fun z => hj (hts1 j z)
                      rw [this, wipe_wipe]
                    refine ⟨w8, ?_⟩
                    have A8 := A7.step hDo Go.refl P8
                    cases em12 : mt1 r9 with
                    | none => rw [em12] at e11; cases e11
                    | some o12 =>
                      rw [em12] at e11
                      cases o12 with
                      | ex c p => cases e11
                      | ok b r10 =>
                        refine ⟨F, O, G7, r9, _, P8, em12, fun b' G9 H9 P9 g9 hb => ?_⟩
                        cases hb
                        have A9 := A8.step hDo g9 P9
                        cases b with
                        | false =>
                          refine iteF ⟨rfl, hlt1, G9, r10, xs6, es0, es1, ?_, (gg6.trans ps7.gg).trans g9.gg, e11, rfl⟩
                          have := P9.wipe ov1
                          rw [w8] at this
                          exact ⟨this, A9.go, A9.gD, A9.hD, A9.hx⟩
                        | true =>
                          refine iteT ?_
                          cases em13 : me r10 with
                          | none =>
                            simp only [em13] at e11
                            cases e11
                          | some o13 =>
                            cases o13 with
                            | ex c p =>
                              simp only [em13] at e11
                              cases e11
                            | ok d r11 =>
                              simp only [em13] at e11
                              obtain ⟨⟨es2, r12⟩, hgo14, e14⟩ := Option.map_eq_some_iff.mp e11
                              cases e14
                              refine ⟨F, O, G9, r10, _, P9, em13, fun y G10 H10 P10 g10 hy => ?_⟩
                              have A10 := A9.step hDo g10 P10
                              have ly : xs6.length = (ds0 ++ es0).length := A10.hx.length
                              have lx : xs6.length ≤ 1000000 := by
                                rw [ly]
                                simp only [List.length_append, List.length_cons] at hlen ⊢
                                omega
                              have A11 := A10.app nD hD0 hDo hy
                              refine ⟨xs6, A10.hD, line_lt lx, rfl, hlt1, G10, r11, xs6 ++ [y], es0 ++ [d], es2, ?_, ((gg6.trans ps7.gg).trans g9.gg).trans g10.gg, hgo14, by rw [List.append_assoc]; rfl⟩
                              have := A11.rp.wipe ov1
                              rw [w8] at this
                              exact ⟨this, A11.go, A11.gD, A11.hD, by rw [← List.append_assoc]; exact A11.hx⟩
                  · refine .inl ?_
                    have e9 : j = items1.length := by omega
                    subst e9
                    rw [List.drop_length] at hgo8
                    cases hgo8
                    refine ⟨(q5 _ H6 G6 gg6 A6.rp.sub).2 (Nat.le_refl _), rfl, hlt, G6, wipeE r8 vs1, xs6, ds0 ++ es0, fs, ?_, hgo7, by rw [List.append_nil, List.append_assoc]⟩
                    have := A6.rp.wipe ov
                    rw [wipe_sub hvs (wipe_wipe (σ := σ2) (vs := vs1)), w3] at this
                    exact ⟨this, A6.go, A6.gD, A6.hD, A6.hx⟩
      · refine .inl ?_
        have e3 : i = items.length := by omega
        subst e3
        rw [List.drop_length] at hgo2
        cases hgo2
        rw [List.append_nil] at f1
        refine ⟨(q1 _ H' G' A.go.gg A.rp.sub).2 (Nat.le_refl _), f1 _ G' H' (Rp.rest (fun v hv d e => ?_) (own_none P1 ov) A.rp ov) A.go ⟨D, xs, rfl, nD, A.gD, hD0, hDo, A.hD, A.hx⟩⟩
        obtain ⟨x, h1, h2⟩ := P1.pl v d e
        exact ⟨x, h1, h2.sm A.go.gg⟩
    · cases e1
  · cases e1
section
variable {elt tg iter tg1 iter1 : Expr} {ifs ifs1 : List Expr} {scope : Scope} {own : List (Str × Nat)} {vs1 ts ts1 : List Nat} {mi mi1 : M (List PyData)} {g g1 : PyData → En → Option En} {mt mt1 : M Bool} {me : M PyData}
theorem df_lc2 (hc : X.calm = true) (hN : X.N.Nodup) (hi : DI K E X tg iter mi) (ok : BlkOk X.N X.env.scope scope own) (hv : ∀ i ∈ vs1, i ∈ own.map (·.2))
    (hg : ∀ (s : Shared) (H : Hp) (C : Addr) (cl : List (Str × Addr)) (fp : List Addr), DG K (X.blk s H scope (compEnvC scope cl C X.env) fp) tg ts g) (ht : ∀ (s : Shared) (H : Hp) (C : Addr) (cl : List (Str × Addr)) (fp : List Addr), DTs K (X.blk s H scope (compEnvC scope cl C X.env) fp) ifs mt)
    (hi1 : ∀ (s : Shared) (H : Hp) (C : Addr) (cl : List (Str × Addr)) (fp : List Addr), DI K XN (X.blk s H scope (compEnvC scope cl C X.env) fp) tg1 iter1 mi1)
    (hg1 : ∀ (s : Shared) (H : Hp) (C : Addr) (cl : List (Str × Addr)) (fp : List Addr), DG K (X.blk s H scope (compEnvC scope cl C X.env) fp) tg1 ts1 g1) (ht1 : ∀ (s : Shared) (H : Hp) (C : Addr) (cl : List (Str × Addr)) (fp : List Addr), DTs K (X.blk s H scope (compEnvC scope cl C X.env) fp) ifs1 mt1)
    (he : ∀ (s : Shared) (H : Hp) (C : Addr) (cl : List (Str × Addr)) (fp : List Addr), DE K XN (X.blk s H scope (compEnvC scope cl C X.env) fp) elt me) (hts : ∀ t ∈ ts, t ∈ own.map (·.2) := by decide) (hts1 : ∀ t ∈ ts1, t ∈ vs1 := by decide) (hs : ∀ x, foldedSetIterable iter X.env x = pure x := by intro _; rfl) (hs1 : ∀ env x, foldedSetIterable iter1 env x = pure x := by intro _ _; rfl) :
    DF K E X (.ListComp elt [⟨tg, iter, ifs, 0⟩, ⟨tg1, iter1, ifs1, 0⟩] scope pos) (mLc2 (own.map (·.2)) vs1 mi g mt mi1 g1 mt1 me) :=
  ⟨fun hK => PE.imp (pe_lc2 hc hN (hi.pi hK) ok hv (fun s H C cl fp => (hg s H C cl fp).pg hK) (fun s H C cl fp => (ht s H C cl fp).pt hK) (fun s H C cl fp => (hi1 s H C cl fp).pi hK) (fun s H C cl fp => (hg1 s H C cl fp).pg hK) (fun s H C cl fp => (ht1 s H C cl fp).pt hK) (fun s H C cl fp => (he s H C cl fp).pe hK) hs hs1) fun _ _ _ h => lc2_run hts hts1 hv h⟩
variable {i : Nat} {y : Str} {py spos : Pos}
theorem ds_setLc2 (hc : X.calm = true) (hN : X.N.Nodup) (hy : X.N[i]? = some y) (hyl : X.env.scope.names.lookup y = some .local)
    (hsw : swapsWith (.ListComp elt [⟨tg, iter, ifs, 0⟩, ⟨tg1, iter1, ifs1, 0⟩] scope pos) (some (.Name y py)) spos.line X.env = pure true) (hi : DI K E X tg iter mi) (ok : BlkOk X.N X.env.scope scope own) (hv : ∀ i ∈ vs1, i ∈ own.map (·.2))
    (hg : ∀ (s : Shared) (H : Hp) (C : Addr) (cl : List (Str × Addr)) (fp : List Addr), DG K (X.blk s H scope (compEnvC scope cl C X.env) fp) tg ts g) (ht : ∀ (s : Shared) (H : Hp) (C : Addr) (cl : List (Str × Addr)) (fp : List Addr), DTs K (X.blk s H scope (compEnvC scope cl C X.env) fp) ifs mt)
    (hi1 : ∀ (s : Shared) (H : Hp) (C : Addr) (cl : List (Str × Addr)) (fp : List Addr), DI K XN (X.blk s H scope (compEnvC scope cl C X.env) fp) tg1 iter1 mi1)
    (hg1 : ∀ (s : Shared) (H : Hp) (C : Addr) (cl : List (Str × Addr)) (fp : List Addr), DG K (X.blk s H scope (compEnvC scope cl C X.env) fp) tg1 ts1 g1) (ht1 : ∀ (s : Shared) (H : Hp) (C : Addr) (cl : List (Str × Addr)) (fp : List Addr), DTs K (X.blk s H scope (compEnvC scope cl C X.env) fp) ifs1 mt1)
    (he : ∀ (s : Shared) (H : Hp) (C : Addr) (cl : List (Str × Addr)) (fp : List Addr), DE K XN (X.blk s H scope (compEnvC scope cl C X.env) fp) elt me) (hts : ∀ t ∈ ts, t ∈ own.map (·.2) := by decide) (hts1 : ∀ t ∈ ts1, t ∈ vs1 := by decide) (hs : ∀ x, foldedSetIterable iter X.env x = pure x := by intro _; rfl) (hs1 : ∀ env x, foldedSetIterable iter1 env x = pure x := by intro _ _; rfl) :
    DS K E X (.Assign [.Name y py] (.ListComp elt [⟨tg, iter, ifs, 0⟩, ⟨tg1, iter1, ifs1, 0⟩] scope pos) spos) (sSet i ((mLc2 (own.map (·.2)) vs1 mi g mt mi1 g1 mt1 me).map PyData.list)) :=
  ⟨fun hK => ds_set_t (ps_setLc2 hc hN hy hyl hsw (hi.pi hK) ok hv (fun s H C cl fp => (hg s H C cl fp).pg hK) (fun s H C cl fp => (ht s H C cl fp).pt hK) (fun s H C cl fp => (hi1 s H C cl fp).pi hK) (fun s H C cl fp => (hg1 s H C cl fp).pg hK) (fun s H C cl fp => (ht1 s H C cl fp).pt hK) (fun s H C cl fp => (he s H C cl fp).pe hK) hs hs1) fun _ _ _ h => lc2_run hts hts1 hv (fr_t h)⟩
end
end
end DL
namespace DL
open PySem PySem.Spec PyProof.Rows L2 Lk
/-! ## the names of the readings, as rules -/
section
variable {K : PySem.W.Frag} {E : XE} {X : Cx} {a b c e : Expr} {es : List Expr} {ma mb mc : M PyData} {m : M (List PyData)} {mt : M Bool} {pos : Pos}
theorem xe_op {op : Operator} {g : PyData → PyData → Option PyData} (ho : OpD K X (binaryOp op) g) (ha : DE K E X a ma) (hb : DE K E X b mb) : DE K E X (.BinOp a op b pos) (mOp2 g ma mb) := de_op ho ha hb
theorem xe_cmp {op : CmpOp} {g : PyData → PyData → Option PyData} (ho : OpD K X (compareOp op) g) (ha : DE K E X a ma) (hb : DE K E X b mb) (hm : behindInMarks op b = false) : DE K E X (.Compare a [op] [b] pos) (mOp2 g ma mb) := de_cmp ho ha hb hm
theorem xt_cmp {op : CmpOp} {g : PyData → PyData → Option PyData} (ho : OpD K X (compareOp op) g) (ha : DE K E X a ma) (hb : DE K E X b mb) (hm : behindInMarks op b = false) : DT K E X (.Compare a [op] [b] pos) (mOpT g ma mb) := dt_cmp ho ha hb hm
theorem xa_nil : DA K E X [] mNil := da_nil
theorem xa_cons (ha : DE K E X e ma) (hr : DA K E X es m) (hs : starEach (e :: es) X.env = (false, eval e X.env) :: starEach es X.env := by rfl) : DA K E X (e :: es) (mCons ma m) := da_cons ha hr hs
theorem xe_tup {x1} (h : DA K E X es m) : DE K E X (.Tuple es x1 pos) (mTup m) := de_tup h
theorem xf_lst (h : DA K E X es m) : DF K E X (.List es pos) (mLst m) := df_lst h
theorem xe_fr (h : DF K E X e m) : DE K E X e (mNew m) := de_fr h
theorem xt_val (ha : DE K E X e ma) (he : ∀ whole, isTrue e X.env whole = (do let v ← whole; standAt e.pos; holding [v] (truthy v)) := by intro _; rfl) : DT K E X e (mVal ma) := dt_val ha he
theorem xt_tru (ha : DE K E X e ma) (he : ∀ whole, isTrue e X.env whole = (do let v ← whole; standAt e.pos; holding [v] (truthy v)) := by intro _; rfl) : DT K E X e (mTru ma) := dt_tru ha he
theorem xt_not (ha : DT K E X a mt) : DT K E X (.UnaryOp .Not a pos) (mNotT mt) := dt_not ha
theorem xe_not (ha : DE K E X a ma) : DE K E X (.UnaryOp .Not a pos) (mNotV ma) := de_not ha
theorem xe_neg (ha : DE K E X a ma) : DE K E X (.UnaryOp .USub a pos) (mNeg ma) := de_neg ha
theorem xe_isi {T : Str} {n : String} {p p2 : Pos} (hT : n ∈ ["int", "bool", "list", "tuple", "str"]) (hg : Gl X "isinstance") (hm : X.mg "isinstance" = none) (hgT : Gl X T) (hmT : X.mg T = none) (hvT : bootBuiltins T = some (.type n)) (ha : DE K E X e ma) (hn : T ≠ "__name__" := by decide) (hdb : (T == ("__debug__" : Str)) = false := by decide)
    (hs1 : starEach [e, .Name T p2] X.env = (false, eval e X.env) :: starEach [.Name T p2] X.env := by rfl) (hs2 : starEach [.Name T p2] X.env = (false, eval (.Name T p2) X.env) :: starEach [] X.env := by rfl) (hpl : (backTo pos (starEach [.Name T p2] X.env)).any (·.1) = false := by rfl) :
    DE K E X (.Call (.Name "isinstance" p) [e, .Name T p2] [] pos) (mIsi n ma) := de_isi hT hg hm hgT hmT hvT ha hn hdb hs1 hs2 hpl
theorem xi_seq {tg : Expr} (hl : DE K E X e ma) : DI K E X tg e (mSeq ma) := di_seq hl
theorem xi_range1 {tg : Expr} {p : Pos} (hg : Gl X "range") (hm : X.mg "range" = none) (ha : DA K E X [a] m) (hs : starEach [a] X.env = [(false, eval a X.env)] := by rfl) : DI K E X tg (.Call (.Name "range" p) [a] [] pos) (mRng1 m) := di_range1 hg hm ha hs
theorem xi_range2 {tg : Expr} {p : Pos} (hg : Gl X "range") (hm : X.mg "range" = none) (ha : DA K E X [a, b] m) (hs : starEach [a, b] X.env = [(false, eval a X.env), (false, eval b X.env)] := by rfl) (hs2 : starEach [b] X.env = [(false, eval b X.env)] := by rfl) :
    DI K E X tg (.Call (.Name "range" p) [a, b] [] pos) (mRng2 m) := di_range2 hg hm ha hs hs2
theorem xo_some (ha : DE K E X e ma) : DO K E X (some e) (mPart ma) := do_some ha
theorem xo_none : DO K E X none mNoPart := do_none
theorem xf_slice {lo hi : Option Expr} {ml mh : M (Option Int)} {p2 : Pos} (ha : DE K E X e ma) (hl : DO K E X lo ml) (hh : DO K E X hi mh) : DF K E X (.Subscript e (.Slice lo hi none p2) pos) (mSlice ma ml mh) := df_slice ha hl hh
theorem xe_sliceT {lo hi : Option Expr} {ml mh : M (Option Int)} {p2 : Pos} (ha : DE K E X e ma) (hl : DO K E X lo ml) (hh : DO K E X hi mh) : DE K E X (.Subscript e (.Slice lo hi none p2) pos) (mSliceT ma ml mh) := de_sliceT ha hl hh
theorem xe_ix (ha : DE K E X a ma) (hb : DE K E X b mb) (hs : PlainIx b) : DE K E X (.Subscript a b pos) (mOp2 ixM ma mb) := de_ix ixd ha hb hs
def mRep (ml : M (List PyData)) (mb : M PyData) : M (List PyData) := ml.bind fun xs => mb.bind fun d => M.lift (repM xs d)
theorem xf_rep {ml : M (List PyData)} (ha : DF K E X a ml) (hb : DE K E X b mb) : DF K E X (.BinOp a .Mult b pos) (mRep ml mb) := df_rep ha hb
theorem xc {x : Str} {p : Pos} {k : Nat} {ps : List Str} {g : List PyData → Option PyData} (G : Has X.prog X.w K X.mg X.base k x ps (spD K g)) (hr : Room k X.A) (hg : Gl X x)
    (ha : DA K E X (e :: es) m) (hdb : (x == ("__debug__" : Str)) = false := by decide) (he : starEach (e :: es) X.env = (false, eval e X.env) :: starEach es X.env := by rfl)
    (hpl : (backTo pos (starEach es X.env)).any (·.1) = false := by rfl) : DE K E X (.Call (.Name x p) (e :: es) [] pos) (mCall g m) := dc G hr hg ha hdb he hpl
theorem xcB {x : Str} {p : Pos} {id : String} {g : List PyData → Option PyData} (hc : CallD K X (.builtin id) g) (hg : Gl X x) (hm : X.mg x = none) (hv : bootBuiltins x = some (.builtin id)) (ha : DA K E X (e :: es) m) (hn : x ≠ "__name__" := by decide) (hdb : (x == ("__debug__" : Str)) = false := by decide)
    (he : starEach (e :: es) X.env = (false, eval e X.env) :: starEach es X.env := by rfl) (hpl : (backTo pos (starEach es X.env)).any (·.1) = false := by rfl) : DE K E X (.Call (.Name x p) (e :: es) [] pos) (mCall g m) := de_callB hc hg hm hv ha hn hdb he hpl
theorem xcT {x : Str} {p : Pos} {T : String} {g : List PyData → Option PyData} (hc : CallD K X (.type T) g) (hg : Gl X x) (hm : X.mg x = none) (hv : bootBuiltins x = some (.type T)) (ha : DA K E X (e :: es) m) (hn : x ≠ "__name__" := by decide) (hdb : (x == ("__debug__" : Str)) = false := by decide)
    (he : starEach (e :: es) X.env = (false, eval e X.env) :: starEach es X.env := by rfl) (hpl : (backTo pos (starEach es X.env)).any (·.1) = false := by rfl) : DE K E X (.Call (.Name x p) (e :: es) [] pos) (mCall g m) := de_callTy hc hg hm hv ha hn hdb he hpl
theorem xcBF {x : Str} {p : Pos} {id : String} {g : List PyData → Option (List PyData)} (hc : CallF K X (.builtin id) g) (hg : Gl X x) (hm : X.mg x = none) (hv : bootBuiltins x = some (.builtin id)) (ha : DA K E X (e :: es) m) (hn : x ≠ "__name__" := by decide) (hdb : (x == ("__debug__" : Str)) = false := by decide)
    (he : starEach (e :: es) X.env = (false, eval e X.env) :: starEach es X.env := by rfl) (hpl : (backTo pos (starEach es X.env)).any (·.1) = false := by rfl) : DF K E X (.Call (.Name x p) (e :: es) [] pos) (mCallF g m) := df_callB hc hg hm hv ha hn hdb he hpl
theorem xcTF {x : Str} {p : Pos} {T : String} {g : List PyData → Option (List PyData)} (hc : CallF K X (.type T) g) (hg : Gl X x) (hm : X.mg x = none) (hv : bootBuiltins x = some (.type T)) (ha : DA K E X (e :: es) m) (hn : x ≠ "__name__" := by decide) (hdb : (x == ("__debug__" : Str)) = false := by decide)
    (he : starEach (e :: es) X.env = (false, eval e X.env) :: starEach es X.env := by rfl) (hpl : (backTo pos (starEach es X.env)).any (·.1) = false := by rfl) : DF K E X (.Call (.Name x p) (e :: es) [] pos) (mCallF g m) := df_callTy hc hg hm hv ha hn hdb he hpl
theorem xs_asg {tg : Expr} {ts : List Nat} {g : PyData → En → Option En} (he : DE K E X e ma) (hg : DG K X tg ts g) (hs : swapsWithSole [tg] e pos.line X.env = pure false := by rfl) (hw : swappedStores [tg] e X.env = pure none := by rfl)
    (h1 : (assignEach [tg] X.env).map (·.2) = [assign tg X.env] := by rfl) : DS K E X (.Assign [tg] e pos) (sAsg ma g) := ds_asg he hg hs hw h1
theorem xs_break : DS K E X (.Break pos) sBrk := ds_break
theorem xs_cont : DS K E X (.Continue pos) sCont := ds_continue
theorem xs_no {st : Stmt} : DS K E X st sNo := ds_never
end
/-! ## calls by keywords alone -/
def HasK (P : Program) (w : World) (K : PySem.W.Frag) (mg : Str → Option Value) (base : Heap) (k : Nat) (x : Str) (ps ks : List Str) (gA : List Value → List Value → List Value) (gB : List V → List V → List V) (sp : Sp) : Prop :=
  ∃ (f : Addr) (fd : FuncData), FnOk P w K mg base CX0 k f fd ps sp ∧ KBinds K fd ps ks gA gB ∧ mg x = some (.ref f) ∧ PySem.W.keepIn K (.ref f) = true
/-- the same order of the places, of values and of data -/
structure Perm3 (gB : List V → List V → List V) (gD : List PyData → List PyData) : Prop where
  all : ∀ {K : PySem.W.Frag} {G : Hp} {zs : List V} {ds : List PyData}, DqAll K G zs ds → DqAll K G (gB [] zs) (gD ds)
structure DK (K : PySem.W.Frag) (E : XE) (X : Cx) (kws : List Keyword) (m : M (List PyData)) : Prop where
  pk : X.K = K → PK X kws (tM K E (rA K) m)
section
variable {K : PySem.W.Frag} {E : XE} {X : Cx} {e : Expr} {kws : List Keyword} {ma : M PyData} {m : M (List PyData)} {pos : Pos}
theorem PK.imp {t t' : TA} (h : PK X kws t) (i : ∀ σ H Q, t' σ H Q → t σ H Q) : PK X kws t' := ⟨fun pos pins s σ H Q I q => h.run pos pins s σ H Q I (i _ _ _ q)⟩
theorem xk_nil : DK K E X [] mNil := ⟨fun _ => PK.imp pk_nil fun σ H Q ⟨F, O, G, r, out, P, em, f⟩ => by
  cases em
  exact f.ok (Ps.refl P.sub) P .nil⟩
theorem xk_cons {nm : Option Str} {kp : Pos} (ha : DE K E X e ma) (hr : DK K E X kws m) : DK K E X (⟨nm, e, kp⟩ :: kws) (mCons ma m) := ⟨fun hK => PK.imp (pk_cons (ha.pe hK) (hr.pk hK)) fun σ H Q ⟨F, O, G, r, out, P, em, f⟩ => by
  refine tM.run P f em fun d r1 x G1 H1 P1 g1 q1 e1 f1 => ?_
  refine tM.run P1 f1 e1 fun ds r2 xs G2 H2 P2 g2 q2 e2 f2 => ?_
  cases e2
  exact f2.ok (Ps.refl P2.sub) P2 (.cons (q1.sm g2.gg) q2)⟩
def mCallK (gD : List PyData → List PyData) (g : List PyData → Option PyData) (m : M (List PyData)) : M PyData := m.bind fun ds => M.lift (g (gD ds))
theorem xck {x : Str} {p : Pos} {k : Nat} {ps ks : List Str} {gA : List Value → List Value → List Value} {gB : List V → List V → List V} {gD : List PyData → List PyData} {g : List PyData → Option PyData} (G : HasK X.prog X.w K X.mg X.base k x ps ks gA gB (spD K g)) (hP : Perm3 gB gD) (hr : Room k X.A) (hg : Gl X x)
    (hkw : DK K E X kws m) (hall : (backToKw pos (keywordEach kws X.env)).all (·.1.isSome) = true := by rfl) (hks : (backToKw pos (keywordEach kws X.env)).filterMap (·.1) = ks := by rfl)
    (hdb : (x == ("__debug__" : Str)) = false := by decide)
    (hpl : ((backTo pos (starEach [] X.env)).any (·.1) || (backToKw pos (keywordEach kws X.env)).any (·.1.isNone)) = false := by rfl) : DE K E X (.Call (.Name x p) [] kws pos) (mCallK gD g m) := ⟨fun hK => by
  subst hK
  obtain ⟨f, fd, Fk, b, gm, kp⟩ := G
  refine PE.imp (pe_callK0 (E := E0) Fk hr hg gm kp b pass0 (hkw.pk rfl) hall hks hdb hpl) fun σ H Q ⟨F, O, G, r, out, P, em, f⟩ => ?_
  refine tM.run P f em fun ds r1 zs G1 H1 P1 g1 q1 e1 f1 => ?_
  obtain ⟨z, hz, rfl⟩ := lift_ok e1
  exact ⟨G1, _, z, P1.sub, hP.all q1, hz, fun v G' H' p q => f1.ok p P1 q⟩⟩
end
/-! ## a def without any promise, for recursion -/
theorem has_none {P : Program} {w : World} {K : PySem.W.Frag} {mg : Str → Option Value} {base : Heap} {k : Nat} {x qual : Str} {st : Stmt} {f : Addr} {fd : FuncData} {ps : List Str} (F : Fun K x qual st f fd) (hb : Binds K fd ps []) (hm : mg x = some (.ref f)) : Has P w K mg base k x ps (spD K fun _ => none) :=
  ⟨f, fd, ⟨fun vs H Q E ⟨G, ds, z, _, _, hz, _⟩ => (by cases hz), fun A outer s H args us vs Q E _ _ _ _ ⟨G, ds, z, _, _, hz, _⟩ => (by cases hz)⟩, hb, hm, F.kp⟩
/-! ## the end of a law -/
def spLaw (K : PySem.W.Frag) (g : List PyData → Option PyData) : Sp := fun vs H Q _ => ∃ (a : Addr) (ns : List Int), vs = [.ref a] ∧ SqL K H a (ns.map V.int) ∧ g [.list (ns.map PyData.int)] = some (.bool true) ∧ ∀ H', Q (.bl true) H'
theorem law_fn {P : Program} {w : World} {K : PySem.W.Frag} {mg : Str → Option Value} {base : Heap} {k : Nat} {f : Addr} {fd : FuncData} {ps : List Str} {g : List PyData → Option PyData} (F : FnOk P w K mg base CX0 k f fd ps (spD K g)) : FnOk P w K mg base CX0 k f fd ps (spLaw K g) :=
  F.imp fun vs H Q E ⟨a, ns, e, hs, hg, q⟩ => ⟨H, _, _, Same.refl H, by rw [e]; exact .cons (.lst hs (DqAll.ints ns)) .nil, hg, fun v G' H' _ hv => by
    rw [dp_bool hv]
    exact q H'⟩
end DL
namespace DL
open PySem PySem.Spec PyProof.Rows L2 Lk
def CTup (K : PySem.W.Frag) (mg : Str → Option Value) (x : Str) (c : PyData) : Prop := ∃ a : Addr, mg x = some (.ref a) ∧ ∀ H, Dq K H (.ref a) c
theorem CTup.de {K : PySem.W.Frag} {E : XE} {X : Cx} {x : Str} {c : PyData} {pos : Pos} (h : CTup K X.mg x c) (hg : Gl X x) (hdb : (x == ("__debug__" : Str)) = false := by decide) : DE K E X (.Name x pos) (M.ret c) := by
  obtain ⟨a, h1, h2⟩ := h
  exact de_g hg h1 (v := .ref a) rfl h2 hdb
/-- how deep a def may call itself; how often a while may turn -/
def FU : Nat := 60
def WH : Nat := 1000000
section
variable {P : Program} {w : World} {K : PySem.W.Frag} {mg : Str → Option Value} {base : Heap}
theorem fn_d {x qual : Str} {st : Stmt} {f : Addr} {fd : FuncData} {N ps : List Str} {k n : Nat} {sv : SM} (F : Fun K x qual st f fd) (S : FnScope N ps (defScope st))
    (h : ∀ (cdv : Value) (A : Around) (outer : List Env) (s : Shared) (H : Hp) (E : XK), Room k (A.deeper (envOfC qual (defScope st) s.heap.objs.size f cdv)) → DSs K XN (cxOf CX0 P w K mg base N qual (defScope st) f cdv A outer s H E).nox (defBody st) sv)
    (hn : ps.length = n := by rfl) : FnOk P w K mg base CX0 (k + 1) f fd ps (spD K (runD N n sv)) := by
  refine def_D F S h fun ds z e => ?_
  unfold runD at e
  split at e
  · rename_i hl
    refine ⟨hl.trans hn.symm, ?_⟩
    cases q : sv (ini N ds) with
    | none => rw [q] at e; cases e
    | some fl =>
      rw [q] at e
      cases fl with
      | rt d r => cases e; exact ⟨r, .inl rfl⟩
      | nx r => cases e; exact ⟨r, .inr ⟨rfl, rfl⟩⟩
      | _ => cases e
  · cases e
end
end DL
namespace Lk
open PySem PySem.Spec PyProof.Rows L2
theorem walk_ofGB {l : PySem.W.OpenLaw} {n k : Nat} {q : Program} {loose : List Str} {XP : (Str → Option Value) → Heap → Prop} {YP : World → Heap → Prop} {d : DefRec}
    {K : Params → PySem.W.Frag} {sp : World → Sp} {x : Str} (hn : l.most = some n) (hn2 : n ≤ sizeLine) (hdf : d.params.defaults = []) (hr : Room k callerA)
    (hY : ∀ (w : World) (h : Heap), YP w h → (K w.params).In h)
    (F : ∀ (w : World) (mg : Str → Option Value) (fa : Addr) (h : Heap), (K w.params).In h → h.Ns mainGlobals mg → mg d.name = some (.ref fa) →
      ∃ fd : FuncData, (∀ (s : Shared) (u : Value), BindsTo s fd ⟨[u], []⟩ [(x, u)]) ∧
        ∀ base : Heap, (K w.params).In base → base.Ns mainGlobals mg → FnG l.prog w (K w.params) mg base CX0 k fa fd [x] (sp w))
    (hsp : ∀ (w : World) (H : Hp) (a : Addr) (ns : List Int), ns.length ≤ n → (∀ z ∈ ns, Builtin.Int.intBits z ≤ 1048576) → Only H → SqL (K w.params) H a (ns.map V.int) → sp w [.ref a] H (fun v _ => v = .bl true) fun _ _ _ => False) :
    PySem.W.WalkO q loose XP YP l.row.toRowW d [] (fun f vs => PySem.call f vs) := by
  refine Att.attach_callB hn hdf ?_
  intro w s₀ s₁ mg mb fa o pm cd doc a vs ns G Y _ _ _ hmg hobj hints hlen hbits hg
  have KX := hY w _ Y
  obtain ⟨fd, hb, hF⟩ := F w mg fa _ KX G.T.g hmg
  exact law_callG KX G.T.g G.T.b G.T.builtins G.T.nolimit hg hobj hints (Nat.le_trans hlen hn2) hr hF hb fun H hO hS => hsp w H a ns hlen hbits hO hS
end Lk
/-! D12: reversed(range(n)), list.index -/
namespace DL
open PySem PySem.Spec PyProof.Rows L2 Lk
section
variable {K : PySem.W.Frag} {E : XE} {X : Cx} {tg a : Expr} {ma : M PyData} {pos : Pos}
def mRevR (m : M PyData) : M (List PyData) := m.bind fun d => M.lift ((asInt d).bind fun n => if n.natAbs ≤ 1000000 then some (rngL 0 n.toNat).reverse else none)
theorem gives_rev {G : Hp} {n : Nat} : Gives K (Itc ((n : Int) - 1) (-1) n) (rngL 0 n).reverse G := fun i H' G1 s1 s2 => by
  have len : (rngL 0 n).length = n := by rw [rngL, List.length_map, List.length_range]
  refine ⟨fun d hd => ?_, fun hl => ?_⟩
  · have h0 := (List.getElem?_eq_some_iff.mp hd).1
    rw [List.length_reverse, len] at h0
    rw [List.getElem?_reverse (by rw [len]; exact h0), len] at hd
    obtain ⟨h1, rfl⟩ := rngL_at hd
    refine ⟨h0, fun x H'' y => ?_⟩
    obtain ⟨rfl, rfl⟩ := y
    have e : (n : Int) - 1 + (i : Nat) * (-1) = 0 + ((n - 1 - i : Nat) : Int) := by omega
    rw [e]
    exact ⟨G1, Ps.refl s2, .int _⟩
  · rw [List.length_reverse, len] at hl
    exact hl
theorem xi_rev1 {p p2 pos2 : Pos} (hg : Gl X "reversed") (hm : X.mg "reversed" = none) (hg2 : Gl X "range") (hm2 : X.mg "range" = none) (ha : DE K E X a ma) (na : starEach [a] X.env = (false, eval a X.env) :: starEach [] X.env := by rfl)
    (na2 : starEach [.Call (.Name "range" p2) [a] [] pos2] X.env = (false, eval (.Call (.Name "range" p2) [a] [] pos2) X.env) :: starEach [] X.env := by rfl) : DI K E X tg (.Call (.Name "reversed" p) [.Call (.Name "range" p2) [a] [] pos2] [] pos) (mRevR ma) := ⟨fun hK => by
  refine PI.imp (pi_revR hg hm (prg_1 hg2 hm2 (ha.pe hK) na) na2) fun σ H Q ⟨F, O, G, r, out, P, em, f⟩ => ?_
  refine tM.run P f em fun d r1 x G1 H1 P1 g1 q1 e1 f1 => ?_
  obtain ⟨z, hz, rfl⟩ := lift_ok e1
  obtain ⟨n, hn, hz2⟩ := Option.bind_eq_some_iff.mp hz
  cases asInt_some hn
  cases q1
  split at hz2
  · rename_i hl
    cases hz2
    refine ⟨n, rfl, by omega, by omega, by omega, by omega, f1.ok (Ps.refl P1.sub) P1 ?_⟩
    have e1 : (n - 0).toNat = n.toNat := by omega
    have e2 : (0 : Int) + (((n - 0).toNat : Nat) : Int) - 1 = ((n.toNat : Nat) : Int) - 1 := by omega
    rw [e2, e1]
    exact gives_rev
  · cases hz2⟩
def indexM : PyData → List PyData → Option PyData
  | .list ds, [d] => if SeqAt.shaped d && SeqAt.shaped (.list ds) then (ds.findIdx? fun z => PyData.eqv z d).map fun j => .int (j : Nat) else none
  | _, _ => none
theorem mtd_index {k : Nat} (hr : Room k X.A) : MtD K X "list.index" indexM := fun hK => by
  subst hK
  intro pins s σ H x xs v us Q I rx rxs h
  obtain ⟨G, d, ds, z, sg, hd, hds, hz, q⟩ := h
  have hu : X.A.units + 65 < cLine := by have := hr.un; omega
  unfold indexM at hz
  split at hz
  · rename_i l e
    split at hz
    · rename_i hs
      rw [Bool.and_eq_true] at hs
      obtain ⟨j, hj, rfl⟩ := Option.map_eq_some_iff.mp hz
      obtain ⟨hlt, hp, hno⟩ := List.findIdx?_eq_some_iff_getElem.mp hj
      obtain ⟨w, rfl, hw⟩ := one_of hds
      have hx : ∃ a, x = .ref a := by cases hd; exact ⟨_, rfl⟩
      obtain ⟨a, rfl⟩ := hx
      refine mt_indexD hu pins s σ H _ _ v us Q I rx rxs ⟨a, w, e, l, j, l[j], rfl, rfl, (hd.sm sg).dp, (hw.sm sg).dp, hs.2, hs.1, List.getElem?_eq_getElem hlt, hp, ?_, q _ G H (Ps.refl sg) (.int _)⟩
      intro m z' hm hz'
      obtain ⟨h1, rfl⟩ := List.getElem?_eq_some_iff.mp hz'
      have := hno m hm
      simpa using this
    · cases hz
  · cases hz
end
end DL
/-! D13: own != [], own.insert(a, b) -/
namespace DL
open PySem PySem.Spec PyProof.Rows L2 Lk
section
variable {K : PySem.W.Frag} {E : XE} {X : Cx} {a b e : Expr} {ma mb : M PyData} {pos : Pos}
def mNeO (i : Nat) : M Bool := fun r => match ownOf r[i]? with
  | some ds => if SeqAt.shaped (.list ds) then some (.ok (!ds.isEmpty) r) else none
  | none => none
theorem dt_neNil {k : Nat} (hr : Room k X.A) (i : Nat) {y : Str} {p2 p3 : Pos} (hN : X.N[i]? = some y := by rfl) (hv : Vis X.env.scope y := by first | exact Or.inl rfl | exact Or.inr (Or.inl rfl) | exact Or.inr (Or.inr rfl)) (hd : (y == ("__debug__" : Str)) = false := by decide) (hcd : (y == ("__classdict__" : Str)) = false := by decide)
    (hm : behindInMarks .NotEq (.List [] p3) = false := by first | rfl | exact nomark _) : DT K E X (.Compare (.Name y p2) [.NotEq] [.List [] p3] pos) (mNeO i) := ⟨fun hK => by
  subst hK
  refine PT.imp (pt_cmpR (op_neD hr.units) (pe_var hN hv hd hcd) (pe_lstN pa_nil) hm) fun σ H Q ⟨F, O, G, r, out, P, em, ff⟩ => ?_
  unfold mNeO at em
  split at em
  · rename_i ds e0
    split at em
    · rename_i hs
      cases em
      obtain ⟨q, xs, h1, h2, h3, h4⟩ := P.own_dp e0
      refine ⟨_, h1, by decide, fun p H2 s n e2 => ?_⟩
      have ev : PyData.eqv (.list ds) (.list []) = ds.isEmpty := by cases ds <;> simp [PyData.eqv, PyData.eqvAll]
      refine ⟨.list ds, .list [], .lst (.inl (.inl (s _ _ h2))) ((h3.sm P.sub).sm s).dp, .lst (.inl (.inl e2)) (.nil), hs, by decide +kernel, ?_⟩
      rw [ev]
      exact ⟨_, rfl, ff.ok (Ps.of_same P.sub s) P rfl⟩
    · cases em
  · cases em⟩
def sIns (i : Nat) (ma mb : M PyData) : SM := fun r0 => if (ownOf r0[i]?).isSome then sBind ma (fun j => sBind mb fun d r => match ownOf r[i]?, asInt j with
  | some ds, some j => if 0 ≤ j ∧ j ≤ 1000000 ∧ ds.length ≤ 1000000 then some (.nx (upO i (ds.take j.toNat ++ [d] ++ ds.drop j.toNat) r)) else none
  | _, _ => none) r0 else none
theorem ds_ins (i : Nat) {st : Stmt} {ta tb : TE} (ha : X.K = K → ∀ σ H Q, tM K E (rD K) ma σ H Q → ta σ H Q) (hb : X.K = K → ∀ σ H Q, tM K E (rD K) mb σ H Q → tb σ H Q)
    (hp : PS X st (tDrop (tBM X.K "list" (fun x vs H Q => ∃ (l : Addr) (xs : List V) (i : Int) (y : V), x = .ref l ∧ vs = [.int i, y] ∧ H l = some (.lst xs) ∧ xs.length < sizeLine ∧ 0 ≤ i ∧ i < 2 ^ 63 ∧
    Q .non (upd H l (.lst (xs.take i.toNat ++ [y] ++ xs.drop i.toNat)))) (tVar i) (tCons ta (tCons tb tNil))))) : DS K E X st (sIns i ma mb) := ⟨fun hK => by
  subst hK
  refine PS.imp hp fun D σ H ⟨F, O, G, r, fl, P, em, ff⟩ => ?_
  unfold sIns at em
  split at em
  · rename_i hs
    obtain ⟨bs0, e0⟩ := isSome_ex hs
    obtain ⟨q, xs0, hq, hσ, hx0, _⟩ := P.own_at e0
    refine ⟨_, hσ, .inl ⟨rfl, _, .inl (.inl hx0)⟩, ha rfl _ _ _ (tS.run P ff em fun j r0 x0 G0 H0 P0 g0 q0 em0 f0 => hb rfl _ _ _ (tS.run P0 f0 em0 fun d r1 x G1 H1 P1 g1 q1 e1 f1 => ?_))⟩
    split at e1
    · rename_i ds jj e2 hj
      cases asInt_some hj
      cases q0
      split at e1
      · rename_i hl
        cases e1
        obtain ⟨q', xs1, hq', hσ', hx, hb⟩ := P1.own_at e2
        rw [hq] at hq'
        cases hq'
        refine ⟨q, xs1, jj, x, rfl, rfl, hx, line_lt (by rw [hb.length]; exact hl.2.2), hl.1, by omega, ?_⟩
        have gp := (P1.on i q hq).2.1
        obtain ⟨P2, g2⟩ := P1.chg e2 hq (Same.refl G1) (fun c o e => by rw [upd_ne (ne_of_none e gp)]; exact P1.sub _ _ e) gp (fun c o n e => by rw [upd_ne n]; exact e) (fun c e => .inl e) (upd_same (o := .lst (xs1.take jj.toNat ++ [x] ++ xs1.drop jj.toNat))) (((hb.take _).append (.cons q1 .nil)).append (hb.drop _))
        exact f1 O G1 σ _ P2 (Same.refl _)
      · cases e1
    · cases e1
  · cases em⟩
end
end DL
/-! D14: range with a step, xs[::-1], the bits of whole numbers -/
namespace DL
open PySem PySem.Spec PyProof.Rows L2 Lk
section
variable {K : PySem.W.Frag} {E : XE} {X : Cx} {tg a b c e : Expr} {ma mb : M PyData} {m : M (List PyData)} {pos : Pos}
def rngC (i c : Int) (n : Nat) : List PyData := (List.range n).map fun k => .int (i + (k : Nat) * c)
def rng3M : List PyData → Option (List PyData)
  | [.int i, .int j, .int c] => if c ≠ 0 ∧ c.natAbs < 1000000 ∧ Builtin.Range.small i j c = true ∧ 0 ≤ Builtin.Range.rangeSize i j c then some (rngC i c (Builtin.Range.rangeSize i j c).toNat) else none
  | _ => none
def mRng3 (m : M (List PyData)) : M (List PyData) := m.bind fun ds => M.lift (rng3M ds)
theorem gives_rng3 {G : Hp} {i c : Int} {n : Nat} : Gives K (Itc i c n) (rngC i c n) G := fun k H' G1 s1 s2 => by
  refine ⟨fun d hd => ?_, fun hl => ?_⟩
  · unfold rngC at hd
    rw [List.getElem?_map] at hd
    obtain ⟨q, h1, rfl⟩ := Option.map_eq_some_iff.mp hd
    obtain ⟨h2, h3⟩ := List.getElem?_eq_some_iff.mp h1
    rw [List.length_range] at h2
    rw [List.getElem_range] at h3
    subst h3
    refine ⟨h2, fun x H'' y => ?_⟩
    obtain ⟨rfl, rfl⟩ := y
    exact ⟨G1, Ps.refl s2, .int _⟩
  · rw [rngC, List.length_map, List.length_range] at hl
    exact hl
theorem xi_range3 {p : Pos} (hg : Gl X "range") (hm : X.mg "range" = none) (ha : DA K E X [a, b, c] m) (hs : starEach [a, b, c] X.env = (false, eval a X.env) :: starEach [b, c] X.env := by rfl) (hpl : (backTo pos (starEach [b, c] X.env)).any (·.1) = false := by rfl) :
    DI K E X tg (.Call (.Name "range" p) [a, b, c] [] pos) (mRng3 m) := ⟨fun hK => PI.imp (pi_range3 hg hm (ha.pa hK) hs hpl) fun σ H Q ⟨F, O, G, r, out, P, em, f⟩ => by
  refine tM.run P f em fun ds r1 xs G1 H1 P1 g1 q1 e1 f1 => ?_
  obtain ⟨z, hz, rfl⟩ := lift_ok e1
  unfold rng3M at hz
  split at hz
  · rename_i i j k
    split at hz
    · rename_i hl
      cases hz
      cases q1 with
      | cons h1 t1 =>
        cases t1 with
        | cons h2 t2 =>
          cases t2 with
          | cons h3 t3 =>
            cases t3
            cases h1
            cases h2
            cases h3
            exact ⟨i, j, k, (Builtin.Range.rangeSize i j k).toNat, rfl, ⟨hl.1, by omega, hl.2.2.1, by have := hl.2.2.2; omega⟩, f1.ok (Ps.refl P1.sub) P1 gives_rng3⟩
    · cases hz
  · cases hz⟩
def mRevL (m : M PyData) : M (List PyData) := m.bind fun d => M.lift ((asList d).map List.reverse)
theorem df_revL {k : Nat} {p1 p2 p3 : Pos} (ha : DE K E X e ma) : DF K E X (.Subscript e (.Slice none none (some (.UnaryOp .USub (.Constant (.int 1) k p1) p2)) p3) pos) (mRevL ma) := ⟨fun hK => by
  subst hK
  refine PE.imp (pe_revL (ha.pe rfl)) fun σ H Q ⟨F, O, G, r, out, P, em, f⟩ => ?_
  refine tM.run P f em fun d r1 x G1 H1 P1 g1 q1 e1 f1 => ?_
  obtain ⟨z, hz, rfl⟩ := lift_ok e1
  obtain ⟨ds, hd, rfl⟩ := Option.map_eq_some_iff.mp hz
  cases asList_some hd
  cases q1 with
  | lst hs hq =>
    exact ⟨_, _, rfl, P1.sub.seq hs, fun q nq => f1.ok (Ps.of_same P1.sub (same_new nq)) P1 ⟨q, _, rfl, nq, P1.sub.free nq, P1.nf _ nq, fun i z => (P1.on i q z).2.2.1 nq, upd_same, hq.reverse⟩⟩⟩
def andM : PyData → PyData → Option PyData
  | .int a, .int b => some (.int (Builtin.bitAnd a b))
  | _, _ => none
def orM : PyData → PyData → Option PyData
  | .int a, .int b => some (.int (Builtin.bitOr a b))
  | _, _ => none
def xorM : PyData → PyData → Option PyData
  | .int a, .int b => some (.int (Builtin.bitXor a b))
  | _, _ => none
theorem opd_and : OpD K X (binaryOp .BitAnd) andM := fun hK => by
  intro pins s σ H x y v u Q I rx ry h
  obtain ⟨G, d, e, z, sg, hd, he, hz, q⟩ := h
  unfold andM at hz
  split at hz
  · cases hz; cases hd; cases he
    exact op_and pins s σ H _ _ v u Q I rx ry ⟨_, _, rfl, rfl, q _ G H (Ps.refl sg) (.int _)⟩
  · cases hz
theorem opd_or : OpD K X (binaryOp .BitOr) orM := fun hK => by
  intro pins s σ H x y v u Q I rx ry h
  obtain ⟨G, d, e, z, sg, hd, he, hz, q⟩ := h
  unfold orM at hz
  split at hz
  · cases hz; cases hd; cases he
    exact op_or pins s σ H _ _ v u Q I rx ry ⟨_, _, rfl, rfl, q _ G H (Ps.refl sg) (.int _)⟩
  · cases hz
theorem opd_xor : OpD K X (binaryOp .BitXor) xorM := fun hK => by
  intro pins s σ H x y v u Q I rx ry h
  obtain ⟨G, d, e, z, sg, hd, he, hz, q⟩ := h
  unfold xorM at hz
  split at hz
  · cases hz; cases hd; cases he
    exact op_xor pins s σ H _ _ v u Q I rx ry ⟨_, _, rfl, rfl, q _ G H (Ps.refl sg) (.int _)⟩
  · cases hz
def shlM : PyData → PyData → Option PyData
  | .int a, .int b => if 0 ≤ b ∧ (Builtin.Int.intBits a : Int) + b ≤ 2 ^ 27 then some (.int (a * 2 ^ b.toNat)) else none
  | _, _ => none
theorem opd_shl : OpD K X (binaryOp .LShift) shlM := fun hK => by
  intro pins s σ H x y v u Q I rx ry h
  obtain ⟨G, d, e, z, sg, hd, he, hz, q⟩ := h
  unfold shlM at hz
  split at hz
  · split at hz
    · rename_i hl
      cases hz; cases hd; cases he
      exact op_shlW pins s σ H _ _ v u Q I rx ry ⟨_, _, rfl, rfl, hl, q _ G H (Ps.refl sg) (.int _)⟩
    · cases hz
  · cases hz
/-- n.bit_length() -/
def mBits (m : M PyData) : M PyData := m.bind fun d => M.lift ((asInt d).map fun i => .int (Builtin.Int.intBits i : Nat))
theorem de_bits {apos : Pos} (ha : DE K E X e ma) (h1 : attributeBase e "bit_length" X.env (eval e X.env) = eval e X.env := by rfl) (h2 : (apos.endLine == pos.line) = true := by rfl) : DE K E X (.Call (.Attribute e "bit_length" apos) [] [] pos) (mBits ma) := ⟨fun hK => by
  subst hK
  refine PE.imp (pe_bits (ha.pe rfl) (hbase := h1) (hline := h2)) fun σ H Q ⟨F, O, G, r, out, P, em, f⟩ => ?_
  refine tM.run P f em fun d r1 x G1 H1 P1 g1 q1 e1 f1 => ?_
  obtain ⟨z, hz, rfl⟩ := lift_ok e1
  obtain ⟨i, hi, rfl⟩ := Option.map_eq_some_iff.mp hz
  cases asInt_some hi
  cases q1
  exact ⟨_, rfl, f1.ok (Ps.refl P1.sub) P1 (.int _)⟩⟩
end
end DL
/-! D15: calls that give plain data or a new list -/
namespace DL
open PySem PySem.Spec PyProof.Rows L2 Lk
abbrev PQ := PyData ⊕ List PyData
def rQ (K : PySem.W.Frag) : RR V PQ := fun S O F G H v z => match z with
  | .inl d => rD K S O F G H v d
  | .inr ds => rF K S O F G H v ds
instance {K : PySem.W.Frag} : Anti (rQ K) := ⟨fun {S S' O F G H b a} k h => by
  cases a with
  | inl d => exact h
  | inr ds => exact Anti.anti (R := rF K) (O := O) (F := F) (H := H) k h⟩
def rPQ (K : PySem.W.Frag) (g : List PyData → Option PQ) : List V → Hp → VK → Prop := fun vs H Q => ∃ G ds z, Same G H ∧ DqAll K G vs ds ∧ g ds = some z ∧ (∀ d, z = .inl d → ∀ v G' H', Ps G H G' H' → Dq K G' v d → Q v H') ∧
  ∀ zs, z = .inr zs → ∀ p xs G' H', Ps G H G' H' → G' p = none → H p = none → H' p = some (.lst xs) → DqAll K G' xs zs → Q (.ref p) H'
def spQ (K : PySem.W.Frag) (g : List PyData → Option PQ) : Sp := fun vs H Q _ => rPQ K g vs H Q
structure DQ (K : PySem.W.Frag) (E : XE) (X : Cx) (e : Expr) (m : M PQ) : Prop where
  pe : X.K = K → PE X e (tM K E (rQ K) m)
section
variable {K : PySem.W.Frag} {E : XE} {X : Cx} {a b e : Expr} {es : List Expr} {m : M (List PyData)} {mq : M PQ} {pos : Pos}
def mCallQ (g : List PyData → Option PQ) (m : M (List PyData)) : M PQ := m.bind fun ds => M.lift (g ds)
theorem dcQ {x : Str} {p : Pos} {k : Nat} {ps : List Str} {g : List PyData → Option PQ} (G : Has X.prog X.w K X.mg X.base k x ps (spQ K g)) (hr : Room k X.A) (hg : Gl X x)
    (ha : DA K E X (e :: es) m) (hdb : (x == ("__debug__" : Str)) = false := by decide) (he : starEach (e :: es) X.env = (false, eval e X.env) :: starEach es X.env := by rfl)
    (hpl : (backTo pos (starEach es X.env)).any (·.1) = false := by rfl) : DQ K E X (.Call (.Name x p) (e :: es) [] pos) (mCallQ g m) := by
  obtain ⟨f, fd, Fk, hb, hm, hk⟩ := G
  refine ⟨fun hK => ?_⟩
  subst hK
  refine PE.imp (pe_call (E := E0) Fk hr hg hm hk hb .nil pass0 (ha.pa rfl) hdb he hpl) fun σ H Q ⟨F, O, G, r, out, P, em, f⟩ => ?_
  refine tM.run P f em fun ds r1 xs G1 H1 P1 g1 q1 e1 f1 => ?_
  obtain ⟨z, hz, rfl⟩ := lift_ok e1
  rw [List.append_nil]
  refine ⟨G1, ds, z, P1.sub, q1, hz, fun d ez v G' H' p q => ?_, fun zs ez p ys G' H' ps gp hp e2 q => ?_⟩
  · subst ez
    exact f1.ok p P1 q
  · subst ez
    exact f1.ok ps P1 ⟨p, ys, rfl, hp, gp, P1.nf _ hp, fun i z => (P1.on i p z).2.2.1 hp, e2, q⟩
/-- x = f(..) -/
def sSetQ (i : Nat) (m : M PQ) : SM := sBind m fun z => match z with
  | .inl d => sPut i d
  | .inr ds => sPutO i ds
theorem ds_setQ_t {st : Stmt} {te : TE} {i : Nat} (h : PS X st (tAsg te (gName i))) (ht : ∀ σ H Q, tM K E (rQ K) mq σ H Q → te σ H Q) : PS X st (tS K E (sSetQ i mq)) := PS.imp h fun D σ H ⟨F, O, G, r, fl, P, em, f⟩ => by
  refine ht _ _ _ (tS.run P f em fun z r1 x G1 H1 P1 g1 q1 e1 f1 => ?_)
  cases z with
  | inl d =>
    dsimp only at e1
    unfold sPut at e1
    split at e1
    · cases e1
    · rename_i cel hne hc
      cases e1
      exact f1 _ G1 _ H1 (P1.put0 (fun ds z => hne ds (Option.some.inj (hc.symm.trans z))) q1) (Same.refl _)
    · cases e1
  | inr ds =>
    dsimp only at e1
    obtain ⟨p, xs, rfl, _, hg, h0, ho, hp, ha⟩ := q1
    unfold sPutO at e1
    split at e1
    · cases e1
    · rename_i cel hne hc
      cases e1
      exact f1 _ G1 _ H1 (P1.own0 (List.getElem?_eq_some_iff.mp hc).1 (fun ds z => hne ds (Option.some.inj (hc.symm.trans z))) hg h0 ho hp ha) (Same.refl _)
    · cases e1
theorem ds_setQ {i : Nat} {x : Str} {pos' : Pos} (hN : X.N.Nodup) (hi : X.N[i]? = some x) (hx : Loc X.env.scope x) (he : DQ K E X e mq) (hs : swapsWith e (some (.Name x pos')) pos.line X.env = pure false := by rfl) (hf : X.fn x = true ∨ X.env.scope.names.lookup x = some .local := by first | exact .inl rfl | exact .inr rfl | assumption) :
    DS K E X (.Assign [.Name x pos'] e pos) (sSetQ i mq) := ⟨fun hK => ds_setQ_t (ps_set hN hi hx (he.pe hK) hs hf) fun _ _ _ h => h⟩
/-- return f(..) -/
def sRetQ (m : M PQ) : SM := sBind m fun z r => match z with
  | .inl d => some (.rt d r)
  | .inr ds => some (.rf ds r)
theorem ds_retQ (he : DQ K E X e mq) : DS K E X (.Return (some e) pos) (sRetQ mq) := ⟨fun hK => PS.imp (ps_ret (he.pe hK)) fun D σ H ⟨F, O, G, r, fl, P, em, f⟩ => by
  refine tS.run P f em fun z r1 x G1 H1 P1 g1 q1 e1 f1 => ?_
  cases z with
  | inl d =>
    cases e1
    exact f1 O G1 σ H1 x P1 (Same.refl _) q1
  | inr ds =>
    cases e1
    obtain ⟨p, xs, rfl, hs, hg, h0, ho, hp, ha⟩ := q1
    exact f1 O G1 σ H1 p xs P1 (Same.refl _) hg h0 hp ha⟩
/-- return the list that a slot owns -/
def sRetO (i : Nat) : SM := fun r => match r[i]? with
  | some (.ow ds) => some (.rf ds r)
  | _ => none
theorem ds_retO (i : Nat) {y : Str} {p2 : Pos} (hN : X.N[i]? = some y := by rfl) (hv : Vis X.env.scope y := by first | exact Or.inl rfl | exact Or.inr (Or.inl rfl) | exact Or.inr (Or.inr rfl)) (hd : (y == ("__debug__" : Str)) = false := by decide) (hcd : (y == ("__classdict__" : Str)) = false := by decide) :
    DS K E X (.Return (some (.Name y p2)) pos) (sRetO i) := ⟨fun hK => by
  subst hK
  refine PS.imp (ps_ret (pe_var hN hv hd hcd)) fun D σ H ⟨F, O, G, r, fl, P, em, f⟩ => ?_
  unfold sRetO at em
  split at em
  · rename_i ds e0
    cases em
    obtain ⟨q, xs, h1, h2, h0, h3, h4⟩ := P.ow i ds e0
    exact ⟨_, h2, f O G σ H q xs P (Same.refl _) (P.on i q h1).2.1 h0 h3 h4⟩
  · cases em⟩
end
def outQ : Option Fl → Option PQ
  | some (.rt z _) => some (.inl z)
  | some (.nx _) => some (.inl .none)
  | some (.rf ds _) => some (.inr ds)
  | _ => none
def runQ (N : List Str) (n : Nat) (sv : SM) (ds : List PyData) : Option PQ := if ds.length = n then outQ (sv (ini N ds)) else none
section
variable {P : Program} {w : World} {K : PySem.W.Frag} {mg : Str → Option Value} {base : Heap}
theorem def_q {x qual : Str} {st : Stmt} {f : Addr} {fd : FuncData} {N ps : List Str} {k n : Nat} {sv : SM} (F : Fun K x qual st f fd) (S : FnScope N ps (defScope st)) (hb : Binds K fd ps []) (hm : mg x = some (.ref f))
    (h : ∀ (cdv : Value) (A : Around) (outer : List Env) (s : Shared) (H : Hp) (E : XK), Room k (A.deeper (envOfC qual (defScope st) s.heap.objs.size f cdv)) → DSs K XN (cxOf CX0 P w K mg base N qual (defScope st) f cdv A outer s H E).nox (defBody st) sv)
    (hn : ps.length = n := by rfl) : Has P w K mg base (k + 1) x ps (spQ K (runQ N n sv)) := by
  have len : ∀ ds z, runQ N n sv ds = some z → ds.length = ps.length := fun ds z e => by
    unfold runQ at e
    split at e
    · rename_i hl
      exact hl.trans hn.symm
    · cases e
  refine ⟨f, fd, ?_, hb, hm, F.kp⟩
  refine F.ok S (fun vs H Q E ⟨G, ds, z, sg, hd, hz, q⟩ => by rw [hd.length]; exact len ds z hz) fun cdv A outer s H vs Q E hr ⟨G, ds, z, sg, hd, hz, q1, q2⟩ => ?_
  refine ⟨_, (h cdv A outer s H E hr).ps rfl, ?_⟩
  unfold runQ at hz
  split at hz
  · cases e : sv (ini N ds) with
    | none => rw [e] at hz; cases hz
    | some fl =>
      rw [e] at hz
      cases fl with
      | rt d r =>
        cases hz
        exact ⟨_, _, G, _, _, start_rp sg hd, e, fun O' G' σ' H' v R g hv => q1 d rfl v G' H' ⟨R.g0, R.sub, fun c o e => R.old c o e fun i z => (nomatch z), R.gn⟩ hv⟩
      | nx r =>
        cases hz
        exact ⟨_, _, G, _, _, start_rp sg hd, e, fun O' G' σ' H' R g => q1 _ rfl .non G' H' ⟨R.g0, R.sub, fun c o e => R.old c o e fun i z => (nomatch z), R.gn⟩ .non⟩
      | rf zs r =>
        cases hz
        exact ⟨_, _, G, _, _, start_rp sg hd, e, fun O' G' σ' H' p xs R g gp h0 hp ha => q2 zs rfl p xs G' H' ⟨R.g0, R.sub, fun c o e => R.old c o e fun i z => (nomatch z), R.gn⟩ gp h0 hp ha⟩
      | bk r => cases hz
      | ct r => cases hz
      | ex c p => cases hz
  · cases hz
end
end DL
/-! D16: own lists read as data by a test that leaves them as they are -/
namespace DL
open PySem PySem.Spec PyProof.Rows L2 Lk
section
variable {K : PySem.W.Frag} {E : XE} {F : Fm} {O : Ow} {G H : Hp} {σ : L2.St} {r : En}
theorem Rp.frz2 (R : Rp K F O G σ H r) {i : Nat} {ds : List PyData} (e : r[i]? = some (Cel.ow ds)) : ∃ p xs, O i = some p ∧ H p = some (.lst xs) ∧ G p = none ∧ Rp K F (fun j => if j = i then none else O j) (upd G p (.lst xs)) σ H (r.set i (.pl (.list ds))) := by
  obtain ⟨p, xs, h1, h2, h0, h3, h4⟩ := R.ow i ds e
  have hio : ∀ ds', r[i]? ≠ some (Cel.io ds') := fun ds' z => by rw [e] at z; cases z
  have gp : G p = none := (R.on i p h1).2.1
  have P := dropO R hio
  have no : ∀ j, (fun j => if j = i then none else O j) j ≠ some p := fun j z => by
    dsimp only at z
    split at z
    · cases z
    · rename_i n
      exact n (R.inj j i p z h1)
  have Q := P.see h3 gp h0 no
  have S := Q.tell (i := i) (c := .pl (.list ds)) (by show (if i = i then none else O i) = none; rw [if_pos rfl]) (.inr ⟨_, .ref p, rfl, h2, .lst (.inl (.inl upd_same)) (h4.sm (same_new gp))⟩)
  rw [List.set_set] at S
  exact ⟨p, xs, h1, h3, gp, S⟩
def fzTo : Nat → En → En
  | 0, r => r
  | n + 1, r => match (fzTo n r)[n]? with
    | some (.ow ds) => (fzTo n r).set n (.pl (.list ds))
    | _ => fzTo n r
def fz (r : En) : En := fzTo r.length r
theorem fzTo_ge {r : En} : ∀ {n j : Nat}, n ≤ j → (fzTo n r)[j]? = r[j]?
  | 0, _, _ => rfl
  | n + 1, j, h => by
    have ih := fzTo_ge (r := r) (n := n) (j := j) (by omega)
    rw [fzTo]
    split
    · rw [List.getElem?_set_ne (by omega)]
      exact ih
    · exact ih
theorem frz_to (R : Rp K F O G σ H r) : ∀ n, ∃ O' G', Same G G' ∧ (∀ j c, O' j = some c → O j = some c) ∧ (∀ j ds p, j < n → r[j]? = some (.ow ds) → O j = some p → G' p = H p) ∧ (∀ j, n ≤ j → O' j = O j) ∧ Rp K F O' G' σ H (fzTo n r)
  | 0 => ⟨O, G, Same.refl _, fun _ _ e => e, fun j ds p h => absurd h (Nat.not_lt_zero _), fun _ _ => rfl, R⟩
  | n + 1 => by
    obtain ⟨O', G', h1, h2, h3, h4, h5⟩ := frz_to R n
    rw [fzTo]
    split
    · rename_i ds e
      obtain ⟨p, xs, o1, o2, gp, S⟩ := h5.frz2 e
      refine ⟨_, _, h1.trans (same_new gp), fun j c e => ?_, fun j ds' q hj er eo => ?_, fun j hj => ?_, S⟩
      · have e' : (if j = n then none else O' j) = some c := e
        split at e'
        · cases e'
        · exact h2 j c e'
      · by_cases z : j = n
        · subst z
          rw [← h4 j (Nat.le_refl _), o1] at eo
          cases eo
          rw [upd_same, o2]
        · have := h3 j ds' q (by omega) er eo
          by_cases y : q = p
          · subst y
            rw [upd_same, o2]
          · rw [upd_ne y]
            exact this
      · show (if j = n then none else O' j) = O j
        rw [if_neg (by omega)]
        exact h4 j (by omega)
    · rename_i hno
      refine ⟨O', G', h1, h2, fun j ds' q hj er eo => ?_, fun j hj => h4 j (by omega), h5⟩
      by_cases z : j = n
      · subst z
        rw [← fzTo_ge (Nat.le_refl j)] at er
        exact absurd er (hno ds')
      · exact h3 j ds' q (by omega) er eo
end
/-- leaves the names as they are -/
def Pu {α : Type} (m : M α) : Prop := ∀ r b r', m r = some (.ok b r') → r' = r
section
variable {α β : Type}
theorem pu_ret {a : α} : Pu (M.ret a : M α) := fun r b r' e => by cases e; rfl
theorem pu_lift {o : Option α} : Pu (M.lift o : M α) := fun r b r' e => by
  cases o with
  | none => cases e
  | some a => cases e; rfl
theorem pu_bind {m : M α} {k : α → M β} (h : Pu m) (hk : ∀ a, Pu (k a)) : Pu (m.bind k) := fun r b r' e => by
  unfold M.bind at e
  cases em : m r with
  | none => rw [em] at e; cases e
  | some o =>
    rw [em] at e
    cases o with
    | ok a r1 =>
      have := h r a r1 em
      subst this
      exact hk a _ b r' e
    | ex c p => cases e
theorem pu_V {i : Nat} : Pu (mV i) := fun r b r' e => by
  unfold mV at e
  split at e
  · cases e; rfl
  · cases e
theorem pu_ite {c : Prop} [Decidable c] {m n : M α} (h1 : Pu m) (h2 : Pu n) : Pu (if c then m else n) := by
  split
  · exact h1
  · exact h2
end
def noIo : Cel → Bool
  | .io _ => false
  | _ => true
def mPeek (m : M Bool) : M Bool := fun r => if r.all noIo then (match m (fz r) with
  | some (.ok b _) => some (.ok b r)
  | some (.ex c p) => some (.ex c p)
  | none => none) else none
section
variable {K : PySem.W.Frag} {E : XE} {F : Fm} {O : Ow} {G H : Hp} {σ : L2.St} {r : En}
theorem frz_run (P : Rp K F O G σ H r) (hio : r.all noIo = true) : ∃ O' G', Same G G' ∧ Rp K F O' G' σ H (fz r) ∧ ∀ (G2 H2 : Hp) (r1 : En), Rp K F O' G2 σ H2 r1 → Go O' G' H G2 H2 → Rp K F O G σ H2 r ∧ Go O G H G H2 ∧ Same G G2 := by
  obtain ⟨O', G', h1, h2, h3, h4, R⟩ := frz_to P r.length
  refine ⟨O', G', h1, R, fun G2 H2 r1 R2 g2 => ?_⟩
  have keep : ∀ (j : Nat) (ds : List PyData), r[j]? = some (.ow ds) → ∀ p, O j = some p → ∀ o, H p = some o → H2 p = some o := fun j ds e p ho o hh => by
    have lj : j < r.length := (List.getElem?_eq_some_iff.mp e).1
    have := h3 j ds p lj e ho
    rw [hh] at this
    exact R2.sub _ _ (g2.gg _ _ this)
  have noio : ∀ (j : Nat) (ds : List PyData), r[j]? ≠ some (.io ds) := fun j ds e => by
    have := List.all_eq_true.mp hio _ (List.mem_of_getElem? e)
    cases this
  refine ⟨⟨fun c o e => R2.sub _ _ (g2.gg _ _ (h1 _ _ e)), P.len, P.pl, fun i ds e => ?_, fun i ds e => absurd e (noio i ds), fun i p e => ?_, P.inj, R2.old, R2.nf, P.g0, P.gn⟩, ⟨Same.refl _, fun c o e n => g2.keep c o e fun i z => n i (h2 i c z), fun c e => .inl e, g2.nf⟩, h1.trans g2.gg⟩
  · obtain ⟨p, xs, o1, o2, o3, o4, o5⟩ := P.ow i ds e
    exact ⟨p, xs, o1, o2, o3, keep i ds e p o1 _ o4, o5⟩
  · obtain ⟨⟨c, c1, c2⟩, n1, n2, n3⟩ := P.on i p e
    refine ⟨⟨c, c1, c2⟩, n1, ?_, n3⟩
    cases c with
    | ow ds =>
      obtain ⟨p', xs, o1, o2, o3, o4, o5⟩ := P.ow i ds c1
      rw [e] at o1
      cases o1
      rw [keep i ds c1 p e _ o4]
      simp
    | io ds => exact absurd c1 (noio i ds)
    | un => cases c2
    | pl d => cases c2
theorem dt_peek {X : Cx} {e : Expr} {m : M Bool} (h : DT K E X e m) : DT K E X e (mPeek m) := ⟨fun hK => PT.imp (h.pt hK) fun σ H Q ⟨F, O, G, r, out, P, em, f⟩ => by
  unfold mPeek at em
  split at em
  · rename_i hio
    obtain ⟨O', G', _, R, k⟩ := frz_run P hio
    cases e0 : m (fz r) with
    | none => rw [e0] at em; cases em
    | some o =>
      rw [e0] at em
      refine ⟨F, O', G', fz r, o, R, e0, ?_⟩
      cases o with
      | ex c p => cases em; exact f
      | ok b r1 =>
        cases em
        intro b' G2 H2 R2 g2 q
        obtain ⟨k1, k2, _⟩ := k G2 H2 r1 R2 g2
        exact f b' G H2 k1 k2 q
  · cases em⟩
/-- no list, no tuple -/
def atomD : PyData → Bool
  | .int _ => true
  | .bool _ => true
  | .none => true
  | .str _ => true
  | _ => false
theorem Dq.atom {K : PySem.W.Frag} {G G' : Hp} {v : V} {d : PyData} (h : Dq K G v d) (a : atomD d = true) : Dq K G' v d := by
  cases h with
  | int => exact .int _
  | bl => exact .bl _
  | non => exact .non
  | str => exact .str _
  | _ => cases a
theorem DqAll.atoms {K : PySem.W.Frag} {G G' : Hp} : ∀ {vs : List V} {ds : List PyData}, DqAll K G vs ds → ds.all atomD = true → DqAll K G' vs ds
  | _, _, .nil, _ => .nil
  | _, _, .cons h t, a => by
    rw [List.all_cons, Bool.and_eq_true] at a
    exact .cons (h.atom a.1) (t.atoms a.2)
def mPeekV (m : M PyData) : M PyData := fun r => if r.all noIo then (match m (fz r) with
  | some (.ok d _) => if atomD d then some (.ok d r) else none
  | some (.ex c p) => some (.ex c p)
  | none => none) else none
theorem de_peek {X : Cx} {e : Expr} {m : M PyData} (h : DE K E X e m) : DE K E X e (mPeekV m) := ⟨fun hK => PE.imp (h.pe hK) fun σ H Q ⟨F, O, G, r, out, P, em, f⟩ => by
  unfold mPeekV at em
  split at em
  · rename_i hio
    obtain ⟨O', G', _, R, k⟩ := frz_run P hio
    cases e0 : m (fz r) with
    | none => rw [e0] at em; cases em
    | some o =>
      rw [e0] at em
      refine ⟨F, O', G', fz r, o, R, e0, ?_⟩
      cases o with
      | ex c p => cases em; exact f
      | ok d r1 =>
        dsimp only at em
        split at em
        · rename_i ha
          cases em
          intro v G2 H2 R2 g2 q
          obtain ⟨k1, k2, _⟩ := k G2 H2 r1 R2 g2
          exact f v G H2 k1 k2 (Dq.atom q ha)
        · cases em
  · cases em⟩
/-- a new list of plain values -/
def mPeekF (m : M (List PyData)) : M (List PyData) := fun r => if r.all noIo then (match m (fz r) with
  | some (.ok ds _) => if ds.all atomD then some (.ok ds r) else none
  | some (.ex c p) => some (.ex c p)
  | none => none) else none
theorem df_peek {X : Cx} {e : Expr} {m : M (List PyData)} (h : DF K E X e m) : DF K E X e (mPeekF m) := ⟨fun hK => PE.imp (h.pe hK) fun σ H Q ⟨F, O, G, r, out, P, em, f⟩ => by
  unfold mPeekF at em
  split at em
  · rename_i hio
    obtain ⟨O', G', _, R, k⟩ := frz_run P hio
    cases e0 : m (fz r) with
    | none => rw [e0] at em; cases em
    | some o =>
      rw [e0] at em
      refine ⟨F, O', G', fz r, o, R, e0, ?_⟩
      cases o with
      | ex c p => cases em; exact f
      | ok ds r1 =>
        dsimp only at em
        split at em
        · rename_i ha
          cases em
          intro v G2 H2 R2 g2 q
          obtain ⟨k1, k2, k3⟩ := k G2 H2 r1 R2 g2
          obtain ⟨p, xs, hv, hp, hG, h0, hO, hH, hd⟩ := q
          refine f v G H2 k1 k2 ⟨p, xs, hv, hp, P.sub.free hp, h0, fun i z => ?_, hH, DqAll.atoms hd ha⟩
          exact (P.on i p z).2.2.1 hp
        · cases em
  · cases em⟩
end
end DL
/-! D17: a def that changes its first argument and calls itself -/
namespace DL
open PySem PySem.Spec PyProof.Rows L2 Lk
section
variable {P : Program} {w : World} {K : PySem.W.Frag} {mg : Str → Option Value} {base : Heap}
theorem has_noneM {x qual : Str} {st : Stmt} {f : Addr} {fd : FuncData} {ps : List Str} {k : Nat} (F : Fun K x qual st f fd) (hb : Binds K fd ps []) (hm : mg x = some (.ref f)) : Has P w K mg base k x ps (spM K fun _ _ => none) := by
  refine ⟨f, fd, ⟨fun vs H Q E h => ?_, fun A outer s H args us vs Q E _ _ _ _ h => ?_⟩, hb, hm, F.kp⟩
  · obtain ⟨G, p, xs, ws, bs, ds, z, bs', _, _, _, _, _, _, e, _⟩ := h
    cases e
  · obtain ⟨G, p, xs, ws, bs, ds, z, bs', _, _, _, _, _, _, e, _⟩ := h
    cases e
end
end DL
/-! D18: errors that are raised and caught -/
namespace DL
open PySem PySem.Spec PyProof.Rows L2 Lk
/-- what a call gives: a value, or the class of the error that it raises -/
abbrev PX := PyData ⊕ Str
/-- a class of errors -/
structure ErrC (K : PySem.W.Frag) (C : Addr) : Prop where
  ex : PySem.W.excIn K C [.type "ValueError", .type "Exception", .type "BaseException", .type "object"] "ValueError.__new__" = true
  kp : PySem.W.keepIn K (.ref C) = true
  ty : PySem.W.typeIn K (.ref C) = some (.type "type")
  sb : PySem.W.subIn K (.ref C) (.type "BaseException") = some true
def Kls (K : PySem.W.Frag) (mg : Str → Option Value) (c : Str) : Prop := ∃ C, mg c = some (.ref C) ∧ ErrC K C
def catches (h c : Str) : Bool := h == c || h == "ReasonError"
/-- whether a clause of h takes an error of c -/
def Exo (K : PySem.W.Frag) (mg : Str → Option Value) (c h : Str) : Prop := ∀ C CH, mg c = some (.ref C) → mg h = some (.ref CH) → PySem.W.exmOne K (.ref C) (.ref CH) = some (catches h c)
def spX (K : PySem.W.Frag) (mg : Str → Option Value) (g : List PyData → Option PX) : Sp := fun vs H Q E => ∃ G ds, Same G H ∧ DqAll K G vs ds ∧
  ((∃ z, g ds = some (.inl z) ∧ ∀ v G' H', Ps G H G' H' → Dq K G' v z → Q v H') ∨ ∃ c, g ds = some (.inr c) ∧ ∀ C H', mg c = some (.ref C) → Same H H' → E (.ref C) none H')
def HasX (P : Program) (w : World) (K : PySem.W.Frag) (mg : Str → Option Value) (base : Heap) (k : Nat) (x : Str) (ps : List Str) (sp : Sp) : Prop :=
  ∃ (f : Addr) (fd : FuncData), FnOk P w K mg base (L2.CX P w) k f fd ps sp ∧ Binds K fd ps [] ∧ mg x = some (.ref f) ∧ PySem.W.keepIn K (.ref f) = true
theorem HasX.mono {P : Program} {w : World} {K : PySem.W.Frag} {mg : Str → Option Value} {base : Heap} {k j : Nat} {x : Str} {ps : List Str} {sp : Sp} (h : HasX P w K mg base k x ps sp) (l : k ≤ j) : HasX P w K mg base j x ps sp := by
  obtain ⟨f, fd, F, r⟩ := h
  exact ⟨f, fd, F.mono l, r⟩
def mCallX (g : List PyData → Option PX) (m : M (List PyData)) : M PyData := m.bind fun ds r => match g ds with
  | some (.inl z) => some (.ok z r)
  | some (.inr c) => some (.ex c [])
  | none => none
/-- what the errors of a body are taken for -/
def Lnk (X : Cx) (E : XE) : Prop := ∃ W : WX, Takes X W ∧ ∀ c C σ H', E c [] H' → X.mg c = some (.ref C) → W (.ref C) none σ H'
def XEd (mg : Str → Option Value) (E : XK) : XE := fun c p H' => ∀ C, p = [] → mg c = some (.ref C) → E (.ref C) none H'
section
variable {K : PySem.W.Frag} {E : XE} {X : Cx} {e : Expr} {es : List Expr} {m : M (List PyData)} {pos : Pos}
theorem dcX {x : Str} {p : Pos} {k : Nat} {ps : List Str} {g : List PyData → Option PX} (L : Lnk X E) (G : HasX X.prog X.w K X.mg X.base k x ps (spX K X.mg g)) (hr : Room k X.A) (hg : Gl X x)
    (ha : DA K E X (e :: es) m) (hdb : (x == ("__debug__" : Str)) = false := by decide) (he : starEach (e :: es) X.env = (false, eval e X.env) :: starEach es X.env := by rfl)
    (hpl : (backTo pos (starEach es X.env)).any (·.1) = false := by rfl) : DE K E X (.Call (.Name x p) (e :: es) [] pos) (mCallX g m) := ⟨fun hK => by
  subst hK
  obtain ⟨f, fd, Fk, b, gm, kp⟩ := G
  obtain ⟨W, tk, hW⟩ := L
  refine PE.imp (pe_callS Fk hr hg gm kp b (fun σ => passAt tk σ) (ha.pa rfl) hdb he hpl) fun σ H Q ⟨F, O, G, r, out, P, em, f⟩ => ?_
  refine tM.run P f em fun ds r1 vs G1 H1 P1 g1 q1 e1 f1 => ?_
  show spX X.K X.mg g vs H1 Q (WE W σ)
  refine ⟨G1, ds, P1.sub, q1, ?_⟩
  cases hg : g ds with
  | none => rw [hg] at e1; cases e1
  | some z =>
    rw [hg] at e1
    cases z with
    | inl z =>
      cases e1
      exact .inl ⟨z, rfl, fun v G' H' p q => f1.ok p P1 q⟩
    | inr c =>
      cases e1
      exact .inr ⟨c, rfl, fun C H' hm sm => hW c C σ H' (f1 H' fun c o e n => sm _ _ (P1.old c o e n)) hm⟩⟩
end
def sRaise (c : Str) : SM := fun _ => some (.ex c [])
theorem ds_raise {K : PySem.W.Frag} {E : XE} {X : Cx} {x m : Str} {j : Nat} {p p2 p3 pos : Pos} (L : Lnk X E) (hc : X.calm = true) (kl : Kls K X.mg x) (hg : Gl X x) (hdb : (x == ("__debug__" : Str)) = false := by decide) :
    DS K E X (.Raise (some (.Call (.Name x p) [.Constant (.str m) j p2] [] p3)) none pos) (sRaise x) := ⟨fun hK => by
  subst hK
  obtain ⟨W, tk, hW⟩ := L
  obtain ⟨C, gC, EC⟩ := kl
  refine PS.imp (ps_raise hc tk (pmk_own PySem.F.excBase_ValueError EC.ex gC EC.kp (raises_own EC.sb EC.ty) hg hdb)) fun D σ H ⟨F, O, G, r, fl, P, em, f⟩ => ?_
  cases em
  exact hW x C σ H (f H P.old) gC⟩
/-! ## a def that may raise -/
def outX : Option Fl → Option PX
  | some (.rt z _) => some (.inl z)
  | some (.nx _) => some (.inl .none)
  | some (.ex c []) => some (.inr c)
  | _ => none
def runX (N : List Str) (n : Nat) (sv : SM) (ds : List PyData) : Option PX := if ds.length = n then outX (sv (ini N ds)) else none
section
variable {P : Program} {w : World} {K : PySem.W.Frag} {mg : Str → Option Value} {base : Heap}
theorem lnk_def {N : List Str} {qual : Str} {scope : Scope} {f : Addr} {cdv : Value} {A : Around} {outer : List Env} {s : Shared} {H : Hp} {E : XK} : Lnk (cxOf (L2.CX P w) P w K mg base N qual scope f cdv A outer s H E) (XEd mg E) :=
  ⟨_, takes_of (E := E) rfl rfl rfl rfl, fun c C σ H' h hm => h C rfl hm⟩
theorem def_x {x qual : Str} {st : Stmt} {f : Addr} {fd : FuncData} {N ps : List Str} {k n : Nat} {sv : SM} (F : Fun K x qual st f fd) (S : FnScope N ps (defScope st)) (hb : Binds K fd ps []) (hm : mg x = some (.ref f))
    (h : ∀ (cdv : Value) (A : Around) (outer : List Env) (s : Shared) (H : Hp) (E : XK), Room k (A.deeper (envOfC qual (defScope st) s.heap.objs.size f cdv)) → DSs K (XEd mg E) (cxOf (L2.CX P w) P w K mg base N qual (defScope st) f cdv A outer s H E) (defBody st) sv)
    (hn : ps.length = n := by rfl) : HasX P w K mg base (k + 1) x ps (spX K mg (runX N n sv)) := by
  refine ⟨f, fd, ?_, hb, hm, F.kp⟩
  have len : ∀ ds z, runX N n sv ds = some z → ds.length = ps.length ∧ outX (sv (ini N ds)) = some z := fun ds z e => by
    unfold runX at e
    split at e
    · rename_i hl
      exact ⟨hl.trans hn.symm, e⟩
    · cases e
  refine F.okX S (fun vs H Q E ⟨G, ds, sg, hd, q⟩ => ?_) fun cdv A outer s H vs Q E hr ⟨G, ds, sg, hd, q⟩ => ?_
  · rw [hd.length]
    rcases q with ⟨z, e, _⟩ | ⟨c, e, _⟩
    · exact (len _ _ e).1
    · exact (len _ _ e).1
  · refine ⟨_, (h cdv A outer s H E hr).ps rfl, ?_⟩
    rcases q with ⟨z, e, q⟩ | ⟨c, e, q⟩
    · have e2 := (len _ _ e).2
      cases hs : sv (ini N ds) with
      | none => rw [hs] at e2; cases e2
      | some fl =>
        rw [hs] at e2
        refine ⟨_, _, G, _, _, start_rp sg hd, hs, ?_⟩
        cases fl with
        | rt d r => cases e2; exact fun O' G' σ' H' v R g hv => q v G' H' ⟨R.g0, R.sub, fun c o e => R.old c o e fun i z => (nomatch z), R.gn⟩ hv
        | nx r => cases e2; exact fun O' G' σ' H' R g => q .non G' H' ⟨R.g0, R.sub, fun c o e => R.old c o e fun i z => (nomatch z), R.gn⟩ .non
        | ex c p =>
          cases p with
          | nil => cases e2
          | cons _ _ => cases e2
        | _ => cases e2
    · have e2 := (len _ _ e).2
      cases hs : sv (ini N ds) with
      | none => rw [hs] at e2; cases e2
      | some fl =>
        rw [hs] at e2
        refine ⟨_, _, G, _, _, start_rp sg hd, hs, ?_⟩
        cases fl with
        | ex c p =>
          cases p with
          | nil =>
            cases e2
            exact fun H' sm C _ hm => q C H' hm fun c o e => sm c o e fun i z => (nomatch z)
          | cons _ _ => cases e2
        | _ => cases e2
end
/-! ## try: f(..) / except C: .. -/
def pick (c : Str) : List (Str × SM) → Option SM
  | [] => none
  | (h, sv) :: t => if catches h c then some sv else pick c t
def sTry (L : List Str) (g : List PyData → Option PX) (m : M (List PyData)) (hs : List (Str × SM)) (ok : PyData → SM) : SM := fun r => match m r with
  | some (.ok ds r') => match g ds with
    | some (.inl z) => ok z r'
    | some (.inr c) => if L.contains c then (match pick c hs with
      | some sv => sv r'
      | none => none) else none
    | none => none
  | _ => none
def okNx (_ : PyData) : SM := fun r => some (.nx r)
/-- the clauses, and for each its suite -/
inductive Hds (K : PySem.W.Frag) (E : XE) (X : Cx) (L : List Str) : List ExceptHandler → List (Str × SM) → Prop
  | nil : Hds K E X L [] []
  | cons {x : Str} {b₀ : Stmt} {suite : List Stmt} {np pos' : Pos} {hds : List ExceptHandler} {sv : SM} {l : List (Str × SM)} (kl : Kls K X.mg x) (hg : Gl X x) (hdb : (x == ("__debug__" : Str)) = false)
      (ex : ∀ c ∈ L, Exo K X.mg c x) (hsu : ∀ (a : Addr) (pn : List (Addr × Obj)), DSs K E (X.suite a pn) (b₀ :: suite) sv) (r : Hds K E X L hds l) :
      Hds K E X L (.ExceptHandler (some (.Name x np)) none (b₀ :: suite) pos' :: hds) ((x, sv) :: l)
theorem Hds.to {K : PySem.W.Frag} {E : XE} {X : Cx} {L : List Str} (hK : X.K = K) : ∀ {hds : List ExceptHandler} {l : List (Str × SM)}, Hds K E X L hds l → ∃ l2, HdsOk X hds l2 ∧
    ∀ (c : Str) (C : Addr) (D : Ends) (σ : L2.St) (H : Hp) (sv : SM), c ∈ L → X.mg c = some (.ref C) → pick c l = some sv → tS K E sv D σ H → wMany X.K (fun _ _ _ _ => False) D l2 (.ref C) none σ H
  | _, _, .nil => ⟨[], .nil, fun c C D σ H sv _ _ e => by cases e⟩
  | _, _, .cons (x := x) (sv := sv) kl hg hdb ex hsu r => by
    obtain ⟨l2, h1, h2⟩ := Hds.to hK r
    obtain ⟨CH, gH, _⟩ := kl
    refine ⟨(.ref CH, fun a _ _ => tS K E sv) :: l2, .cons ⟨hg, hdb, .inl gH⟩ (fun a oe cls d pn _ _ => (hsu a _).ps hK) h1, fun c C D σ H sv' hc hm e q => ?_⟩
    refine ⟨catches x c, by rw [hK]; exact ex c hc C CH hm gH, fun hb a na => ?_, fun hb => h2 c C D σ H sv' hc hm ?_ q⟩
    · rw [pick, if_pos hb] at e
      cases e
      exact q
    · rw [pick, if_neg (by rw [hb]; exact Bool.false_ne_true)] at e
      exact e
section
variable {K : PySem.W.Frag} {E : XE} {X : Cx} {e : Expr} {es : List Expr} {m : M (List PyData)} {pos : Pos}
theorem ds_try {x : Str} {p p4 p5 : Pos} {k : Nat} {ps : List Str} {g : List PyData → Option PX} {L : List Str} {h₀ : ExceptHandler} {hds : List ExceptHandler} {l : List (Str × SM)}
    (hs : X.stack = X.env :: X.outer) (hf : X.env.frame = some X.env.locals) (G : HasX X.prog X.w K X.mg X.base k x ps (spX K X.mg g)) (hr : Room k X.A) (hg : Gl X x)
    (ha : ∀ pn xe, DA K E (X.tr pn xe) (e :: es) m) (hh : Hds K E X L (h₀ :: hds) l) (hdb : (x == ("__debug__" : Str)) = false := by decide) (he : starEach (e :: es) X.env = (false, eval e X.env) :: starEach es X.env := by rfl)
    (hpl : (backTo p4 (starEach es X.env)).any (·.1) = false := by rfl) (hsw : swapsWith (.Call (.Name x p) (e :: es) [] p4) none p5.line X.env = pure false := by rfl) :
    DS K E X (.Try [.Expr (.Call (.Name x p) (e :: es) [] p4) p5] (h₀ :: hds) [] [] pos) (sTry L g m l okNx) := ⟨fun hK => by
  subst hK
  obtain ⟨f, fd, Fk, b, gm, kp⟩ := G
  obtain ⟨l2, h1, h2⟩ := hh.to rfl
  refine PS.imp (ps_try_many hs hf takes0 (fun W pn xe tk _ => pss_one (ps_expr (pe_callS (X := X.tr pn xe) Fk hr hg gm kp b (fun σ => passAt tk σ) ((ha pn xe).pa rfl) hdb he hpl) hsw)) h1) fun D σ H ⟨F, O, G, r, fl, P, em, fi⟩ => ?_
  show tM X.K E (rA X.K) m σ H (fun vs H1 => spX X.K X.mg g vs H1 (fun v H' => D.nx σ H') (WE (wMany X.K (fun _ _ _ _ => False) D l2) σ))
  unfold sTry at em
  cases hm : m r with
  | none => rw [hm] at em; cases em
  | some o =>
    rw [hm] at em
    cases o with
    | ex c p => cases em
    | ok ds r1 =>
      refine ⟨F, O, G, r, _, P, hm, fun vs G1 H1 P1 g1 q1 => ⟨G1, ds, P1.sub, q1, ?_⟩⟩
      dsimp only at em
      cases hg : g ds with
      | none => rw [hg] at em; cases em
      | some z =>
        rw [hg] at em
        cases z with
        | inl z =>
          cases em
          exact .inl ⟨z, rfl, fun v G' H' p q => fi O G' σ H' (P1.ps p) (g1.gg.trans p.gg)⟩
        | inr c =>
          dsimp only at em
          refine .inr ⟨c, rfl, fun C H' hC sm => ?_⟩
          split at em
          · rename_i hc
            cases hp : pick c l with
            | none => rw [hp] at em; cases em
            | some sv =>
              rw [hp] at em
              exact h2 c C D σ H' sv (List.contains_iff_mem.mp hc) hC hp ⟨F, O, G1, r1, fl, P1.ps (Ps.of_same P1.sub sm), em, fi.via g1.gg⟩
          · cases em⟩
end
/-! ## a < b < c as a test -/
section
variable {K : PySem.W.Frag} {E : XE} {X : Cx} {a b c e : Expr} {ma mb mc : M PyData} {pos : Pos}
theorem dt_chain {op op' : CmpOp} {f g : PyData → PyData → Option PyData} (ho : OpD K X (compareOp op) f) (ho' : OpD K X (compareOp op') g) (ha : DE K E X a ma) (hb : DE K E X b mb) (hc : DE K E X c mc)
    (h1 : lastMarks [op, op'] [b, c] = false := by with_unfolding_all rfl) : DT K E X (.Compare a [op, op'] [b, c] pos) (mVal (mChain f g ma mb mc)) :=
  ⟨fun hK => PT.imp (pt_chain (ho hK) (ho' hK) (ha.pe hK) (hb.pe hK) (hc.pe hK) h1) fun σ H Q ⟨F, O, G, r, out, P, em, ff⟩ => by
  have T : tM K E (rD K) (mChain f g ma mb mc) σ H (fun v H' => ∃ k, v = .bl k ∧ Q k H') := tM.run P ff em fun d r1 x G1 H1 P1 g1 q1 e1 f1 => by
    obtain ⟨k, hz, rfl⟩ := lift_ok e1
    cases asBool_some hz
    exact ⟨k, dp_bool q1, f1.ok (Ps.refl P1.sub) P1 rfl⟩
  obtain ⟨F, O, G, r, out, P, em, ff⟩ := T
  show tChain _ _ _ _ _ σ H _
  refine tM.run P ff em fun d r1 x G1 H1 P1 g1 q1 e1 f1 => ?_
  refine tM.run P1 f1 e1 fun ds r2 y G2 H2 P2 g2 q2 e2 f2 => ?_
  obtain ⟨k, hz, e3⟩ := bind_lift_ok e2
  obtain ⟨z, h1, h2⟩ := Option.bind_eq_some_iff.mp hz
  cases asBool_some h2
  refine ⟨G2, _, _, _, P2.sub, q1.sm g2.gg, q2, h1, fun v G' H' p q => ⟨k, dp_bool q, ?_⟩⟩
  have P2' := P2.ps p
  have f2' := f2.via (p.go : Go O G2 H2 G' H')
  cases k with
  | true =>
    refine iteT (tM.run P2' f2' e3 fun h r3 w G3 H3 P3 g3 q3 e4 f3 => ?_)
    obtain ⟨o, ho, rfl⟩ := lift_ok e4
    obtain ⟨z', h3, h4⟩ := Option.bind_eq_some_iff.mp ho
    obtain ⟨b', h5, rfl⟩ := Option.map_eq_some_iff.mp h4
    cases asBool_some h5
    exact ⟨G3, _, _, _, P3.sub, (q2.sm p.gg).sm g3.gg, q3, h3, fun v G' H' p q => f3.ok p P3 q⟩
  | false =>
    cases e3
    exact iteF (f2'.ok (Ps.refl P2'.sub) P2' (.bl _))⟩
end
end DL
/-! D19: t.count(x), t a tuple that tuple(..) has just made; it is handed to a def whose first statement asks it -/
namespace DL
open PySem PySem.Spec PyProof.Rows L2 Lk
/-- a tuple whose object is known -/
def KTup (H : Hp) (p : Addr) : Prop := ∃ (o : Obj) (xs : List V), H p = some (.frz o (.tup xs)) ∧ o.cls = .type "tuple" ∧ o.dict = none
def countT : PyData → List PyData → Option PyData
  | .tuple ds, [d] => if SeqAt.shaped (.tuple ds) && SeqAt.shaped d then some (.int ((ds.countP fun z => PyData.eqv z d : Nat) : Int)) else none
  | _, _ => none
section
variable {K : PySem.W.Frag} {E : XE} {X : Cx} {a b e : Expr} {es : List Expr} {ma mb : M PyData} {pos : Pos}
def rCountT (K : PySem.W.Frag) : V → List V → Hp → VK → Prop := fun x xs H Q => ∃ (a : Addr) (y : V) (d : PyData) (ds : List PyData), x = V.ref a ∧ xs = [y] ∧ Dp K H (V.ref a) (.tuple ds) ∧ Dp K H y d ∧
  SeqAt.shaped (.tuple ds) = true ∧ SeqAt.shaped d = true ∧ Q (.int ((ds.countP fun z => PyData.eqv z d : Nat) : Int)) H
theorem mt_countT (hu : X.A.units + 65 < cLine) : MtR X "tuple.count" (rCountT X.K) := by
  intro pins s σ H x xs v us Q I rx rxs h
  obtain ⟨a, y, d, ds, rfl, rfl, hl, hy, sl, sd, q⟩ := h
  cases rx
  cases rxs with
  | cons ry rt =>
    rename_i uy ut
    cases rt
    obtain ⟨bs, r1⟩ := Dp.reads I d y uy hy ry
    have hxs : PyData.canLayAll0 ds = true := SeqAt.canLay_of_shaped sl
    have hroom : X.A.units + 1 + min (PyData.depthAll ds) d.depth < cLine := by
      have h1 : d.depth ≤ 64 := by
        unfold SeqAt.shaped at sd
        rw [Bool.and_eq_true] at sd
        exact of_decide_eq_true sd.2
      have : min (PyData.depthAll ds) d.depth ≤ 64 := Nat.le_trans (Nat.min_le_right _ _) h1
      omega
    cases hl with
    | tup hs ha =>
      obtain ⟨its, rv, ⟨⟨cls, dd, data, sls⟩, ho, hc, n, hdt⟩, hlen⟩ := I.tuple hs
      simp only at hc hdt
      subst hc hdt
      obtain ⟨as, h4⟩ := Dp.readsAll I ds _ its ha rv
      have hmap : its.map (SeqAt.readOf s.heap) = ds := SeqAt.readsAll_map ds its as hxs h4
      refine call_meets PySem.F.slot_tuple_count ⟨_, ho, rfl⟩ PySem.F.entry_tuple_count (PySem.F.args_tuple_count_2 _ _)
        (SeqAt.tuple_countAt a its.toArray n dd sls uy (fun u => PyData.eqv (SeqAt.readOf s.heap u) d)) ⟨ho, SeqAt.items_eqAt (vs := its.toArray) (show ReadsAll s.heap its.toArray.toList ds as from h4) r1 hxs (SeqAt.canLay_of_shaped sd) hroom, ?_⟩
      have hc : (its.toArray.toList.countP fun u => PyData.eqv (SeqAt.readOf s.heap u) d) = ds.countP fun z => PyData.eqv z d := by
        rw [← hmap, List.countP_map]
        rfl
      rw [hc]
      exact ⟨.int _, H, I.tok _, ⟨_, rfl⟩, q⟩
/-- o.m(e, ..), o a tuple whose object is known -/
def tBMF (r : V → List V → Hp → VK → Prop) (to : TE) (t : TA) : TE := fun σ H Q => to σ H fun x H1 => (∃ p, x = .ref p ∧ KTup H1 p) ∧ t σ H1 fun xs H2 => r x xs H2 Q
theorem pe_bmF {o : Expr} {to : TE} {t : TA} {name : Str} {apos cpos : Pos} {id : String} {r : V → List V → Hp → VK → Prop} (slot : Slot "tuple" name id) (hty : typeOf (.builtin id) = pure (.type "method_descriptor")) (hm : MtR X id r) (ho : PE X o to) (ha : PA X (e :: es) t)
    (hbase : attributeBase o name X.env (eval o X.env) = eval o X.env := by rfl)
    (hfew : ((backTo cpos (starEach (e :: es) X.env)).all (fun x => !x.1) && (backToKw cpos (keywordEach [] X.env)).all (fun x => x.1.isSome)
      && decide ((e :: es).length + ([] : List Keyword).length + (if ([] : List Keyword).isEmpty then 0 else 1) < 30)) = true := by rfl)
    (hline : (apos.endLine == cpos.line) = true := by rfl) (hs : starEach (e :: es) X.env = (false, eval e X.env) :: starEach es X.env := by rfl) (hplain : (backTo cpos (starEach es X.env)).any (·.1) = false := by rfl) :
    PE X (.Call (.Attribute o name apos) (e :: es) [] cpos) (tBMF r to t) := by
  refine ⟨fun pins s σ H Q I h => ?_⟩
  refine wpAny_Call_method_late hbase hfew hline rfl (thn (ho.run pins s σ H _ I h) fun v s1 ⟨x, H1, I1, r1, ⟨p, e1, ob, ys, hp, hcl, hd⟩, q1⟩ => ?_)
  subst e1
  cases r1
  have hh := (I1.hok p _ hp).1
  refine ⟨"tuple", id, PySem.F.plainAttrs_tuple, slot, hty, ⟨ob, hh, hcl⟩, fun c e => ?_, ?_⟩
  · cases e
    exact ⟨ob, hh, hd⟩
  have hA := ha.run cpos pins s1 σ H1 _ I1 q1
  rw [hs] at hA ⊢
  refine Calls.callWith_builtin (by show (false || (backTo cpos (starEach es X.env)).any (·.1)) = false; rw [hplain] <;> rfl) (Calls.evalArgs_plain ?_)
  exact thn hA fun us s2 ⟨vs, H2, I2, r2, q2⟩ => hm pins s2 σ H2 (.ref p) vs (.ref p) us Q I2 rfl r2 q2
/-- what is known at the start of the statement -/
def Kn (i : Nat) (σ : L2.St) (H : Hp) : Prop := ∃ p, σ[i]? = some (some (.ref p)) ∧ KTup H p
def mCntT (i : Nat) (m : M (List PyData)) : M PyData := (mV i).bind fun d => m.bind fun ds => M.lift (countT d ds)
theorem pe_countT (i : Nat) {y : Str} {p2 ap : Pos} {m : M (List PyData)} {k : Nat} (hr : Room k X.A) (hK : X.K = K) (ha : DA K E X (e :: es) m) (hN : X.N[i]? = some y := by rfl) (hv : Vis X.env.scope y := by first | exact Or.inl rfl | exact Or.inr (Or.inl rfl) | exact Or.inr (Or.inr rfl))
    (hd : (y == ("__debug__" : Str)) = false := by decide) (hcd : (y == ("__classdict__" : Str)) = false := by decide)
    (hbase : attributeBase (.Name y p2) "count" X.env (eval (.Name y p2) X.env) = eval (.Name y p2) X.env := by rfl)
    (hfew : ((backTo pos (starEach (e :: es) X.env)).all (fun x => !x.1) && (backToKw pos (keywordEach [] X.env)).all (fun x => x.1.isSome)
      && decide ((e :: es).length + ([] : List Keyword).length + (if ([] : List Keyword).isEmpty then 0 else 1) < 30)) = true := by rfl)
    (hline : (ap.endLine == pos.line) = true := by rfl) (hs : starEach (e :: es) X.env = (false, eval e X.env) :: starEach es X.env := by rfl) (hplain : (backTo pos (starEach es X.env)).any (·.1) = false := by rfl) :
    PE X (.Call (.Attribute (.Name y p2) "count" ap) (e :: es) [] pos) (fun σ H Q => Kn i σ H ∧ tM K E (rD K) (mCntT i m) σ H Q) := by
  subst hK
  have hu : X.A.units + 65 < cLine := by have := hr.un; omega
  refine PE.imp (pe_bmF PySem.F.slot_tuple_count PySem.F.type_tuple_count (mt_countT hu) (pe_var hN hv hd hcd) (ha.pa rfl) hbase hfew hline hs hplain) fun σ H Q ⟨⟨p, e1, k1⟩, F, O, G, r, out, P, em, f⟩ => ?_
  refine ⟨.ref p, e1, ⟨p, rfl, k1⟩, ?_⟩
  unfold mCntT M.bind mV at em
  cases er : r[i]? with
  | none => rw [er] at em; cases em
  | some c =>
    rw [er] at em
    cases c with
    | pl d =>
      obtain ⟨v, h1, h2⟩ := P.pl i d er
      rw [e1] at h1
      cases h1
      have em2 : (m.bind fun ds => M.lift (countT d ds)) r = some out := em
      refine tM.run P f em2 fun ds r2 xs G2 H2 P2 g2 q2 e2 f2 => ?_
      obtain ⟨z, hz, rfl⟩ := lift_ok e2
      unfold countT at hz
      split at hz
      · split at hz
        · rename_i hsh
          rw [Bool.and_eq_true] at hsh
          cases hz
          obtain ⟨w, rfl, hw⟩ := one_of q2
          exact ⟨p, w, _, _, rfl, rfl, ((h2.sm g2.gg).sm P2.sub).dp, (hw.sm P2.sub).dp, hsh.1, hsh.2, f2.ok (Ps.refl P2.sub) P2 (.int _)⟩
        · cases hz
      · cases hz
    | _ => cases em
variable {kn : L2.St → Hp → Prop}
theorem pt_cmpK {op : CmpOp} {g : PyData → PyData → Option PyData} (hK : X.K = K) (ho : OpD K X (compareOp op) g) (ha : PE X a (fun σ H Q => kn σ H ∧ tM K E (rD K) ma σ H Q)) (hb : DE K E X b mb) (hm : behindInMarks op b = false) :
    PT X (.Compare a [op] [b] pos) (fun σ H Q => kn σ H ∧ tM K E rB (mOpT g ma mb) σ H Q) := PT.imp (pt_cmpR (ho hK) ha (hb.pe hK) hm) fun σ H Q ⟨hk, F, O, G, r, out, P, em, f⟩ => by
  refine ⟨hk, tM.run P f em fun d r1 x G1 H1 P1 g1 q1 e1 f1 => ?_⟩
  refine tM.run P1 f1 e1 fun ds r2 y G2 H2 P2 g2 q2 e2 f2 => ?_
  obtain ⟨c, hz, rfl⟩ := lift_ok e2
  obtain ⟨z, h1, h2⟩ := Option.bind_eq_some_iff.mp hz
  cases asBool_some h2
  exact ⟨G2, _, _, _, P2.sub, q1.sm g2.gg, q2, h1, fun v G' H' p q => ⟨c, dp_bool q, f2.ok p P2 rfl⟩⟩
theorem ps_ifK {c : Expr} {mc : M Bool} {sa sb : List Stmt} {A B : SM} (hK : X.K = K) (hc : PT X c (fun σ H Q => kn σ H ∧ tM K E rB mc σ H Q)) (ha : DSs K E X sa A) (hb : DSs K E X sb B) : PS X (.If c sa sb pos) (fun D σ H => kn σ H ∧ tS K E (sIf mc A B) D σ H) := PS.imp (ps_if hc (ha.ps hK) (hb.ps hK)) fun D σ H ⟨hk, F, O, G, r, fl, P, em, f⟩ => by
  refine ⟨hk, tS.run P f em fun d r1 x G1 H1 P1 g1 q1 e1 f1 => ?_⟩
  cases q1
  cases d with
  | true => exact iteT ⟨F, O, G1, r1, fl, P1, e1, f1⟩
  | false => exact iteF ⟨F, O, G1, r1, fl, P1, e1, f1⟩
theorem pss_consK {st : Stmt} {sts : List Stmt} {A B : SM} (hK : X.K = K) (h1 : PS X st (fun D σ H => kn σ H ∧ tS K E A D σ H)) (h2 : DSs K E X sts B) : PSs X (st :: sts) (fun D σ H => kn σ H ∧ tS K E (sSeq A B) D σ H) := PSs.imp (pss_cons h1 (h2.ps hK)) fun D σ H ⟨hk, F, O, G, r, fl, P, em, f⟩ => by
  unfold sSeq at em
  cases ea : A r with
  | none => rw [ea] at em; cases em
  | some fa =>
    rw [ea] at em
    refine ⟨hk, F, O, G, r, fa, P, ea, ?_⟩
    cases fa with
    | nx r' => exact fun O' G' σ' H' P' g => ⟨F, O', G', r', fl, P', em, f.via g⟩
    | rt d r' => cases em; exact f
    | bk r' => cases em; exact f
    | ct r' => cases em; exact f
    | ex c p => cases em; exact f
    | rf ds r' => cases em; exact f
end
/-! ## the def, and its call -/
/-- the second argument is such a tuple -/
def spT (K : PySem.W.Frag) (g : List PyData → Option PyData) : Sp := fun vs H Q _ => ∃ G v p d ds z, vs = [v, .ref p] ∧ Same G H ∧ KTup H p ∧ Dq K G v d ∧ Dq K G (.ref p) (.tuple ds) ∧ g [d, .tuple ds] = some z ∧ ∀ u G' H', Ps G H G' H' → Dq K G' u z → Q u H'
section
variable {P : Program} {w : World} {K : PySem.W.Frag} {mg : Str → Option Value} {base : Heap}
theorem def_t {x qual : Str} {st : Stmt} {f : Addr} {fd : FuncData} {N ps : List Str} {k : Nat} {sv : SM} (F : Fun K x qual st f fd) (S : FnScope N ps (defScope st)) (hb : Binds K fd ps []) (hm : mg x = some (.ref f)) (h2 : ps.length = 2)
    (h : ∀ (cdv : Value) (A : Around) (outer : List Env) (s : Shared) (H : Hp) (E : XK), Room k (A.deeper (envOfC qual (defScope st) s.heap.objs.size f cdv)) → PSs (cxOf CX0 P w K mg base N qual (defScope st) f cdv A outer s H E).nox (defBody st) (fun D σ H => Kn 1 σ H ∧ tS K XN sv D σ H)) :
    Has P w K mg base (k + 1) x ps (spT K (runD N 2 sv)) := by
  refine ⟨f, fd, F.ok S (fun vs H Q E ⟨G, v, p, d, ds, z, e, _⟩ => by rw [e, h2]; rfl) fun cdv A outer s H vs Q E hr ⟨G, v, p, d, ds, z, e, sg, kt, hd, hp, hz, q⟩ => ?_, hb, hm, F.kp⟩
  subst e
  refine ⟨_, h cdv A outer s H E hr, ⟨p, rfl, kt⟩, ?_⟩
  have hz' : outD (sv (ini N [d, .tuple ds])) = some z := hz
  have hda : DqAll K G [v, .ref p] [d, .tuple ds] := .cons hd (.cons hp .nil)
  cases hs : sv (ini N [d, .tuple ds]) with
  | none => rw [hs] at hz'; cases hz'
  | some fl =>
    rw [hs] at hz'
    refine ⟨_, _, G, _, _, start_rp sg hda, hs, ?_⟩
    cases fl with
    | rt d r => cases hz'; exact fun O' G' σ' H' v R g hv => q v G' H' ⟨R.g0, R.sub, fun c o e => R.old c o e fun i z => (nomatch z), R.gn⟩ hv
    | nx r => cases hz'; exact fun O' G' σ' H' R g => q .non G' H' ⟨R.g0, R.sub, fun c o e => R.old c o e fun i z => (nomatch z), R.gn⟩ .non
    | _ => cases hz'
end
section
variable {K : PySem.W.Frag} {E : XE} {X : Cx} {a b e : Expr} {pos : Pos} {ma mb : M PyData}
/-- tuple(l), l a list: the object is known -/
theorem call_tupleK : CallR X (.type "tuple") (fun xs H Q => ∃ p ys, xs = [.ref p] ∧ SqL X.K H p ys ∧ ∀ l o, H l = none → o.cls = .type "tuple" → o.dict = none → Q (.ref l) (upd H l (.frz o (.tup ys)))) := by
  intro pins s σ H xs us Q I r h
  obtain ⟨p, ys, rfl, hq, q⟩ := h
  obtain ⟨u, rfl, rx⟩ := vals1 r
  cases rx
  obtain ⟨its, r', pl, hz⟩ := I.list hq
  have hlen := r'.length
  refine call_tuple_list pl.isList (fun h' kp => ?_) (by simp only [List.size_toArray] <;> omega)
  have I1 : Inv X pins σ H { s with heap := h' } := I.kept (t' := s.toks) kp
  have I2 : Inv X pins σ (upd H h'.objs.size (.frz { cls := .type "tuple", data := .seq its.toArray } (.tup ys))) { s with heap := h'.push { cls := .type "tuple", data := .seq its.toArray } } :=
    I1.laid (t' := s.toks) (fun b o e => Heap.get?_push_of_some _ e) (Nat.le_refl _) (show ObjOk X.prog X.w _ _ _ (.frz _ (.tup ys)) from ⟨Heap.get?_push_size _ rfl, hz, its, r', IsTup.new _ _⟩)
  exact ⟨.ref h'.objs.size, _, I2, rfl, q _ _ (I1.hok.fresh (Nat.le_refl _)) rfl rfl⟩
/-- tuple(l) of a list -/
def tupL : PyData → Option PyData
  | .list ds => some (.tuple ds)
  | _ => none
def mTested (g : List PyData → Option PyData) (ma mb : M PyData) : M PyData := ma.bind fun d => mb.bind fun l => M.lift ((tupL l).bind fun t => g [d, t])
theorem dc_tested {x : Str} {p p2 p3 : Pos} {k : Nat} {ps : List Str} {g : List PyData → Option PyData} (G : Has X.prog X.w K X.mg X.base k x ps (spT K g)) (hr : Room k X.A) (hg : Gl X x) (hgt : Gl X "tuple") (hmt : X.mg "tuple" = none)
    (ha : DE K E X a ma) (hb : DE K E X b mb) (hdb : (x == ("__debug__" : Str)) = false := by decide)
    (h1 : starEach [a, .Call (.Name "tuple" p2) [b] [] p3] X.env = (false, eval a X.env) :: starEach [.Call (.Name "tuple" p2) [b] [] p3] X.env := by rfl)
    (h2 : starEach [.Call (.Name "tuple" p2) [b] [] p3] X.env = (false, eval (.Call (.Name "tuple" p2) [b] [] p3) X.env) :: starEach [] X.env := by rfl)
    (h3 : starEach [b] X.env = (false, eval b X.env) :: starEach [] X.env := by rfl)
    (hpl : (backTo pos (starEach [.Call (.Name "tuple" p2) [b] [] p3] X.env)).any (·.1) = false := by rfl) (hpl2 : (backTo p3 (starEach [] X.env)).any (·.1) = false := by rfl) :
    DE K E X (.Call (.Name x p) [a, .Call (.Name "tuple" p2) [b] [] p3] [] pos) (mTested g ma mb) := ⟨fun hK => by
  subst hK
  obtain ⟨f, fd, Fk, bi, gm, kp⟩ := G
  have hv : bootBuiltins "tuple" = some (.type "tuple") := by decide +kernel
  refine PE.imp (pe_call (E := E0) Fk hr hg gm kp bi .nil pass0 (pa_cons (ha.pe rfl) (pa_cons (pe_callTy call_tupleK hgt hmt hv (pa_cons (hb.pe rfl) pa_nil h3) (by decide) (by decide) h3 hpl2) pa_nil h2) h1) hdb h1 hpl) fun σ H Q ⟨F, O, G, r, out, P, em, ff⟩ => ?_
  refine tM.run P ff em fun d r1 v G1 H1 P1 g1 q1 e1 f1 => ?_
  refine tM.run P1 f1 e1 fun l r2 y G2 H2 P2 g2 q2 e2 f2 => ?_
  obtain ⟨z, hz, rfl⟩ := lift_ok e2
  obtain ⟨t, ht, hz⟩ := Option.bind_eq_some_iff.mp hz
  cases l with
  | list ds =>
    cases ht
    cases q2 with
    | @lst _ ys _ hs hd =>
      refine ⟨_, _, rfl, P2.sub.seq hs, fun p o hn hc hd0 => ?_⟩
      have gn : G2 p = none := P2.sub.free hn
      have pp : Ps G2 H2 (upd G2 p (.frz o (.tup ys))) (upd H2 p (.frz o (.tup ys))) := Ps.new P2.sub (same_new hn) hn upd_same
      refine ⟨_, v, p, d, ds, z, rfl, pp.gh, ⟨o, _, upd_same, hc, hd0⟩, (q1.sm g2.gg).sm pp.gg, .tup (.inl (.inr ⟨o, upd_same⟩)) (hd.sm pp.gg), hz, fun u G' H' p' q => ?_⟩
      exact f2.ok (pp.trans p') P2 q
  | _ => cases ht⟩
end
/-! ## a if c else b, plain data or a new list -/
def mInl (m : M PyData) : M PQ := m.bind fun d => M.ret (.inl d)
def mInr (m : M (List PyData)) : M PQ := m.bind fun ds => M.ret (.inr ds)
section
variable {K : PySem.W.Frag} {E : XE} {X : Cx} {a b c e : Expr} {pos : Pos} {m : M PyData} {mc : M Bool} {ml : M (List PyData)} {ma mb : M PQ}
theorem dq_d (h : DE K E X e m) : DQ K E X e (mInl m) := ⟨fun hK => PE.imp (h.pe hK) fun σ H Q ⟨F, O, G, r, out, P, em, f⟩ =>
  tM.run P f em fun d r1 x G1 H1 P1 g1 q1 e1 f1 => by
    cases e1
    exact f1.ok (Ps.refl P1.sub) P1 q1⟩
theorem dq_if (hc : DT K E X c mc) (ha : DQ K E X a ma) (hb : DQ K E X b mb) : DQ K E X (.IfExp c a b pos) (mIf mc ma mb) := ⟨fun hK => PE.imp (pe_ifExp (hc.pt hK) (ha.pe hK) (hb.pe hK)) fun σ H Q ⟨F, O, G, r, out, P, em, f⟩ => by
  refine tM.run P f em fun d r1 x G1 H1 P1 g1 q1 e1 f1 => ?_
  cases q1
  cases d with
  | true => exact iteT ⟨F, O, G1, r1, out, P1, e1, f1⟩
  | false => exact iteF ⟨F, O, G1, r1, out, P1, e1, f1⟩⟩
end
end DL
namespace DL
open PySem PySem.Spec PyProof.Rows L2 Lk
def c_JOINING_WORDS : PyData := .tuple [.str "and", .str "or", .str "odd"]
def c_LONE_COMMANDS : PyData := .tuple [.str "undo", .str "show", .str "answer", .str "reasons", .str "missing", .str "asks", .str "count"]
def c_OTHER_WORDS : PyData := .tuple [.str "yes", .str "no", .str "is", .str "tree", .str "rules", .str "card", .str "table", .str "not"]
def c_PLAIN_WORDS : PyData := .tuple [.str "say", .str "tree"]
def v_is_integer : SM := (sRet (mAndV (mIsi "int" (mV 0)) (mNotV (mIsi "bool" (mV 0)))))
def g_is_integer : List PyData → Option PyData := runD ["value"] 1 v_is_integer
theorem r_is_integer (x0 : PyData) : g_is_integer [x0] = outD (v_is_integer [.pl x0]) := rfl
def v_is_integer_below : SM := (sRet (mAndV (mCall g_is_integer (mCons (mV 0) mNil)) (mChain leM ltM (M.ret (.int 0)) (mV 0) (mV 1))))
def g_is_integer_below : List PyData → Option PyData := runD ["value", "limit"] 2 v_is_integer_below
theorem r_is_integer_below (x0 : PyData) (x1 : PyData) : g_is_integer_below [x0, x1] = outD (v_is_integer_below [.pl x0, .pl x1]) := rfl
def v_are_ascending_below : SM := (sSeq (sSet 2 (M.ret (.int 0)))
  (sSeq (sFor (mSeq (mV 0)) (gN 3)
    (sSeq (sIf (mOr (mNotT (mTru (mCall g_is_integer_below (mCons (mV 3) (mCons (mV 1) mNil))))) (mOpT ltM (mV 3) (mV 2)))
    (sRet (M.ret (.bool false)))
    sNil)
  (sSet 2 (mOp2 addM (mV 3) (M.ret (.int 1))))))
  (sRet (M.ret (.bool true)))))
def g_are_ascending_below : List PyData → Option PyData := runD ["values", "limit", "least", "value"] 2 v_are_ascending_below
theorem r_are_ascending_below (x0 : PyData) (x1 : PyData) : g_are_ascending_below [x0, x1] = outD (v_are_ascending_below [.pl x0, .pl x1, .un, .un]) := rfl
def v_ascending_numbers : SM := (sRet (mNew (mCallF sortedM (mCons (mNew (mLc [1] (mSeq (mV 0)) (gN 1) mYes (mCall intM (mCons (mV 1) mNil)))) mNil))))
def g_ascending_numbers : List PyData → Option PyData := runD ["numbers", "number"] 1 v_ascending_numbers
theorem r_ascending_numbers (x0 : PyData) : g_ascending_numbers [x0] = outD (v_ascending_numbers [.pl x0, .un]) := rfl
end DL
namespace DL
open PySem PySem.Spec PyProof.Rows L2 Lk
def v_is_sizes : SM := (sSeq (sIf (mOr (mNotT (mTru (mIsi "list" (mV 0)))) (mOpT gtM (mCall lenM (mCons (mV 0) mNil)) (M.ret (.int 24))))
    (sRet (M.ret (.bool false)))
    sNil)
  (sRet (mCall allM (mCons (mNew (mLc [1] (mSeq (mV 0)) (gN 1) mYes (mAndV (mCall g_is_integer (mCons (mV 1) mNil)) (mChain leM leM (M.ret (.int 2)) (mV 1) (M.ret (.int 6)))))) mNil))))
def g_is_sizes : List PyData → Option PyData := runD ["value", "size"] 1 v_is_sizes
theorem r_is_sizes (x0 : PyData) : g_is_sizes [x0] = outD (v_is_sizes [.pl x0, .un]) := rfl
def v_check_sizes : SM := (sIf (mNotT (mTru (mCall g_is_sizes (mCons (mV 0) mNil))))
    sNo
    sNil)
def g_check_sizes : List PyData → Option PyData := runD ["sizes"] 1 v_check_sizes
theorem r_check_sizes (x0 : PyData) : g_check_sizes [x0] = outD (v_check_sizes [.pl x0]) := rfl
def v_check_field : SM := (sIf (mNotT (mTru (mCall g_is_integer_below (mCons (mV 1) (mCons (mCall lenM (mCons (mV 0) mNil)) mNil)))))
    sNo
    sNil)
def g_check_field : List PyData → Option PyData := runD ["sizes", "field"] 2 v_check_field
theorem r_check_field (x0 : PyData) (x1 : PyData) : g_check_field [x0, x1] = outD (v_check_field [.pl x0, .pl x1]) := rfl
def v_number_of_cases : SM := (sSeq (sSet 1 (M.ret (.int 1)))
  (sSeq (sFor (mSeq (mV 0)) (gN 2)
    (sSet 1 (mOp2 mulM (mV 1) (mV 2))))
  (sRet (mV 1))))
def g_number_of_cases : List PyData → Option PyData := runD ["sizes", "number", "size"] 1 v_number_of_cases
theorem r_number_of_cases (x0 : PyData) : g_number_of_cases [x0] = outD (v_number_of_cases [.pl x0, .un, .un]) := rfl
def v_is_small_sheet : SM := (sRet (mOp2 leM (mCall g_number_of_cases (mCons (mV 0) mNil)) (M.ret (.int 1024))))
def g_is_small_sheet : List PyData → Option PyData := runD ["sizes"] 1 v_is_small_sheet
theorem r_is_small_sheet (x0 : PyData) : g_is_small_sheet [x0] = outD (v_is_small_sheet [.pl x0]) := rfl
def v_check_small : SM := (sIf (mNotT (mTru (mCall g_is_small_sheet (mCons (mV 0) mNil))))
    sNo
    sNil)
def g_check_small : List PyData → Option PyData := runD ["sizes"] 1 v_check_small
theorem r_check_small (x0 : PyData) : g_check_small [x0] = outD (v_check_small [.pl x0]) := rfl
def v_place_of_case : SM := (sSeq (sSet 2 (M.ret (.int 0)))
  (sSeq (sFor (mRng1 (mCons (mCall lenM (mCons (mV 0) mNil)) mNil)) (gN 3)
    (sSet 2 (mOp2 addM (mOp2 mulM (mV 2) (mOp2 ixM (mV 0) (mV 3))) (mOp2 ixM (mV 1) (mV 3)))))
  (sRet (mV 2))))
def g_place_of_case : List PyData → Option PyData := runD ["sizes", "case", "place", "at"] 2 v_place_of_case
theorem r_place_of_case (x0 : PyData) (x1 : PyData) : g_place_of_case [x0, x1] = outD (v_place_of_case [.pl x0, .pl x1, .un, .un]) := rfl
def v_list_completing : SM := (sSeq (sSet 2 (mNew (mLst (mCons (mNew (mLst mNil)) mNil))))
  (sSeq (sFor (mRng1 (mCons (mCall lenM (mCons (mV 0) mNil)) mNil)) (gN 3)
    (sSeq (sSet 4 (mIf (mOpT isM (mOp2 ixM (mV 1) (mV 3)) (M.ret .none)) (mNew (mLRng1 (mOp2 ixM (mV 0) (mV 3)))) (mNew (mLst (mCons (mOp2 ixM (mV 1) (mV 3)) mNil)))))
  (sSet 2 (mNew (mLc2 [5, 6] [6] (mSeq (mV 2)) (gN 5) mYes (mSeq (mV 4)) (gN 6) mYes (mNew (mLst (mStar (mV 5) (mCons (mV 6) mNil)))))))))
  (sRet (mV 2))))
def g_list_completing : List PyData → Option PyData := runD ["sizes", "half", "cases", "at", "choices", "begun", "value"] 2 v_list_completing
theorem r_list_completing (x0 : PyData) (x1 : PyData) : g_list_completing [x0, x1] = outD (v_list_completing [.pl x0, .pl x1, .un, .un, .un, .un, .un]) := rfl
def v_count_cases : SM := (sSeq (sExpr (mCall g_check_sizes (mCons (mV 0) mNil)))
  (sRet (mCall g_number_of_cases (mCons (mV 0) mNil))))
def g_count_cases : List PyData → Option PyData := runD ["sizes"] 1 v_count_cases
theorem r_count_cases (x0 : PyData) : g_count_cases [x0] = outD (v_count_cases [.pl x0]) := rfl
def v_is_small : SM := (sSeq (sExpr (mCall g_check_sizes (mCons (mV 0) mNil)))
  (sRet (mCall g_is_small_sheet (mCons (mV 0) mNil))))
def g_is_small : List PyData → Option PyData := runD ["sizes"] 1 v_is_small
theorem r_is_small (x0 : PyData) : g_is_small [x0] = outD (v_is_small [.pl x0]) := rfl
def v_is_half_case : SM := (sSeq (sIf (mOr (mNotT (mTru (mIsi "list" (mV 1)))) (mOpT neM (mCall lenM (mCons (mV 1) mNil)) (mCall lenM (mCons (mV 0) mNil))))
    (sRet (M.ret (.bool false)))
    sNil)
  (sRet (mCall allM (mCons (mNew (mLc [2] (mRng1 (mCons (mCall lenM (mCons (mV 0) mNil)) mNil)) (gN 2) mYes (mOrV (mOp2 isM (mOp2 ixM (mV 1) (mV 2)) (M.ret .none)) (mCall g_is_integer_below (mCons (mOp2 ixM (mV 1) (mV 2)) (mCons (mOp2 ixM (mV 0) (mV 2)) mNil)))))) mNil))))
def g_is_half_case : List PyData → Option PyData := runD ["sizes", "value", "at"] 2 v_is_half_case
theorem r_is_half_case (x0 : PyData) (x1 : PyData) : g_is_half_case [x0, x1] = outD (v_is_half_case [.pl x0, .pl x1, .un]) := rfl
def v_is_case : SM := (sRet (mAndV (mCall g_is_half_case (mCons (mV 0) (mCons (mV 1) mNil))) (mOp2 notInM (M.ret .none) (mV 1))))
def g_is_case : List PyData → Option PyData := runD ["sizes", "value"] 2 v_is_case
theorem r_is_case (x0 : PyData) (x1 : PyData) : g_is_case [x0, x1] = outD (v_is_case [.pl x0, .pl x1]) := rfl
def v_check_case : SM := (sIf (mNotT (mTru (mCall g_is_case (mCons (mV 0) (mCons (mV 1) mNil)))))
    sNo
    sNil)
def g_check_case : List PyData → Option PyData := runD ["sizes", "case"] 2 v_check_case
theorem r_check_case (x0 : PyData) (x1 : PyData) : g_check_case [x0, x1] = outD (v_check_case [.pl x0, .pl x1]) := rfl
def v_check_index : SM := (sIf (mNotT (mTru (mCall g_is_integer_below (mCons (mV 0) (mCons (mV 1) mNil)))))
    sNo
    sNil)
def g_check_index : List PyData → Option PyData := runD ["index", "count"] 2 v_check_index
theorem r_check_index (x0 : PyData) (x1 : PyData) : g_check_index [x0, x1] = outD (v_check_index [.pl x0, .pl x1]) := rfl
def v_case_of_place : SM := (sSeq (sOwn 2 (mRep (mLst (mCons (M.ret (.int 0)) mNil)) (mCall lenM (mCons (mV 0) mNil))))
  (sSeq (sSet 3 (mV 1))
  (sSeq (sFor (mRevR (mCall lenM (mCons (mV 0) mNil))) (gN 4)
    (sSeq (sPutIx 2 (mV 4) (mOp2 modM (mV 3) (mOp2 ixM (mV 0) (mV 4))))
  (sSet 3 (mOp2 divM (mV 3) (mOp2 ixM (mV 0) (mV 4))))))
  (sFrz 2 (sRet (mV 2))))))
def g_case_of_place : List PyData → Option PyData := runD ["sizes", "place", "case", "rest", "at"] 2 v_case_of_place
theorem r_case_of_place (x0 : PyData) (x1 : PyData) : g_case_of_place [x0, x1] = outD (v_case_of_place [.pl x0, .pl x1, .un, .un, .un]) := rfl
def v_nth_case : SM := (sSeq (sExpr (mCall g_check_sizes (mCons (mV 0) mNil)))
  (sSeq (sExpr (mCall g_check_index (mCons (mV 1) (mCons (mCall g_number_of_cases (mCons (mV 0) mNil)) mNil))))
  (sRet (mCall g_case_of_place (mCons (mV 0) (mCons (mV 1) mNil))))))
def g_nth_case : List PyData → Option PyData := runD ["sizes", "index"] 2 v_nth_case
theorem r_nth_case (x0 : PyData) (x1 : PyData) : g_nth_case [x0, x1] = outD (v_nth_case [.pl x0, .pl x1]) := rfl
def v_case_index : SM := (sSeq (sExpr (mCall g_check_sizes (mCons (mV 0) mNil)))
  (sSeq (sExpr (mCall g_check_case (mCons (mV 0) (mCons (mV 1) mNil))))
  (sRet (mCall g_place_of_case (mCons (mV 0) (mCons (mV 1) mNil))))))
def g_case_index : List PyData → Option PyData := runD ["sizes", "case"] 2 v_case_index
theorem r_case_index (x0 : PyData) (x1 : PyData) : g_case_index [x0, x1] = outD (v_case_index [.pl x0, .pl x1]) := rfl
def v_check_half : SM := (sIf (mNotT (mTru (mCall g_is_half_case (mCons (mV 0) (mCons (mV 1) mNil)))))
    sNo
    sNil)
def g_check_half : List PyData → Option PyData := runD ["sizes", "half"] 2 v_check_half
theorem r_check_half (x0 : PyData) (x1 : PyData) : g_check_half [x0, x1] = outD (v_check_half [.pl x0, .pl x1]) := rfl
def v_unlike_fields : SM := (sRet (mNew (mLc [2] (mRng1 (mCons (mCall lenM (mCons (mV 0) mNil)) mNil)) (gN 2) (mOpT neM (mOp2 ixM (mV 0) (mV 2)) (mOp2 ixM (mV 1) (mV 2))) (mV 2))))
def g_unlike_fields : List PyData → Option PyData := runD ["case", "second_case", "at"] 2 v_unlike_fields
theorem r_unlike_fields (x0 : PyData) (x1 : PyData) : g_unlike_fields [x0, x1] = outD (v_unlike_fields [.pl x0, .pl x1, .un]) := rfl
def v_completing : SM := (sSeq (sExpr (mCall g_check_sizes (mCons (mV 0) mNil)))
  (sSeq (sExpr (mCall g_check_half (mCons (mV 0) (mCons (mV 1) mNil))))
  (sSeq (sExpr (mCall g_check_small (mCons (mV 0) mNil)))
  (sRet (mCall g_list_completing (mCons (mV 0) (mCons (mV 1) mNil)))))))
def g_completing : List PyData → Option PyData := runD ["sizes", "half"] 2 v_completing
theorem r_completing (x0 : PyData) (x1 : PyData) : g_completing [x0, x1] = outD (v_completing [.pl x0, .pl x1]) := rfl
def v_differing : SM := (sSeq (sExpr (mCall g_check_sizes (mCons (mV 0) mNil)))
  (sSeq (sExpr (mCall g_check_case (mCons (mV 0) (mCons (mV 1) mNil))))
  (sSeq (sExpr (mCall g_check_case (mCons (mV 0) (mCons (mV 2) mNil))))
  (sRet (mCall g_unlike_fields (mCons (mV 1) (mCons (mV 2) mNil)))))))
def g_differing : List PyData → Option PyData := runD ["sizes", "case", "second_case"] 3 v_differing
theorem r_differing (x0 : PyData) (x1 : PyData) (x2 : PyData) : g_differing [x0, x1, x2] = outD (v_differing [.pl x0, .pl x1, .pl x2]) := rfl
def v_unknown_fields : SM := (sRet (mNew (mLc [1] (mRng1 (mCons (mCall lenM (mCons (mV 0) mNil)) mNil)) (gN 1) (mOpT isM (mOp2 ixM (mV 0) (mV 1)) (M.ret .none)) (mV 1))))
def g_unknown_fields : List PyData → Option PyData := runD ["half", "field"] 1 v_unknown_fields
theorem r_unknown_fields (x0 : PyData) : g_unknown_fields [x0] = outD (v_unknown_fields [.pl x0, .un]) := rfl
def v_check_fields : SM := (sIf (mOr (mNotT (mTru (mIsi "list" (mV 1)))) (mNotT (mTru (mCall g_are_ascending_below (mCons (mV 1) (mCons (mCall lenM (mCons (mV 0) mNil)) mNil))))))
    sNo
    sNil)
def g_check_fields : List PyData → Option PyData := runD ["sizes", "fields"] 2 v_check_fields
theorem r_check_fields (x0 : PyData) (x1 : PyData) : g_check_fields [x0, x1] = outD (v_check_fields [.pl x0, .pl x1]) := rfl
def v_p_is_order : SM := (sSeq (sIf (mOr (mNotT (mTru (mIsi "list" (mV 1)))) (mOpT neM (mCall lenM (mCons (mV 1) mNil)) (mCall lenM (mCons (mV 0) mNil))))
    (sRet (M.ret (.bool false)))
    sNil)
  (sSeq (sIf (mNotT (mTru (mCall allM (mCons (mNew (mLc [2] (mSeq (mV 1)) (gN 2) mYes (mCall g_is_integer_below (mCons (mV 2) (mCons (mCall lenM (mCons (mV 0) mNil)) mNil))))) mNil))))
    (sRet (M.ret (.bool false)))
    sNil)
  (sRet (mCall allM (mCons (mNew (mLc [2] (mRng1 (mCons (mCall lenM (mCons (mV 0) mNil)) mNil)) (gN 2) mYes (mOp2 inM (mV 2) (mV 1)))) mNil)))))
def g_p_is_order : List PyData → Option PyData := runD ["sizes", "value", "field"] 2 v_p_is_order
theorem r_p_is_order (x0 : PyData) (x1 : PyData) : g_p_is_order [x0, x1] = outD (v_p_is_order [.pl x0, .pl x1, .un]) := rfl
def v_check_order : SM := (sIf (mNotT (mTru (mCall g_p_is_order (mCons (mV 0) (mCons (mV 1) mNil)))))
    sNo
    sNil)
def g_check_order : List PyData → Option PyData := runD ["sizes", "order"] 2 v_check_order
theorem r_check_order (x0 : PyData) (x1 : PyData) : g_check_order [x0, x1] = outD (v_check_order [.pl x0, .pl x1]) := rfl
end DL
namespace DL
open PySem PySem.Spec PyProof.Rows L2 Lk
def v_inner_forms : SM := (sSeq (sIf (mOpT eqM (mOp2 ixM (mV 0) (M.ret (.int 0))) (M.ret (.str "tree")))
    (sRet (mOp2 ixM (mV 0) (M.ret (.int 2))))
    sNil)
  (sSeq (sIf (mOpT eqM (mOp2 ixM (mV 0) (M.ret (.int 0))) (M.ret (.str "not")))
    (sRet (mTup (mCons (mOp2 ixM (mV 0) (M.ret (.int 1))) mNil)))
    sNil)
  (sSeq (sIf (mOpT inM (mOp2 ixM (mV 0) (M.ret (.int 0))) (M.ret c_JOINING_WORDS))
    (sRet (mOp2 ixM (mV 0) (M.ret (.int 1))))
    sNil)
  (sRet (mTup mNil)))))
def g_inner_forms : List PyData → Option PyData := runD ["form"] 1 v_inner_forms
theorem r_inner_forms (x0 : PyData) : g_inner_forms [x0] = outD (v_inner_forms [.pl x0]) := rfl
def v_p_is_tuple_of : SM := (sRet (mAndV (mIsi "tuple" (mV 0)) (mOp2 eqM (mCall lenM (mCons (mV 0) mNil)) (mV 1))))
def g_p_is_tuple_of : List PyData → Option PyData := runD ["value", "length"] 2 v_p_is_tuple_of
theorem r_p_is_tuple_of (x0 : PyData) (x1 : PyData) : g_p_is_tuple_of [x0, x1] = outD (v_p_is_tuple_of [.pl x0, .pl x1]) := rfl
def v_p_is_results : SM := (sSeq (sIf (mOr (mNotT (mTru (mCall g_is_small_sheet (mCons (mV 0) mNil)))) (mNotT (mTru (mCall g_p_is_tuple_of (mCons (mV 1) (mCons (mCall g_number_of_cases (mCons (mV 0) mNil)) mNil))))))
    (sRet (M.ret (.bool false)))
    sNil)
  (sRet (mCall allM (mCons (mNew (mLc [2] (mSeq (mV 1)) (gN 2) mYes (mIsi "bool" (mV 2)))) mNil))))
def g_p_is_results : List PyData → Option PyData := runD ["sizes", "value", "result"] 2 v_p_is_results
theorem r_p_is_results (x0 : PyData) (x1 : PyData) : g_p_is_results [x0, x1] = outD (v_p_is_results [.pl x0, .pl x1, .un]) := rfl
def v_p_is_short_form_outside : SM := (sSeq (sIf (mOpT eqM (mV 1) (M.ret (.str "say")))
    (sRet (mIsi "bool" (mV 2)))
    sNil)
  (sSeq (sIf (mOpT eqM (mV 1) (M.ret (.str "table")))
    (sRet (mCall g_p_is_results (mCons (mV 0) (mCons (mV 2) mNil))))
    sNil)
  (sSeq (sIf (mOpT eqM (mV 1) (M.ret (.str "not")))
    (sRet (M.ret (.bool true)))
    sNil)
  (sRet (mAndV (mOp2 inM (mV 1) (M.ret c_JOINING_WORDS)) (mIsi "tuple" (mV 2)))))))
def g_p_is_short_form_outside : List PyData → Option PyData := runD ["sizes", "word", "part"] 3 v_p_is_short_form_outside
theorem r_p_is_short_form_outside (x0 : PyData) (x1 : PyData) (x2 : PyData) : g_p_is_short_form_outside [x0, x1, x2] = outD (v_p_is_short_form_outside [.pl x0, .pl x1, .pl x2]) := rfl
def v_p_is_test : SM := (sSeq (sIf (mOr (mNotT (mTru (mCall g_is_integer_below (mCons (mV 1) (mCons (mCall lenM (mCons (mV 0) mNil)) mNil))))) (mNotT (mTru (mIsi "tuple" (mV 2)))))
    (sRet (M.ret (.bool false)))
    sNil)
  (sRet (mCall g_are_ascending_below (mCons (mV 2) (mCons (mOp2 ixM (mV 0) (mV 1)) mNil)))))
def g_p_is_test : List PyData → Option PyData := runD ["sizes", "field", "values"] 3 v_p_is_test
theorem r_p_is_test (x0 : PyData) (x1 : PyData) (x2 : PyData) : g_p_is_test [x0, x1, x2] = outD (v_p_is_test [.pl x0, .pl x1, .pl x2]) := rfl
def v_p_is_condition : SM := (sRet (mAndV (mCall g_p_is_tuple_of (mCons (mV 1) (mCons (M.ret (.int 2)) mNil))) (mCall g_p_is_test (mCons (mV 0) (mCons (mOp2 ixM (mV 1) (M.ret (.int 0))) (mCons (mOp2 ixM (mV 1) (M.ret (.int 1))) mNil))))))
def g_p_is_condition : List PyData → Option PyData := runD ["sizes", "value"] 2 v_p_is_condition
theorem r_p_is_condition (x0 : PyData) (x1 : PyData) : g_p_is_condition [x0, x1] = outD (v_p_is_condition [.pl x0, .pl x1]) := rfl
def v_is_conditions : SM := (sSeq (sIf (mOr (mNotT (mTru (mIsi "tuple" (mV 1)))) (mNotT (mTru (mCall allM (mCons (mNew (mLc [2] (mSeq (mV 1)) (gN 2) mYes (mCall g_p_is_condition (mCons (mV 0) (mCons (mV 2) mNil))))) mNil)))))
    (sRet (M.ret (.bool false)))
    sNil)
  (sRet (mCall g_are_ascending_below (mCons (mNew (mLc [2] (mSeq (mV 1)) (gN 2) mYes (mOp2 ixM (mV 2) (M.ret (.int 0))))) (mCons (mCall lenM (mCons (mV 0) mNil)) mNil)))))
def g_is_conditions : List PyData → Option PyData := runD ["sizes", "value", "part"] 2 v_is_conditions
theorem r_is_conditions (x0 : PyData) (x1 : PyData) : g_is_conditions [x0, x1] = outD (v_is_conditions [.pl x0, .pl x1, .un]) := rfl
def v_p_is_rule : SM := (sRet (mAndV (mCall g_p_is_tuple_of (mCons (mV 1) (mCons (M.ret (.int 2)) mNil))) (mAndV (mCall g_is_conditions (mCons (mV 0) (mCons (mOp2 ixM (mV 1) (M.ret (.int 0))) mNil))) (mIsi "bool" (mOp2 ixM (mV 1) (M.ret (.int 1)))))))
def g_p_is_rule : List PyData → Option PyData := runD ["sizes", "value"] 2 v_p_is_rule
theorem r_p_is_rule (x0 : PyData) (x1 : PyData) : g_p_is_rule [x0, x1] = outD (v_p_is_rule [.pl x0, .pl x1]) := rfl
def v_p_is_rules : SM := (sRet (mAndV (mIsi "tuple" (mV 1)) (mCall allM (mCons (mNew (mLc [2] (mSeq (mV 1)) (gN 2) mYes (mCall g_p_is_rule (mCons (mV 0) (mCons (mV 2) mNil))))) mNil))))
def g_p_is_rules : List PyData → Option PyData := runD ["sizes", "value", "part"] 2 v_p_is_rules
theorem r_p_is_rules (x0 : PyData) (x1 : PyData) : g_p_is_rules [x0, x1] = outD (v_p_is_rules [.pl x0, .pl x1, .un]) := rfl
def v_p_are_integers : SM := (sRet (mCall allM (mCons (mNew (mLc [1] (mSeq (mV 0)) (gN 1) mYes (mCall g_is_integer (mCons (mV 1) mNil)))) mNil)))
def g_p_are_integers : List PyData → Option PyData := runD ["values", "value"] 1 v_p_are_integers
theorem r_p_are_integers (x0 : PyData) : g_p_are_integers [x0] = outD (v_p_are_integers [.pl x0, .un]) := rfl
def v_p_is_weights : SM := (sSeq (sIf (mNotT (mTru (mCall g_p_is_tuple_of (mCons (mV 1) (mCons (mCall lenM (mCons (mV 0) mNil)) mNil)))))
    (sRet (M.ret (.bool false)))
    sNil)
  (sRet (mCall allM (mCons (mNew (mLc [2] (mRng1 (mCons (mCall lenM (mCons (mV 0) mNil)) mNil)) (gN 2) mYes (mAndV (mCall g_p_is_tuple_of (mCons (mOp2 ixM (mV 1) (mV 2)) (mCons (mOp2 ixM (mV 0) (mV 2)) mNil))) (mCall g_p_are_integers (mCons (mOp2 ixM (mV 1) (mV 2)) mNil))))) mNil))))
def g_p_is_weights : List PyData → Option PyData := runD ["sizes", "value", "at"] 2 v_p_is_weights
theorem r_p_is_weights (x0 : PyData) (x1 : PyData) : g_p_is_weights [x0, x1] = outD (v_p_is_weights [.pl x0, .pl x1, .un]) := rfl
def v_p_is_long_form_outside : SM := (sSeq (sIf (mOpT eqM (mV 1) (M.ret (.str "is")))
    (sRet (mCall g_p_is_test (mCons (mV 0) (mCons (mV 2) (mCons (mV 3) mNil)))))
    sNil)
  (sSeq (sIf (mOpT eqM (mV 1) (M.ret (.str "tree")))
    (sRet (mAndV (mCall g_is_integer_below (mCons (mV 2) (mCons (mCall lenM (mCons (mV 0) mNil)) mNil))) (mCall g_p_is_tuple_of (mCons (mV 3) (mCons (mOp2 ixM (mV 0) (mV 2)) mNil)))))
    sNil)
  (sSeq (sIf (mOpT eqM (mV 1) (M.ret (.str "rules")))
    (sRet (mAndV (mCall g_p_is_rules (mCons (mV 0) (mCons (mV 2) mNil))) (mIsi "bool" (mV 3))))
    sNil)
  (sRet (mAndV (mOp2 eqM (mV 1) (M.ret (.str "card"))) (mAndV (mCall g_p_is_weights (mCons (mV 0) (mCons (mV 2) mNil))) (mCall g_is_integer (mCons (mV 3) mNil))))))))
def g_p_is_long_form_outside : List PyData → Option PyData := runD ["sizes", "word", "part", "second_part"] 4 v_p_is_long_form_outside
theorem r_p_is_long_form_outside (x0 : PyData) (x1 : PyData) (x2 : PyData) (x3 : PyData) : g_p_is_long_form_outside [x0, x1, x2, x3] = outD (v_p_is_long_form_outside [.pl x0, .pl x1, .pl x2, .pl x3]) := rfl
def v_p_is_form_outside : SM := (sSeq (sIf (mOr (mNotT (mTru (mIsi "tuple" (mV 1)))) (mOr (mOpT eqM (mCall lenM (mCons (mV 1) mNil)) (M.ret (.int 0))) (mNotT (mTru (mIsi "str" (mOp2 ixM (mV 1) (M.ret (.int 0))))))))
    (sRet (M.ret (.bool false)))
    sNil)
  (sSeq (sIf (mOpT eqM (mCall lenM (mCons (mV 1) mNil)) (M.ret (.int 2)))
    (sRet (mCall g_p_is_short_form_outside (mCons (mV 0) (mCons (mOp2 ixM (mV 1) (M.ret (.int 0))) (mCons (mOp2 ixM (mV 1) (M.ret (.int 1))) mNil)))))
    sNil)
  (sRet (mAndV (mOp2 eqM (mCall lenM (mCons (mV 1) mNil)) (M.ret (.int 3))) (mCall g_p_is_long_form_outside (mCons (mV 0) (mCons (mOp2 ixM (mV 1) (M.ret (.int 0))) (mCons (mOp2 ixM (mV 1) (M.ret (.int 1))) (mCons (mOp2 ixM (mV 1) (M.ret (.int 2))) mNil)))))))))
def g_p_is_form_outside : List PyData → Option PyData := runD ["sizes", "value"] 2 v_p_is_form_outside
theorem r_p_is_form_outside (x0 : PyData) (x1 : PyData) : g_p_is_form_outside [x0, x1] = outD (v_p_is_form_outside [.pl x0, .pl x1]) := rfl
def v_has_form_shape : SM := (sSeq (sOwn 2 (mLst (mCons (mV 1) mNil)))
  (sSeq (whGo (mTruO 2)
    (sSeq (sSet 3 (mPop 2))
  (sSeq (sIf (mNotT (mTru (mCall g_p_is_form_outside (mCons (mV 0) (mCons (mV 3) mNil)))))
    (sRet (M.ret (.bool false)))
    sNil)
  (sExt 2 (mCall g_inner_forms (mCons (mV 3) mNil))))) WH)
  (sRet (M.ret (.bool true)))))
def g_has_form_shape : List PyData → Option PyData := runD ["sizes", "value", "left", "part"] 2 v_has_form_shape
theorem r_has_form_shape (x0 : PyData) (x1 : PyData) : g_has_form_shape [x0, x1] = outD (v_has_form_shape [.pl x0, .pl x1, .un, .un]) := rfl
def v_all_forms : SM := (sSeq (sOwn 1 (mLst mNil))
  (sSeq (sOwn 2 (mLst (mCons (mV 0) mNil)))
  (sSeq (whGo (mTruO 2)
    (sSeq (sSet 3 (mPop 2))
  (sSeq (sApp 1 (mV 3))
  (sExt 2 (mCall g_inner_forms (mCons (mV 3) mNil))))) WH)
  (sFrz 1 (sRet (mV 1))))))
def g_all_forms : List PyData → Option PyData := runD ["form", "found", "left", "part"] 1 v_all_forms
theorem r_all_forms (x0 : PyData) : g_all_forms [x0] = outD (v_all_forms [.pl x0, .un, .un, .un]) := rfl
def v_has_plain_words : SM := (sRet (mCall allM (mCons (mNew (mLc [1] (mSeq (mCall g_all_forms (mCons (mV 0) mNil))) (gN 1) mYes (mOp2 inM (mOp2 ixM (mV 1) (M.ret (.int 0))) (M.ret c_PLAIN_WORDS)))) mNil)))
def g_has_plain_words : List PyData → Option PyData := runD ["form", "part"] 1 v_has_plain_words
theorem r_has_plain_words (x0 : PyData) : g_has_plain_words [x0] = outD (v_has_plain_words [.pl x0, .un]) := rfl
def v_has_plain_tree_shape : SM := (sRet (mAndV (mCall g_has_form_shape (mCons (mV 0) (mCons (mV 1) mNil))) (mCall g_has_plain_words (mCons (mV 1) mNil))))
def g_has_plain_tree_shape : List PyData → Option PyData := runD ["sizes", "value"] 2 v_has_plain_tree_shape
theorem r_has_plain_tree_shape (x0 : PyData) (x1 : PyData) : g_has_plain_tree_shape [x0, x1] = outD (v_has_plain_tree_shape [.pl x0, .pl x1]) := rfl
end DL
namespace DL
open PySem PySem.Spec PyProof.Rows L2 Lk
def v_check_form : SM := (sIf (mNotT (mTru (mCall g_has_form_shape (mCons (mV 0) (mCons (mV 1) mNil)))))
    sNo
    sNil)
def g_check_form : List PyData → Option PyData := runD ["sizes", "form"] 2 v_check_form
theorem r_check_form (x0 : PyData) (x1 : PyData) : g_check_form [x0, x1] = outD (v_check_form [.pl x0, .pl x1]) := rfl
def v_check_small_form : SM := (sSeq (sExpr (mCall g_check_sizes (mCons (mV 0) mNil)))
  (sSeq (sExpr (mCall g_check_form (mCons (mV 0) (mCons (mV 1) mNil))))
  (sExpr (mCall g_check_small (mCons (mV 0) mNil)))))
def g_check_small_form : List PyData → Option PyData := runD ["sizes", "form"] 2 v_check_small_form
theorem r_check_small_form (x0 : PyData) (x1 : PyData) : g_check_small_form [x0, x1] = outD (v_check_small_form [.pl x0, .pl x1]) := rfl
def v_p_join_answers : SM := (sSeq (sIf (mOpT eqM (mV 0) (M.ret (.str "and")))
    (sRet (mOp2 notInM (M.ret (.bool false)) (mV 1)))
    sNil)
  (sSeq (sIf (mOpT eqM (mV 0) (M.ret (.str "or")))
    (sRet (mOp2 inM (M.ret (.bool true)) (mV 1)))
    sNil)
  (sRet (mOp2 eqM (mOp2 modM (mMt "list" countM (mV 1) (mCons (M.ret (.bool true)) mNil)) (M.ret (.int 2))) (M.ret (.int 1))))))
def g_p_join_answers : List PyData → Option PyData := runD ["word", "results"] 2 v_p_join_answers
theorem r_p_join_answers (x0 : PyData) (x1 : PyData) : g_p_join_answers [x0, x1] = outD (v_p_join_answers [.pl x0, .pl x1]) := rfl
def v_sum_of_weights : SM := (sRet (mCall sumM (mCons (mNew (mLc [2] (mRng1 (mCons (mCall lenM (mCons (mV 1) mNil)) mNil)) (gN 2) mYes (mOp2 ixM (mOp2 ixM (mV 0) (mV 2)) (mOp2 ixM (mV 1) (mV 2))))) mNil)))
def g_sum_of_weights : List PyData → Option PyData := runD ["weights", "case", "at"] 2 v_sum_of_weights
theorem r_sum_of_weights (x0 : PyData) (x1 : PyData) : g_sum_of_weights [x0, x1] = outD (v_sum_of_weights [.pl x0, .pl x1, .un]) := rfl
def v_fits : SM := (sRet (mCall allM (mCons (mNew (mLc [2, 3] (mSeq (mV 0)) (gTupD 2 (gConsD (gN 2) (gConsD (gN 3) gNilD))) mYes (mOp2 inM (mOp2 ixM (mV 1) (mV 2)) (mV 3)))) mNil)))
def g_fits : List PyData → Option PyData := runD ["conditions", "case", "field", "values"] 2 v_fits
theorem r_fits (x0 : PyData) (x1 : PyData) : g_fits [x0, x1] = outD (v_fits [.pl x0, .pl x1, .un, .un]) := rfl
def v_p_first_result : SM := (sSeq (sFor (mSeq (mV 0)) (gTupD 2 (gConsD (gN 3) (gConsD (gN 4) gNilD)))
    (sIf (mTru (mCall g_fits (mCons (mV 3) (mCons (mV 2) mNil))))
    (sRet (mV 4))
    sNil))
  (sRet (mV 1)))
def g_p_first_result : List PyData → Option PyData := runD ["rules", "last", "case", "conditions", "result"] 3 v_p_first_result
theorem r_p_first_result (x0 : PyData) (x1 : PyData) (x2 : PyData) : g_p_first_result [x0, x1, x2] = outD (v_p_first_result [.pl x0, .pl x1, .pl x2, .un, .un]) := rfl
def v_p_says_alone : SM := (sSeq (sIf (mOpT eqM (mOp2 ixM (mV 1) (M.ret (.int 0))) (M.ret (.str "say")))
    (sRet (mOp2 ixM (mV 1) (M.ret (.int 1))))
    sNil)
  (sSeq (sIf (mOpT eqM (mOp2 ixM (mV 1) (M.ret (.int 0))) (M.ret (.str "is")))
    (sRet (mOp2 inM (mOp2 ixM (mV 2) (mOp2 ixM (mV 1) (M.ret (.int 1)))) (mOp2 ixM (mV 1) (M.ret (.int 2)))))
    sNil)
  (sSeq (sIf (mOpT eqM (mOp2 ixM (mV 1) (M.ret (.int 0))) (M.ret (.str "rules")))
    (sRet (mCall g_p_first_result (mCons (mOp2 ixM (mV 1) (M.ret (.int 1))) (mCons (mOp2 ixM (mV 1) (M.ret (.int 2))) (mCons (mV 2) mNil)))))
    sNil)
  (sSeq (sIf (mOpT eqM (mOp2 ixM (mV 1) (M.ret (.int 0))) (M.ret (.str "card")))
    (sRet (mOp2 geM (mCall g_sum_of_weights (mCons (mOp2 ixM (mV 1) (M.ret (.int 1))) (mCons (mV 2) mNil))) (mOp2 ixM (mV 1) (M.ret (.int 2)))))
    sNil)
  (sRet (mOp2 ixM (mOp2 ixM (mV 1) (M.ret (.int 1))) (mCall g_place_of_case (mCons (mV 0) (mCons (mV 2) mNil)))))))))
def g_p_says_alone : List PyData → Option PyData := runD ["sizes", "form", "case"] 3 v_p_says_alone
theorem r_p_says_alone (x0 : PyData) (x1 : PyData) (x2 : PyData) : g_p_says_alone [x0, x1, x2] = outD (v_p_says_alone [.pl x0, .pl x1, .pl x2]) := rfl
def v_says (self : List PyData → Option PyData) : SM := (sSeq (sIf (mOpT eqM (mOp2 ixM (mV 1) (M.ret (.int 0))) (M.ret (.str "tree")))
    (sRet (mCall self (mCons (mV 0) (mCons (mOp2 ixM (mOp2 ixM (mV 1) (M.ret (.int 2))) (mOp2 ixM (mV 2) (mOp2 ixM (mV 1) (M.ret (.int 1))))) (mCons (mV 2) mNil)))))
    sNil)
  (sSeq (sIf (mOpT eqM (mOp2 ixM (mV 1) (M.ret (.int 0))) (M.ret (.str "not")))
    (sRet (mNotV (mCall self (mCons (mV 0) (mCons (mOp2 ixM (mV 1) (M.ret (.int 1))) (mCons (mV 2) mNil))))))
    sNil)
  (sSeq (sIf (mOpT inM (mOp2 ixM (mV 1) (M.ret (.int 0))) (M.ret c_JOINING_WORDS))
    (sRet (mCall g_p_join_answers (mCons (mOp2 ixM (mV 1) (M.ret (.int 0))) (mCons (mNew (mLc [3] (mSeq (mOp2 ixM (mV 1) (M.ret (.int 1)))) (gN 3) mYes (mCall self (mCons (mV 0) (mCons (mV 3) (mCons (mV 2) mNil)))))) mNil))))
    sNil)
  (sRet (mCall g_p_says_alone (mCons (mV 0) (mCons (mV 1) (mCons (mV 2) mNil))))))))
def g_says : Nat → List PyData → Option PyData
  | 0 => fun _ => none
  | n + 1 => runD ["sizes", "form", "case", "part"] 3 (v_says (g_says n))
theorem r_says {n : Nat} (x0 : PyData) (x1 : PyData) (x2 : PyData) : g_says (n + 1) [x0, x1, x2] = outD ((v_says (g_says n)) [.pl x0, .pl x1, .pl x2, .un]) := rfl
def v_answers_completing : SM := (sRet (mNew (mLc [3] (mSeq (mCall g_list_completing (mCons (mV 0) (mCons (mV 2) mNil)))) (gN 3) mYes (mCall (g_says FU) (mCons (mV 0) (mCons (mV 1) (mCons (mV 3) mNil)))))))
def g_answers_completing : List PyData → Option PyData := runD ["sizes", "form", "half", "case"] 3 v_answers_completing
theorem r_answers_completing (x0 : PyData) (x1 : PyData) (x2 : PyData) : g_answers_completing [x0, x1, x2] = outD (v_answers_completing [.pl x0, .pl x1, .pl x2, .un]) := rfl
def v_is_form : SM := (sSeq (sExpr (mCall g_check_sizes (mCons (mV 0) mNil)))
  (sRet (mCall g_has_form_shape (mCons (mV 0) (mCons (mV 1) mNil)))))
def g_is_form : List PyData → Option PyData := runD ["sizes", "value"] 2 v_is_form
theorem r_is_form (x0 : PyData) (x1 : PyData) : g_is_form [x0, x1] = outD (v_is_form [.pl x0, .pl x1]) := rfl
def v_is_plain_tree : SM := (sSeq (sExpr (mCall g_check_sizes (mCons (mV 0) mNil)))
  (sRet (mCall g_has_plain_tree_shape (mCons (mV 0) (mCons (mV 1) mNil)))))
def g_is_plain_tree : List PyData → Option PyData := runD ["sizes", "value"] 2 v_is_plain_tree
theorem r_is_plain_tree (x0 : PyData) (x1 : PyData) : g_is_plain_tree [x0, x1] = outD (v_is_plain_tree [.pl x0, .pl x1]) := rfl
def v_all_answers : SM := (sRet (mCall g_answers_completing (mCons (mV 0) (mCons (mV 1) (mCons (mNew (mRep (mLst (mCons (M.ret .none) mNil)) (mCall lenM (mCons (mV 0) mNil)))) mNil)))))
def g_all_answers : List PyData → Option PyData := runD ["sizes", "form"] 2 v_all_answers
theorem r_all_answers (x0 : PyData) (x1 : PyData) : g_all_answers [x0, x1] = outD (v_all_answers [.pl x0, .pl x1]) := rfl
def v_answer : SM := (sSeq (sExpr (mCall g_check_sizes (mCons (mV 0) mNil)))
  (sSeq (sExpr (mCall g_check_form (mCons (mV 0) (mCons (mV 1) mNil))))
  (sSeq (sExpr (mCall g_check_case (mCons (mV 0) (mCons (mV 2) mNil))))
  (sRet (mCall (g_says FU) (mCons (mV 0) (mCons (mV 1) (mCons (mV 2) mNil))))))))
def g_answer : List PyData → Option PyData := runD ["sizes", "form", "case"] 3 v_answer
theorem r_answer (x0 : PyData) (x1 : PyData) (x2 : PyData) : g_answer [x0, x1, x2] = outD (v_answer [.pl x0, .pl x1, .pl x2]) := rfl
def v_answers : SM := (sSeq (sExpr (mCall g_check_small_form (mCons (mV 0) (mCons (mV 1) mNil))))
  (sRet (mCall tupleM (mCons (mCall g_all_answers (mCons (mV 0) (mCons (mV 1) mNil))) mNil))))
def g_answers : List PyData → Option PyData := runD ["sizes", "form"] 2 v_answers
theorem r_answers (x0 : PyData) (x1 : PyData) : g_answers [x0, x1] = outD (v_answers [.pl x0, .pl x1]) := rfl
def v_measure : SM := (sSeq (sExpr (mCall g_check_sizes (mCons (mV 0) mNil)))
  (sSeq (sExpr (mCall g_check_form (mCons (mV 0) (mCons (mV 1) mNil))))
  (sSeq (sSet 2 (M.ret (.int 0)))
  (sSeq (sSet 3 (M.ret (.int 0)))
  (sSeq (sSet 4 (mNew (mLst (mCons (mV 1) mNil))))
  (sSeq (whGo (mTru (mV 4))
    (sSeq (sSet 2 (mOp2 addM (mV 2) (mCall lenM (mCons (mV 4) mNil))))
  (sSeq (sAug 3 (intG (fun a b => a + b)) (M.ret (.int 1)))
  (sSet 4 (mNew (mLc2 [5, 6] [6] (mSeq (mV 4)) (gN 5) mYes (mSeq (mCall g_inner_forms (mCons (mV 5) mNil))) (gN 6) mYes (mV 6)))))) WH)
  (sRet (mTup (mCons (mV 2) (mCons (mV 3) mNil))))))))))
def g_measure : List PyData → Option PyData := runD ["sizes", "form", "forms", "levels", "layer", "part", "inner"] 2 v_measure
theorem r_measure (x0 : PyData) (x1 : PyData) : g_measure [x0, x1] = outD (v_measure [.pl x0, .pl x1, .un, .un, .un, .un, .un]) := rfl
def v_p_own_fields : SM := (sSeq (sIf (mOpT inM (mOp2 ixM (mV 1) (M.ret (.int 0))) (mTup (mCons (M.ret (.str "is")) (mCons (M.ret (.str "tree")) mNil))))
    (sRet (mNew (mLst (mCons (mOp2 ixM (mV 1) (M.ret (.int 1))) mNil))))
    sNil)
  (sSeq (sIf (mOpT eqM (mOp2 ixM (mV 1) (M.ret (.int 0))) (M.ret (.str "rules")))
    (sRet (mNew (mLc2 [2, 3] [3] (mSeq (mOp2 ixM (mV 1) (M.ret (.int 1)))) (gN 2) mYes (mSeq (mOp2 ixM (mV 2) (M.ret (.int 0)))) (gN 3) mYes (mOp2 ixM (mV 3) (M.ret (.int 0))))))
    sNil)
  (sSeq (sIf (mOpT inM (mOp2 ixM (mV 1) (M.ret (.int 0))) (mTup (mCons (M.ret (.str "card")) (mCons (M.ret (.str "table")) mNil))))
    (sRet (mNew (mLRng1 (mCall lenM (mCons (mV 0) mNil)))))
    sNil)
  (sRet (mNew (mLst mNil))))))
def g_p_own_fields : List PyData → Option PyData := runD ["sizes", "form", "rule", "condition"] 2 v_p_own_fields
theorem r_p_own_fields (x0 : PyData) (x1 : PyData) : g_p_own_fields [x0, x1] = outD (v_p_own_fields [.pl x0, .pl x1, .un, .un]) := rfl
def v_named_fields : SM := (sSeq (sExpr (mCall g_check_sizes (mCons (mV 0) mNil)))
  (sSeq (sExpr (mCall g_check_form (mCons (mV 0) (mCons (mV 1) mNil))))
  (sSeq (sSet 2 (mNew (mLc2 [3, 4] [4] (mSeq (mCall g_all_forms (mCons (mV 1) mNil))) (gN 3) mYes (mSeq (mCall g_p_own_fields (mCons (mV 0) (mCons (mV 3) mNil)))) (gN 4) mYes (mV 4))))
  (sRet (mNew (mLc [4] (mRng1 (mCons (mCall lenM (mCons (mV 0) mNil)) mNil)) (gN 4) (mOpT inM (mV 4) (mV 2)) (mV 4)))))))
def g_named_fields : List PyData → Option PyData := runD ["sizes", "form", "named", "part", "field"] 2 v_named_fields
theorem r_named_fields (x0 : PyData) (x1 : PyData) : g_named_fields [x0, x1] = outD (v_named_fields [.pl x0, .pl x1, .un, .un, .un]) := rfl
def v_tested : SM := (sSeq (sIf (mOpT eqM (mCntT 1 (mCons (mOp2 ixM (mV 1) (M.ret (.int 0))) mNil)) (mCall lenM (mCons (mV 1) mNil))) (sRet (mOp2 ixM (mV 1) (M.ret (.int 0)))) sNil) (sRet (mTup (mCons (M.ret (.str "tree")) (mCons (mV 0) (mCons (mV 1) mNil))))))
def g_tested : List PyData → Option PyData := runD ["field", "branches"] 2 v_tested
theorem r_tested (x0 : PyData) (x1 : PyData) : g_tested [x0, x1] = outD (v_tested [.pl x0, .pl x1]) := rfl
def v_ordered_tree_completing : SM := (sSeq (sSet 3 (mNew (mLc [6] (mSeq (mCall g_answers_completing (mCons (mV 0) (mCons (mV 1) (mCons (mV 2) mNil))))) (gN 6) mYes (mTup (mCons (M.ret (.str "say")) (mCons (mV 6) mNil))))))
  (sSeq (sFor (mSeq (mNew (mRevL (mCall g_unknown_fields (mCons (mV 2) mNil))))) (gN 4)
    (sSeq (sSet 5 (mOp2 ixM (mV 0) (mV 4)))
  (sSet 3 (mNew (mLc [7] (mRng3 (mCons (M.ret (.int 0)) (mCons (mCall lenM (mCons (mV 3) mNil)) (mCons (mV 5) mNil)))) (gN 7) mYes (mTested g_tested (mV 4) (mNew (mSlice (mV 3) (mPart (mV 7)) (mPart (mOp2 addM (mV 7) (mV 5)))))))))))
  (sRet (mOp2 ixM (mV 3) (M.ret (.int 0))))))
def g_ordered_tree_completing : List PyData → Option PyData := runD ["sizes", "form", "half", "trees", "field", "size", "result", "at"] 3 v_ordered_tree_completing
theorem r_ordered_tree_completing (x0 : PyData) (x1 : PyData) (x2 : PyData) : g_ordered_tree_completing [x0, x1, x2] = outD (v_ordered_tree_completing [.pl x0, .pl x1, .pl x2, .un, .un, .un, .un, .un]) := rfl
def v_ordered_tree : SM := (sSeq (sExpr (mCall g_check_small_form (mCons (mV 0) (mCons (mV 1) mNil))))
  (sRet (mCall g_ordered_tree_completing (mCons (mV 0) (mCons (mV 1) (mCons (mNew (mRep (mLst (mCons (M.ret .none) mNil)) (mCall lenM (mCons (mV 0) mNil)))) mNil))))))
def g_ordered_tree : List PyData → Option PyData := runD ["sizes", "form"] 2 v_ordered_tree
theorem r_ordered_tree (x0 : PyData) (x1 : PyData) : g_ordered_tree [x0, x1] = outD (v_ordered_tree [.pl x0, .pl x1]) := rfl
def v_fixed : SM := (sSeq (sExpr (mCall g_check_sizes (mCons (mV 0) mNil)))
  (sSeq (sExpr (mCall g_check_form (mCons (mV 0) (mCons (mV 1) mNil))))
  (sSeq (sExpr (mCall g_check_half (mCons (mV 0) (mCons (mV 2) mNil))))
  (sSeq (sExpr (mCall g_check_small (mCons (mV 0) mNil)))
  (sRet (mCall g_ordered_tree_completing (mCons (mV 0) (mCons (mV 1) (mCons (mV 2) mNil)))))))))
def g_fixed : List PyData → Option PyData := runD ["sizes", "form", "half"] 3 v_fixed
theorem r_fixed (x0 : PyData) (x1 : PyData) (x2 : PyData) : g_fixed [x0, x1, x2] = outD (v_fixed [.pl x0, .pl x1, .pl x2]) := rfl
def v_check_answer : SM := (sIf (mNotT (mTru (mIsi "bool" (mV 0))))
    sNo
    sNil)
def g_check_answer : List PyData → Option PyData := runD ["result"] 1 v_check_answer
theorem r_check_answer (x0 : PyData) : g_check_answer [x0] = outD (v_check_answer [.pl x0]) := rfl
end DL
namespace DL
open PySem PySem.Spec PyProof.Rows L2 Lk
def v_mask_of : SM := (sSeq (sSet 2 (M.ret (.int 0)))
  (sSeq (sFor (mSeq (mV 1)) (gN 3)
    (sSet 2 (mOp2 orM (mV 2) (mOp2 shlM (M.ret (.int 1)) (mOp2 subM (mOp2 subM (mV 0) (M.ret (.int 1))) (mV 3))))))
  (sRet (mV 2))))
def g_mask_of : List PyData → Option PyData := runD ["size", "members", "mask", "member"] 2 v_mask_of
theorem r_mask_of (x0 : PyData) (x1 : PyData) : g_mask_of [x0, x1] = outD (v_mask_of [.pl x0, .pl x1, .un, .un]) := rfl
def v_members_of : SM := (sRet (mNew (mLc [2] (mRng1 (mCons (mV 0) mNil)) (gN 2) (mTru (mOp2 andM (mOp2 shrM (mV 1) (mOp2 subM (mOp2 subM (mV 0) (M.ret (.int 1))) (mV 2))) (M.ret (.int 1)))) (mV 2))))
def g_members_of : List PyData → Option PyData := runD ["size", "mask", "member"] 2 v_members_of
theorem r_members_of (x0 : PyData) (x1 : PyData) : g_members_of [x0, x1] = outD (v_members_of [.pl x0, .pl x1, .un]) := rfl
def v_least_masks : SM := (sSeq (sOwn 1 (mLst mNil))
  (sSeq (sFor (mSeq (mCall g_ascending_numbers (mCons (mV 0) mNil))) (gN 2)
    (sIf (mPeek (mNotT (mTru (mCall anyM (mCons (mNew (mLc [3] (mSeq (mV 1)) (gN 3) mYes (mOp2 eqM (mOp2 andM (mV 3) (mV 2)) (mV 3)))) mNil)))))
    (sApp 1 (mV 2))
    sNil))
  (sFrz 1 (sRet (mV 1)))))
def g_least_masks : List PyData → Option PyData := runD ["masks", "least", "mask", "part"] 1 v_least_masks
theorem r_least_masks (x0 : PyData) : g_least_masks [x0] = outD (v_least_masks [.pl x0, .un, .un, .un]) := rfl
def v_meets_each : SM := (sRet (mCall allM (mCons (mNew (mLc [2] (mSeq (mV 1)) (gN 2) mYes (mOp2 neM (mOp2 andM (mV 0) (mV 2)) (M.ret (.int 0))))) mNil)))
def g_meets_each : List PyData → Option PyData := runD ["mask", "masks", "other"] 2 v_meets_each
theorem r_meets_each (x0 : PyData) (x1 : PyData) : g_meets_each [x0, x1] = outD (v_meets_each [.pl x0, .pl x1, .un]) := rfl
def v_p_tell_holding : SM := (sSeq (sOwn 2 (mRep (mLst (mCons (M.ret (.bool false)) mNil)) (mOp2 shlM (M.ret (.int 1)) (mV 0))))
  (sSeq (sFor (mSeq (mV 1)) (gN 3)
    (sPutIx 2 (mV 3) (M.ret (.bool true))))
  (sSeq (sSet 4 (mNew (mLc [5] (mRng1 (mCons (mV 0) mNil)) (gN 5) mYes (mOp2 shlM (M.ret (.int 1)) (mV 5)))))
  (sSeq (sFor (mRng1 (mCons (mOp2 shlM (M.ret (.int 1)) (mV 0)) mNil)) (gN 3)
    (sIf (mTru (mCall anyM (mCons (mNew (mLc [6] (mSeq (mV 4)) (gN 6) (mTru (mOp2 andM (mV 3) (mV 6))) (mIxO 2 (mOp2 xorM (mV 3) (mV 6))))) mNil)))
    (sPutIx 2 (mV 3) (M.ret (.bool true)))
    sNil))
  (sFrz 2 (sRet (mV 2)))))))
def g_p_tell_holding : List PyData → Option PyData := runD ["size", "masks", "holding", "mask", "bits", "at", "bit"] 2 v_p_tell_holding
theorem r_p_tell_holding (x0 : PyData) (x1 : PyData) : g_p_tell_holding [x0, x1] = outD (v_p_tell_holding [.pl x0, .pl x1, .un, .un, .un, .un, .un]) := rfl
def v_meeting_masks : SM := (sSeq (sSet 2 (mCall g_p_tell_holding (mCons (mV 0) (mCons (mV 1) mNil))))
  (sSeq (sSet 3 (mOp2 subM (mOp2 shlM (M.ret (.int 1)) (mV 0)) (M.ret (.int 1))))
  (sRet (mNew (mLc [4] (mRng1 (mCons (mOp2 shlM (M.ret (.int 1)) (mV 0)) mNil)) (gN 4) (mNotT (mTru (mOp2 ixM (mV 2) (mOp2 subM (mV 3) (mV 4))))) (mV 4))))))
def g_meeting_masks : List PyData → Option PyData := runD ["size", "masks", "holding", "whole", "mask"] 2 v_meeting_masks
theorem r_meeting_masks (x0 : PyData) (x1 : PyData) : g_meeting_masks [x0, x1] = outD (v_meeting_masks [.pl x0, .pl x1, .un, .un, .un]) := rfl
def v_remaining_members : SM := (sSeq (sSet 3 (mOp2 subM (mOp2 shlM (M.ret (.int 1)) (mV 0)) (M.ret (.int 1))))
  (sSeq (sFor (mSeq (mV 1)) (gN 4)
    (sSeq (sSet 5 (mOp2 subM (mV 3) (mCall g_mask_of (mCons (mV 0) (mCons (mNew (mLst (mCons (mV 4) mNil))) mNil)))))
  (sIf (mTru (mCall g_meets_each (mCons (mV 5) (mCons (mV 2) mNil))))
    (sSet 3 (mV 5))
    sNil)))
  (sRet (mCall g_members_of (mCons (mV 0) (mCons (mV 3) mNil))))))
def g_remaining_members : List PyData → Option PyData := runD ["size", "order", "masks", "rest", "member", "fewer"] 3 v_remaining_members
theorem r_remaining_members (x0 : PyData) (x1 : PyData) (x2 : PyData) : g_remaining_members [x0, x1, x2] = outD (v_remaining_members [.pl x0, .pl x1, .pl x2, .un, .un, .un]) := rfl
end DL
namespace DL
open PySem PySem.Spec PyProof.Rows L2 Lk
def v_p_is_set : SM := (sRet (mAndV (mIsi "list" (mV 1)) (mCall g_are_ascending_below (mCons (mV 1) (mCons (mV 0) mNil)))))
def g_p_is_set : List PyData → Option PyData := runD ["size", "value"] 2 v_p_is_set
theorem r_p_is_set (x0 : PyData) (x1 : PyData) : g_p_is_set [x0, x1] = outD (v_p_is_set [.pl x0, .pl x1]) := rfl
def v_p_read_family : SM := (sSeq (sIf (mNotT (mTru (mCall g_is_integer_below (mCons (mV 0) (mCons (mOp2 addM (M.ret (.int 10)) (M.ret (.int 1))) mNil)))))
    sNo
    sNil)
  (sSeq (sIf (mOr (mNotT (mTru (mIsi "list" (mV 1)))) (mOr (mOpT gtM (mCall lenM (mCons (mV 1) mNil)) (M.ret (.int 300))) (mNotT (mTru (mCall allM (mCons (mNew (mLc [2] (mSeq (mV 1)) (gN 2) mYes (mCall g_p_is_set (mCons (mV 0) (mCons (mV 2) mNil))))) mNil))))))
    sNo
    sNil)
  (sRet (mNew (mLc [2] (mSeq (mV 1)) (gN 2) mYes (mCall g_mask_of (mCons (mV 0) (mCons (mV 2) mNil))))))))
def g_p_read_family : List PyData → Option PyData := runD ["size", "family", "part"] 2 v_p_read_family
theorem r_p_read_family (x0 : PyData) (x1 : PyData) : g_p_read_family [x0, x1] = outD (v_p_read_family [.pl x0, .pl x1, .un]) := rfl
def v_p_read_members : SM := (sSeq (sIf (mNotT (mTru (mCall g_p_is_set (mCons (mV 0) (mCons (mV 1) mNil)))))
    sNo
    sNil)
  (sRet (mCall g_mask_of (mCons (mV 0) (mCons (mV 1) mNil)))))
def g_p_read_members : List PyData → Option PyData := runD ["size", "members"] 2 v_p_read_members
theorem r_p_read_members (x0 : PyData) (x1 : PyData) : g_p_read_members [x0, x1] = outD (v_p_read_members [.pl x0, .pl x1]) := rfl
def v_meets_all : SM := (sSeq (sSet 3 (mCall g_p_read_family (mCons (mV 0) (mCons (mV 1) mNil))))
  (sRet (mCall g_meets_each (mCons (mCall g_p_read_members (mCons (mV 0) (mCons (mV 2) mNil))) (mCons (mV 3) mNil)))))
def g_meets_all : List PyData → Option PyData := runD ["size", "family", "members", "masks"] 3 v_meets_all
theorem r_meets_all (x0 : PyData) (x1 : PyData) (x2 : PyData) : g_meets_all [x0, x1, x2] = outD (v_meets_all [.pl x0, .pl x1, .pl x2, .un]) := rfl
def v_count_meeting : SM := (sSeq (sSet 2 (mCall g_p_read_family (mCons (mV 0) (mCons (mV 1) mNil))))
  (sRet (mCall lenM (mCons (mCall g_meeting_masks (mCons (mV 0) (mCons (mV 2) mNil))) mNil))))
def g_count_meeting : List PyData → Option PyData := runD ["size", "family", "masks"] 2 v_count_meeting
theorem r_count_meeting (x0 : PyData) (x1 : PyData) : g_count_meeting [x0, x1] = outD (v_count_meeting [.pl x0, .pl x1, .un]) := rfl
def v_in_some : SM := (sSeq (sSet 2 (mCall g_least_masks (mCons (mCall g_p_read_family (mCons (mV 0) (mCons (mV 1) mNil))) mNil)))
  (sRet (mNew (mLc [3] (mRng1 (mCons (mV 0) mNil)) (gN 3) (mTru (mCall anyM (mCons (mNew (mLc [4] (mSeq (mV 2)) (gN 4) mYes (mOp2 andM (mV 4) (mCall g_mask_of (mCons (mV 0) (mCons (mNew (mLst (mCons (mV 3) mNil))) mNil)))))) mNil))) (mV 3)))))
def g_in_some : List PyData → Option PyData := runD ["size", "family", "masks", "member", "mask"] 2 v_in_some
theorem r_in_some (x0 : PyData) (x1 : PyData) : g_in_some [x0, x1] = outD (v_in_some [.pl x0, .pl x1, .un, .un, .un]) := rfl
def v_in_all : SM := (sSeq (sSet 2 (mCall g_least_masks (mCons (mCall g_p_read_family (mCons (mV 0) (mCons (mV 1) mNil))) mNil)))
  (sRet (mNew (mLc [3] (mRng1 (mCons (mV 0) mNil)) (gN 3) (mTru (mCall allM (mCons (mNew (mLc [4] (mSeq (mV 2)) (gN 4) mYes (mOp2 andM (mV 4) (mCall g_mask_of (mCons (mV 0) (mCons (mNew (mLst (mCons (mV 3) mNil))) mNil)))))) mNil))) (mV 3)))))
def g_in_all : List PyData → Option PyData := runD ["size", "family", "masks", "member", "mask"] 2 v_in_all
theorem r_in_all (x0 : PyData) (x1 : PyData) : g_in_all [x0, x1] = outD (v_in_all [.pl x0, .pl x1, .un, .un, .un]) := rfl
def v_p_count_apart : SM := (sSeq (sSet 4 (mNew (mLc [2] (mRng1 (mCons (mOp2 addM (mV 0) (M.ret (.int 1))) mNil)) (gN 2) mYes (mNew (mLc [3] (mSeq (mV 1)) (gN 3) (mOpT eqM (mBits (mV 3)) (mV 2)) (mV 3))))))
  (sSeq (sOwn 5 (mLst (mCons (M.ret (.int 0)) mNil)))
  (sSeq (sFor (mRng2 (mCons (M.ret (.int 1)) (mCons (mOp2 shlM (M.ret (.int 1)) (mV 0)) mNil))) (gN 6)
    (sSeq (sSet 2 (mBits (mV 6)))
  (sSeq (sSet 7 (mIxO 5 (mOp2 subM (mV 6) (mOp2 shlM (M.ret (.int 1)) (mOp2 subM (mV 2) (M.ret (.int 1)))))))
  (sSeq (sFor (mSeq (mOp2 ixM (mV 4) (mV 2))) (gN 3)
    (sIf (mAnd (mOpT eqM (mOp2 andM (mV 3) (mV 6)) (mV 3)) (mOpT geM (mIxO 5 (mOp2 subM (mV 6) (mV 3))) (mV 7)))
    (sSet 7 (mOp2 addM (mIxO 5 (mOp2 subM (mV 6) (mV 3))) (M.ret (.int 1))))
    sNil))
  (sApp 5 (mV 7))))))
  (sRet (mIxO 5 (mNeg (M.ret (.int 1))))))))
def g_p_count_apart : List PyData → Option PyData := runD ["size", "masks", "length", "mask", "by_highest", "most", "room", "many"] 2 v_p_count_apart
theorem r_p_count_apart (x0 : PyData) (x1 : PyData) : g_p_count_apart [x0, x1] = outD (v_p_count_apart [.pl x0, .pl x1, .un, .un, .un, .un, .un, .un]) := rfl
def v_apart : SM := (sSeq (sSet 2 (mCall g_p_read_family (mCons (mV 0) (mCons (mV 1) mNil))))
  (sSeq (sSet 3 (mIf (mOpT inM (M.ret (.int 0)) (mV 2)) (M.ret (.int 1)) (M.ret (.int 0))))
  (sRet (mOp2 addM (mV 3) (mCall g_p_count_apart (mCons (mV 0) (mCons (mV 2) mNil)))))))
def g_apart : List PyData → Option PyData := runD ["size", "family", "masks", "alone"] 2 v_apart
theorem r_apart (x0 : PyData) (x1 : PyData) : g_apart [x0, x1] = outD (v_apart [.pl x0, .pl x1, .un, .un]) := rfl
end DL
namespace DL
open PySem PySem.Spec PyProof.Rows L2 Lk
def v_p_check_conditions : SM := (sIf (mNotT (mTru (mCall g_is_conditions (mCons (mV 0) (mCons (mV 1) mNil)))))
    sNo
    sNil)
def g_p_check_conditions : List PyData → Option PyData := runD ["sizes", "conditions"] 2 v_p_check_conditions
theorem r_p_check_conditions (x0 : PyData) (x1 : PyData) : g_p_check_conditions [x0, x1] = outD (v_p_check_conditions [.pl x0, .pl x1]) := rfl
def v_fitting : SM := (sSeq (sExpr (mCall g_check_sizes (mCons (mV 0) mNil)))
  (sSeq (sExpr (mCall g_p_check_conditions (mCons (mV 0) (mCons (mV 1) mNil))))
  (sSeq (sExpr (mCall g_check_small (mCons (mV 0) mNil)))
  (sSeq (sSet 2 (mCall g_number_of_cases (mCons (mV 0) mNil)))
  (sSeq (sFor (mSeq (mV 1)) (gTupD 2 (gConsD (gN 3) (gConsD (gN 4) gNilD)))
    (sSet 2 (mOp2 mulM (mOp2 divM (mV 2) (mOp2 ixM (mV 0) (mV 3))) (mCall lenM (mCons (mV 4) mNil)))))
  (sRet (mV 2)))))))
def g_fitting : List PyData → Option PyData := runD ["sizes", "conditions", "many", "field", "values"] 2 v_fitting
theorem r_fitting (x0 : PyData) (x1 : PyData) : g_fitting [x0, x1] = outD (v_fitting [.pl x0, .pl x1, .un, .un, .un]) := rfl
def v_p_check_rules : SM := (sSeq (sExpr (mCall g_check_sizes (mCons (mV 0) mNil)))
  (sSeq (sExpr (mCall g_check_form (mCons (mV 0) (mCons (mV 1) mNil))))
  (sIf (mOpT neM (mOp2 ixM (mV 1) (M.ret (.int 0))) (M.ret (.str "rules")))
    sNo
    sNil)))
def g_p_check_rules : List PyData → Option PyData := runD ["sizes", "rules"] 2 v_p_check_rules
theorem r_p_check_rules (x0 : PyData) (x1 : PyData) : g_p_check_rules [x0, x1] = outD (v_p_check_rules [.pl x0, .pl x1]) := rfl
def v_p_list_fitting : SM := (sSeq (sSet 2 (mCall g_list_completing (mCons (mV 0) (mCons (mNew (mRep (mLst (mCons (M.ret .none) mNil)) (mCall lenM (mCons (mV 0) mNil)))) mNil))))
  (sRet (mNew (mLc [3] (mSeq (mV 2)) (gN 3) mYes (mNew (mLc [4] (mRng1 (mCons (mCall lenM (mCons (mOp2 ixM (mV 1) (M.ret (.int 1))) mNil)) mNil)) (gN 4) (mTru (mCall g_fits (mCons (mOp2 ixM (mOp2 ixM (mOp2 ixM (mV 1) (M.ret (.int 1))) (mV 4)) (M.ret (.int 0))) (mCons (mV 3) mNil)))) (mV 4)))))))
def g_p_list_fitting : List PyData → Option PyData := runD ["sizes", "rules", "cases", "case", "index"] 2 v_p_list_fitting
theorem r_p_list_fitting (x0 : PyData) (x1 : PyData) : g_p_list_fitting [x0, x1] = outD (v_p_list_fitting [.pl x0, .pl x1, .un, .un, .un]) := rfl
def v_used_rules : SM := (sSeq (sExpr (mCall g_p_check_rules (mCons (mV 0) (mCons (mV 1) mNil))))
  (sSeq (sExpr (mCall g_check_small (mCons (mV 0) mNil)))
  (sSeq (sSet 2 (mNew (mLc [3] (mSeq (mCall g_p_list_fitting (mCons (mV 0) (mCons (mV 1) mNil)))) (gN 3) (mOpT neM (mV 3) (mNew (mLst mNil))) (mOp2 ixM (mV 3) (M.ret (.int 0))))))
  (sRet (mNew (mLc [4] (mRng1 (mCons (mCall lenM (mCons (mOp2 ixM (mV 1) (M.ret (.int 1))) mNil)) mNil)) (gN 4) (mOpT inM (mV 4) (mV 2)) (mV 4)))))))
def g_used_rules : List PyData → Option PyData := runD ["sizes", "rules", "first", "indexes", "index"] 2 v_used_rules
theorem r_used_rules (x0 : PyData) (x1 : PyData) : g_used_rules [x0, x1] = outD (v_used_rules [.pl x0, .pl x1, .un, .un, .un]) := rfl
def v_p_result_without_first : SM := (sRet (mIf (mOpT gtM (mCall lenM (mCons (mV 1) mNil)) (M.ret (.int 1))) (mOp2 ixM (mOp2 ixM (mOp2 ixM (mV 0) (M.ret (.int 1))) (mOp2 ixM (mV 1) (M.ret (.int 1)))) (M.ret (.int 1))) (mOp2 ixM (mV 0) (M.ret (.int 2)))))
def g_p_result_without_first : List PyData → Option PyData := runD ["rules", "indexes"] 2 v_p_result_without_first
theorem r_p_result_without_first (x0 : PyData) (x1 : PyData) : g_p_result_without_first [x0, x1] = outD (v_p_result_without_first [.pl x0, .pl x1]) := rfl
def v_spare_rules : SM := (sSeq (sExpr (mCall g_p_check_rules (mCons (mV 0) (mCons (mV 1) mNil))))
  (sSeq (sExpr (mCall g_check_small (mCons (mV 0) mNil)))
  (sSeq (sOwn 2 (mRep (mLst (mCons (M.ret (.bool true)) mNil)) (mCall lenM (mCons (mOp2 ixM (mV 1) (M.ret (.int 1))) mNil))))
  (sSeq (sFor (mSeq (mCall g_p_list_fitting (mCons (mV 0) (mCons (mV 1) mNil)))) (gN 3)
    (sIf (mAnd (mOpT neM (mV 3) (mNew (mLst mNil))) (mOpT neM (mOp2 ixM (mOp2 ixM (mOp2 ixM (mV 1) (M.ret (.int 1))) (mOp2 ixM (mV 3) (M.ret (.int 0)))) (M.ret (.int 1))) (mCall g_p_result_without_first (mCons (mV 1) (mCons (mV 3) mNil)))))
    (sPutIx 2 (mOp2 ixM (mV 3) (M.ret (.int 0))) (M.ret (.bool false)))
    sNil))
  (sRet (mNew (mLc [4] (mRng1 (mCons (mLenO 2) mNil)) (gN 4) (mTru (mIxO 2 (mV 4))) (mV 4))))))))
def g_spare_rules : List PyData → Option PyData := runD ["sizes", "rules", "spare", "indexes", "index"] 2 v_spare_rules
theorem r_spare_rules (x0 : PyData) (x1 : PyData) : g_spare_rules [x0, x1] = outD (v_spare_rules [.pl x0, .pl x1, .un, .un, .un]) := rfl
def v_p_check_form_and_answer : SM := (sSeq (sExpr (mCall g_check_sizes (mCons (mV 0) mNil)))
  (sSeq (sExpr (mCall g_check_form (mCons (mV 0) (mCons (mV 1) mNil))))
  (sExpr (mCall g_check_answer (mCons (mV 2) mNil)))))
def g_p_check_form_and_answer : List PyData → Option PyData := runD ["sizes", "form", "result"] 3 v_p_check_form_and_answer
theorem r_p_check_form_and_answer (x0 : PyData) (x1 : PyData) (x2 : PyData) : g_p_check_form_and_answer [x0, x1, x2] = outD (v_p_check_form_and_answer [.pl x0, .pl x1, .pl x2]) := rfl
def v_places_of_rule : SM := (sSeq (sOwn 2 (mRep (mLst (mCons (M.ret .none) mNil)) (mCall lenM (mCons (mV 0) mNil))))
  (sSeq (sFor (mSeq (mV 1)) (gTupD 2 (gConsD (gN 3) (gConsD (gN 4) gNilD)))
    (sPutIx 2 (mV 3) (mV 4)))
  (sFrz 2 (sRet (mNew (mLc [5] (mSeq (mCall g_list_completing (mCons (mV 0) (mCons (mV 2) mNil)))) (gN 5) mYes (mCall g_place_of_case (mCons (mV 0) (mCons (mV 5) mNil)))))))))
def g_places_of_rule : List PyData → Option PyData := runD ["sizes", "rule", "half", "field", "value", "case"] 2 v_places_of_rule
theorem r_places_of_rule (x0 : PyData) (x1 : PyData) : g_places_of_rule [x0, x1] = outD (v_places_of_rule [.pl x0, .pl x1, .un, .un, .un, .un]) := rfl
end DL
namespace DL
open PySem PySem.Spec PyProof.Rows L2 Lk
def v_p_common_state : SM := (sRet (mIf (mOpT eqM (mMt "list" countM (mV 0) (mCons (mOp2 ixM (mV 0) (M.ret (.int 0))) mNil)) (mCall lenM (mCons (mV 0) mNil))) (mOp2 ixM (mV 0) (M.ret (.int 0))) (M.ret .none)))
def g_p_common_state : List PyData → Option PyData := runD ["states"] 1 v_p_common_state
theorem r_p_common_state (x0 : PyData) : g_p_common_state [x0] = outD (v_p_common_state [.pl x0]) := rfl
def v_sure_answer : SM := (sRet (mCall g_p_common_state (mCons (mCall g_answers_completing (mCons (mV 0) (mCons (mV 1) (mCons (mV 2) mNil)))) mNil)))
def g_sure_answer : List PyData → Option PyData := runD ["sizes", "form", "half"] 3 v_sure_answer
theorem r_sure_answer (x0 : PyData) (x1 : PyData) (x2 : PyData) : g_sure_answer [x0, x1, x2] = outD (v_sure_answer [.pl x0, .pl x1, .pl x2]) := rfl
def v_p_check_form_and_half : SM := (sSeq (sExpr (mCall g_check_sizes (mCons (mV 0) mNil)))
  (sSeq (sExpr (mCall g_check_form (mCons (mV 0) (mCons (mV 1) mNil))))
  (sExpr (mCall g_check_half (mCons (mV 0) (mCons (mV 2) mNil))))))
def g_p_check_form_and_half : List PyData → Option PyData := runD ["sizes", "form", "half"] 3 v_p_check_form_and_half
theorem r_p_check_form_and_half (x0 : PyData) (x1 : PyData) (x2 : PyData) : g_p_check_form_and_half [x0, x1, x2] = outD (v_p_check_form_and_half [.pl x0, .pl x1, .pl x2]) := rfl
def v_sure : SM := (sSeq (sExpr (mCall g_p_check_form_and_half (mCons (mV 0) (mCons (mV 1) (mCons (mV 2) mNil)))))
  (sSeq (sExpr (mCall g_check_small (mCons (mV 0) mNil)))
  (sRet (mCall g_sure_answer (mCons (mV 0) (mCons (mV 1) (mCons (mV 2) mNil)))))))
def g_sure : List PyData → Option PyData := runD ["sizes", "form", "half"] 3 v_sure
theorem r_sure (x0 : PyData) (x1 : PyData) (x2 : PyData) : g_sure [x0, x1, x2] = outD (v_sure [.pl x0, .pl x1, .pl x2]) := rfl
def v_outlook : SM := (sSeq (sExpr (mCall g_p_check_form_and_half (mCons (mV 0) (mCons (mV 1) (mCons (mV 2) mNil)))))
  (sSeq (sExpr (mCall g_check_small (mCons (mV 0) mNil)))
  (sSeq (sSet 3 (mCall g_answers_completing (mCons (mV 0) (mCons (mV 1) (mCons (mV 2) mNil)))))
  (sRet (mTup (mCons (mMt "list" countM (mV 3) (mCons (M.ret (.bool true)) mNil)) (mCons (mMt "list" countM (mV 3) (mCons (M.ret (.bool false)) mNil)) mNil)))))))
def g_outlook : List PyData → Option PyData := runD ["sizes", "form", "half", "results"] 3 v_outlook
theorem r_outlook (x0 : PyData) (x1 : PyData) (x2 : PyData) : g_outlook [x0, x1, x2] = outD (v_outlook [.pl x0, .pl x1, .pl x2, .un]) := rfl
def v_p_sizes_of_unknown : SM := (sRet (mNew (mLc [2] (mSeq (mCall g_unknown_fields (mCons (mV 1) mNil))) (gN 2) mYes (mOp2 ixM (mV 0) (mV 2)))))
def g_p_sizes_of_unknown : List PyData → Option PyData := runD ["sizes", "half", "field"] 2 v_p_sizes_of_unknown
theorem r_p_sizes_of_unknown (x0 : PyData) (x1 : PyData) : g_p_sizes_of_unknown [x0, x1] = outD (v_p_sizes_of_unknown [.pl x0, .pl x1, .un]) := rfl
def v_p_check_askable : SM := (sSeq (sExpr (mCall g_check_small (mCons (mV 0) mNil)))
  (sSeq (sSet 2 (M.ret (.int 1)))
  (sSeq (sFor (mSeq (mCall g_p_sizes_of_unknown (mCons (mV 0) (mCons (mV 1) mNil)))) (gN 3)
    (sSet 2 (mOp2 mulM (mV 2) (mOp2 addM (mV 3) (M.ret (.int 1))))))
  (sIf (mOpT gtM (mV 2) (M.ret (.int 2500)))
    sNo
    sNil))))
def g_p_check_askable : List PyData → Option PyData := runD ["sizes", "half", "halves", "size"] 2 v_p_check_askable
theorem r_p_check_askable (x0 : PyData) (x1 : PyData) : g_p_check_askable [x0, x1] = outD (v_p_check_askable [.pl x0, .pl x1, .un, .un]) := rfl
def v_p_numbers_behind : SM := (sSeq (sSet 3 (M.ret (.int 1)))
  (sSeq (sFor (mSeq (mNew (mSlice (mV 0) (mPart (mOp2 addM (mV 2) (M.ret (.int 1)))) mNoPart))) (gN 4)
    (sSet 3 (mOp2 mulM (mV 3) (mOp2 addM (mV 4) (M.ret (.int 1))))))
  (sSeq (sSet 4 (mOp2 ixM (mV 0) (mV 2)))
  (sSeq (sIf (mOpT neM (mOp2 modM (mOp2 divM (mV 1) (mV 3)) (mOp2 addM (mV 4) (M.ret (.int 1)))) (mV 4))
    (sRet (mNew (mLst mNil)))
    sNil)
  (sRet (mNew (mLc [5] (mRng1 (mCons (mV 4) mNil)) (gN 5) mYes (mOp2 subM (mV 1) (mOp2 mulM (mOp2 subM (mV 4) (mV 5)) (mV 3))))))))))
def g_p_numbers_behind : List PyData → Option PyData := runD ["sizes", "number", "at", "step", "size", "value"] 3 v_p_numbers_behind
theorem r_p_numbers_behind (x0 : PyData) (x1 : PyData) (x2 : PyData) : g_p_numbers_behind [x0, x1, x2] = outD (v_p_numbers_behind [.pl x0, .pl x1, .pl x2, .un, .un, .un]) := rfl
def v_p_asks_by : SM := (sSeq (sSet 4 (mCall g_p_numbers_behind (mCons (mV 0) (mCons (mV 2) (mCons (mV 3) mNil)))))
  (sSeq (sIf (mOpT eqM (mV 4) (mNew (mLst mNil)))
    (sRet (M.ret .none))
    sNil)
  (sRet (mOp2 addM (M.ret (.int 1)) (mOp2 ixM (mCall g_ascending_numbers (mCons (mNew (mLc [5] (mSeq (mV 4)) (gN 5) mYes (mOp2 ixM (mV 1) (mV 5)))) mNil)) (mNeg (M.ret (.int 1))))))))
def g_p_asks_by : List PyData → Option PyData := runD ["sizes", "asks", "number", "at", "behind", "one"] 4 v_p_asks_by
theorem r_p_asks_by (x0 : PyData) (x1 : PyData) (x2 : PyData) (x3 : PyData) : g_p_asks_by [x0, x1, x2, x3] = outD (v_p_asks_by [.pl x0, .pl x1, .pl x2, .pl x3, .un, .un]) := rfl
def v_p_fewest_behind : SM := (sSeq (sSet 3 (mNew (mLc [4] (mRng1 (mCons (mCall lenM (mCons (mV 0) mNil)) mNil)) (gN 4) mYes (mCall g_p_asks_by (mCons (mV 0) (mCons (mV 1) (mCons (mV 2) (mCons (mV 4) mNil))))))))
  (sRet (mOp2 ixM (mCall g_ascending_numbers (mCons (mNew (mLc [5] (mSeq (mV 3)) (gN 5) (mOpT isNotM (mV 5) (M.ret .none)) (mV 5))) mNil)) (M.ret (.int 0)))))
def g_p_fewest_behind : List PyData → Option PyData := runD ["sizes", "asks", "number", "counts", "at", "count"] 3 v_p_fewest_behind
theorem r_p_fewest_behind (x0 : PyData) (x1 : PyData) (x2 : PyData) : g_p_fewest_behind [x0, x1, x2] = outD (v_p_fewest_behind [.pl x0, .pl x1, .pl x2, .un, .un, .un]) := rfl
def v_p_best_asks : SM := (sRet (mNew (mLc [3] (mRng1 (mCons (mCall lenM (mCons (mV 0) mNil)) mNil)) (gN 3) (mOpT eqM (mCall g_p_asks_by (mCons (mV 0) (mCons (mV 1) (mCons (mV 2) (mCons (mV 3) mNil))))) (mOp2 ixM (mV 1) (mV 2))) (mV 3))))
def g_p_best_asks : List PyData → Option PyData := runD ["sizes", "asks", "number", "at"] 3 v_p_best_asks
theorem r_p_best_asks (x0 : PyData) (x1 : PyData) (x2 : PyData) : g_p_best_asks [x0, x1, x2] = outD (v_p_best_asks [.pl x0, .pl x1, .pl x2, .un]) := rfl
def v_p_plan_from (self : List PyData → Option PyData) : SM := (sSeq (sIf (mOpT isNotM (mOp2 ixM (mV 2) (mV 4)) (M.ret .none))
    (sRet (mTup (mCons (M.ret (.str "say")) (mCons (mOp2 ixM (mV 2) (mV 4)) mNil))))
    sNil)
  (sSeq (sSet 5 (mOp2 ixM (mCall g_p_best_asks (mCons (mV 1) (mCons (mV 3) (mCons (mV 4) mNil)))) (M.ret (.int 0))))
  (sSeq (sSet 6 (mNew (mLc [7] (mSeq (mCall g_p_numbers_behind (mCons (mV 1) (mCons (mV 4) (mCons (mV 5) mNil))))) (gN 7) mYes (mCall self (mCons (mV 0) (mCons (mV 1) (mCons (mV 2) (mCons (mV 3) (mCons (mV 7) mNil)))))))))
  (sRet (mTup (mCons (M.ret (.str "tree")) (mCons (mOp2 ixM (mV 0) (mV 5)) (mCons (mCall tupleM (mCons (mV 6) mNil)) mNil))))))))
def g_p_plan_from : Nat → List PyData → Option PyData
  | 0 => fun _ => none
  | n + 1 => runD ["fields", "sizes", "states", "asks", "number", "at", "branches", "one"] 5 (v_p_plan_from (g_p_plan_from n))
theorem r_p_plan_from {n : Nat} (x0 : PyData) (x1 : PyData) (x2 : PyData) (x3 : PyData) (x4 : PyData) : g_p_plan_from (n + 1) [x0, x1, x2, x3, x4] = outD ((v_p_plan_from (g_p_plan_from n)) [.pl x0, .pl x1, .pl x2, .pl x3, .pl x4, .un, .un, .un]) := rfl
end DL
namespace DL
open PySem PySem.Spec PyProof.Rows L2 Lk
def v_are_alike : SM := (sRet (mOp2 eqM (mCall g_all_answers (mCons (mV 0) (mCons (mV 1) mNil))) (mCall g_all_answers (mCons (mV 0) (mCons (mV 2) mNil)))))
def g_are_alike : List PyData → Option PyData := runD ["sizes", "one", "other"] 3 v_are_alike
theorem r_are_alike (x0 : PyData) (x1 : PyData) (x2 : PyData) : g_are_alike [x0, x1, x2] = outD (v_are_alike [.pl x0, .pl x1, .pl x2]) := rfl
def v_is_within : SM := (sSeq (sSet 3 (mCall g_all_answers (mCons (mV 0) (mCons (mV 1) mNil))))
  (sSeq (sSet 4 (mCall g_all_answers (mCons (mV 0) (mCons (mV 2) mNil))))
  (sRet (mCall allM (mCons (mNew (mLc [5] (mRng1 (mCons (mCall lenM (mCons (mV 3) mNil)) mNil)) (gN 5) (mTru (mOp2 ixM (mV 3) (mV 5))) (mOp2 ixM (mV 4) (mV 5)))) mNil)))))
def g_is_within : List PyData → Option PyData := runD ["sizes", "one", "other", "first", "second", "place"] 3 v_is_within
theorem r_is_within (x0 : PyData) (x1 : PyData) (x2 : PyData) : g_is_within [x0, x1, x2] = outD (v_is_within [.pl x0, .pl x1, .pl x2, .un, .un, .un]) := rfl
def v_p_check_both : SM := (sSeq (sExpr (mCall g_check_sizes (mCons (mV 0) mNil)))
  (sSeq (sExpr (mCall g_check_form (mCons (mV 0) (mCons (mV 1) mNil))))
  (sSeq (sExpr (mCall g_check_form (mCons (mV 0) (mCons (mV 2) mNil))))
  (sExpr (mCall g_check_small (mCons (mV 0) mNil))))))
def g_p_check_both : List PyData → Option PyData := runD ["sizes", "one", "other"] 3 v_p_check_both
theorem r_p_check_both (x0 : PyData) (x1 : PyData) (x2 : PyData) : g_p_check_both [x0, x1, x2] = outD (v_p_check_both [.pl x0, .pl x1, .pl x2]) := rfl
def v_alike : SM := (sSeq (sExpr (mCall g_p_check_both (mCons (mV 0) (mCons (mV 1) (mCons (mV 2) mNil)))))
  (sRet (mCall g_are_alike (mCons (mV 0) (mCons (mV 1) (mCons (mV 2) mNil))))))
def g_alike : List PyData → Option PyData := runD ["sizes", "one", "other"] 3 v_alike
theorem r_alike (x0 : PyData) (x1 : PyData) (x2 : PyData) : g_alike [x0, x1, x2] = outD (v_alike [.pl x0, .pl x1, .pl x2]) := rfl
def v_within : SM := (sSeq (sExpr (mCall g_p_check_both (mCons (mV 0) (mCons (mV 1) (mCons (mV 2) mNil)))))
  (sRet (mCall g_is_within (mCons (mV 0) (mCons (mV 1) (mCons (mV 2) mNil))))))
def g_within : List PyData → Option PyData := runD ["sizes", "one", "other"] 3 v_within
theorem r_within (x0 : PyData) (x1 : PyData) (x2 : PyData) : g_within [x0, x1, x2] = outD (v_within [.pl x0, .pl x1, .pl x2]) := rfl
def v_p_parted_places : SM := (sSeq (sSet 3 (mCall g_all_answers (mCons (mV 0) (mCons (mV 1) mNil))))
  (sSeq (sSet 4 (mCall g_all_answers (mCons (mV 0) (mCons (mV 2) mNil))))
  (sRet (mNew (mLc [5] (mRng1 (mCons (mCall lenM (mCons (mV 3) mNil)) mNil)) (gN 5) (mOpT neM (mOp2 ixM (mV 3) (mV 5)) (mOp2 ixM (mV 4) (mV 5))) (mV 5))))))
def g_p_parted_places : List PyData → Option PyData := runD ["sizes", "one", "other", "first", "second", "place"] 3 v_p_parted_places
theorem r_p_parted_places (x0 : PyData) (x1 : PyData) (x2 : PyData) : g_p_parted_places [x0, x1, x2] = outD (v_p_parted_places [.pl x0, .pl x1, .pl x2, .un, .un, .un]) := rfl
def v_parting_case : SM := (sSeq (sExpr (mCall g_p_check_both (mCons (mV 0) (mCons (mV 1) (mCons (mV 2) mNil)))))
  (sSeq (sSet 3 (mCall g_p_parted_places (mCons (mV 0) (mCons (mV 1) (mCons (mV 2) mNil)))))
  (sRet (mIf (mOpT neM (mV 3) (mNew (mLst mNil))) (mCall g_case_of_place (mCons (mV 0) (mCons (mOp2 ixM (mV 3) (M.ret (.int 0))) mNil))) (M.ret .none)))))
def g_parting_case : List PyData → Option PyData := runD ["sizes", "one", "other", "places"] 3 v_parting_case
theorem r_parting_case (x0 : PyData) (x1 : PyData) (x2 : PyData) : g_parting_case [x0, x1, x2] = outD (v_parting_case [.pl x0, .pl x1, .pl x2, .un]) := rfl
def v_count_parted : SM := (sSeq (sExpr (mCall g_p_check_both (mCons (mV 0) (mCons (mV 1) (mCons (mV 2) mNil)))))
  (sRet (mCall lenM (mCons (mCall g_p_parted_places (mCons (mV 0) (mCons (mV 1) (mCons (mV 2) mNil)))) mNil))))
def g_count_parted : List PyData → Option PyData := runD ["sizes", "one", "other"] 3 v_count_parted
theorem r_count_parted (x0 : PyData) (x1 : PyData) (x2 : PyData) : g_count_parted [x0, x1, x2] = outD (v_count_parted [.pl x0, .pl x1, .pl x2]) := rfl
def v_yes_places : SM := (sSeq (sSet 2 (mCall g_all_answers (mCons (mV 0) (mCons (mV 1) mNil))))
  (sRet (mNew (mLc [3] (mRng1 (mCons (mCall lenM (mCons (mV 2) mNil)) mNil)) (gN 3) (mTru (mOp2 ixM (mV 2) (mV 3))) (mV 3)))))
def g_yes_places : List PyData → Option PyData := runD ["sizes", "form", "results", "place"] 2 v_yes_places
theorem r_yes_places (x0 : PyData) (x1 : PyData) : g_yes_places [x0, x1] = outD (v_yes_places [.pl x0, .pl x1, .un, .un]) := rfl
def v_count_yes : SM := (sSeq (sExpr (mCall g_check_small_form (mCons (mV 0) (mCons (mV 1) mNil))))
  (sRet (mCall lenM (mCons (mCall g_yes_places (mCons (mV 0) (mCons (mV 1) mNil))) mNil))))
def g_count_yes : List PyData → Option PyData := runD ["sizes", "form"] 2 v_count_yes
theorem r_count_yes (x0 : PyData) (x1 : PyData) : g_count_yes [x0, x1] = outD (v_count_yes [.pl x0, .pl x1]) := rfl
def v_nth_yes : SM := (sSeq (sExpr (mCall g_check_small_form (mCons (mV 0) (mCons (mV 1) mNil))))
  (sSeq (sSet 3 (mCall g_yes_places (mCons (mV 0) (mCons (mV 1) mNil))))
  (sSeq (sExpr (mCall g_check_index (mCons (mV 2) (mCons (mCall lenM (mCons (mV 3) mNil)) mNil))))
  (sRet (mCall g_case_of_place (mCons (mV 0) (mCons (mOp2 ixM (mV 3) (mV 2)) mNil)))))))
def g_nth_yes : List PyData → Option PyData := runD ["sizes", "form", "index", "places"] 3 v_nth_yes
theorem r_nth_yes (x0 : PyData) (x1 : PyData) (x2 : PyData) : g_nth_yes [x0, x1, x2] = outD (v_nth_yes [.pl x0, .pl x1, .pl x2, .un]) := rfl
def v_yes_index : SM := (sSeq (sExpr (mCall g_check_sizes (mCons (mV 0) mNil)))
  (sSeq (sExpr (mCall g_check_form (mCons (mV 0) (mCons (mV 1) mNil))))
  (sSeq (sExpr (mCall g_check_case (mCons (mV 0) (mCons (mV 2) mNil))))
  (sSeq (sExpr (mCall g_check_small (mCons (mV 0) mNil)))
  (sSeq (sIf (mNotT (mTru (mCall (g_says FU) (mCons (mV 0) (mCons (mV 1) (mCons (mV 2) mNil))))))
    sNo
    sNil)
  (sRet (mMt "list" indexM (mCall g_yes_places (mCons (mV 0) (mCons (mV 1) mNil))) (mCons (mCall g_place_of_case (mCons (mV 0) (mCons (mV 2) mNil))) mNil))))))))
def g_yes_index : List PyData → Option PyData := runD ["sizes", "form", "case"] 3 v_yes_index
theorem r_yes_index (x0 : PyData) (x1 : PyData) (x2 : PyData) : g_yes_index [x0, x1, x2] = outD (v_yes_index [.pl x0, .pl x1, .pl x2]) := rfl
def v_p_falls : SM := (sRet (mAndV (mOp2 inM (M.ret (.bool true)) (mV 0)) (mOp2 inM (M.ret (.bool false)) (mNew (mSlice (mV 0) (mPart (mMt "list" indexM (mV 0) (mCons (M.ret (.bool true)) mNil))) mNoPart)))))
def g_p_falls : List PyData → Option PyData := runD ["line"] 1 v_p_falls
theorem r_p_falls (x0 : PyData) : g_p_falls [x0] = outD (v_p_falls [.pl x0]) := rfl
end DL
namespace DL
open PySem PySem.Spec PyProof.Rows L2 Lk
def v_p_check_form_and_case : SM := (sSeq (sExpr (mCall g_check_sizes (mCons (mV 0) mNil)))
  (sSeq (sExpr (mCall g_check_form (mCons (mV 0) (mCons (mV 1) mNil))))
  (sExpr (mCall g_check_case (mCons (mV 0) (mCons (mV 2) mNil))))))
def g_p_check_form_and_case : List PyData → Option PyData := runD ["sizes", "form", "case"] 3 v_p_check_form_and_case
theorem r_p_check_form_and_case (x0 : PyData) (x1 : PyData) (x2 : PyData) : g_p_check_form_and_case [x0, x1, x2] = outD (v_p_check_form_and_case [.pl x0, .pl x1, .pl x2]) := rfl
def v_p_least_turned : SM := (sSeq (sSet 4 (mCall (g_says FU) (mCons (mV 0) (mCons (mV 1) (mCons (mV 2) mNil)))))
  (sSeq (sSet 5 (mNew (mLc [7] (mRng1 (mCons (mCall lenM (mCons (mV 0) mNil)) mNil)) (gN 7) mYes (mIf (mOpT inM (mV 7) (mV 3)) (M.ret .none) (mOp2 ixM (mV 2) (mV 7))))))
  (sSeq (sFor (mSeq (mCall g_list_completing (mCons (mV 0) (mCons (mV 5) mNil)))) (gN 6)
    (sIf (mOpT neM (mCall (g_says FU) (mCons (mV 0) (mCons (mV 1) (mCons (mV 6) mNil)))) (mV 4))
    (sRet (mV 6))
    sNil))
  (sRet (M.ret .none)))))
def g_p_least_turned : List PyData → Option PyData := runD ["sizes", "form", "case", "free", "result", "half", "other", "at"] 4 v_p_least_turned
theorem r_p_least_turned (x0 : PyData) (x1 : PyData) (x2 : PyData) (x3 : PyData) : g_p_least_turned [x0, x1, x2, x3] = outD (v_p_least_turned [.pl x0, .pl x1, .pl x2, .pl x3, .un, .un, .un, .un]) := rfl
def v_can_turn : SM := (sSeq (sExpr (mCall g_p_check_form_and_case (mCons (mV 0) (mCons (mV 1) (mCons (mV 2) mNil)))))
  (sSeq (sExpr (mCall g_check_fields (mCons (mV 0) (mCons (mV 3) mNil))))
  (sSeq (sExpr (mCall g_check_small (mCons (mV 0) mNil)))
  (sRet (mOp2 isNotM (mCall g_p_least_turned (mCons (mV 0) (mCons (mV 1) (mCons (mV 2) (mCons (mV 3) mNil))))) (M.ret .none))))))
def g_can_turn : List PyData → Option PyData := runD ["sizes", "form", "case", "fields"] 4 v_can_turn
theorem r_can_turn (x0 : PyData) (x1 : PyData) (x2 : PyData) (x3 : PyData) : g_can_turn [x0, x1, x2, x3] = outD (v_can_turn [.pl x0, .pl x1, .pl x2, .pl x3]) := rfl
def v_turned_case : SM := (sSeq (sExpr (mCall g_p_check_form_and_case (mCons (mV 0) (mCons (mV 1) (mCons (mV 2) mNil)))))
  (sSeq (sExpr (mCall g_check_fields (mCons (mV 0) (mCons (mV 3) mNil))))
  (sSeq (sExpr (mCall g_check_small (mCons (mV 0) mNil)))
  (sRet (mCall g_p_least_turned (mCons (mV 0) (mCons (mV 1) (mCons (mV 2) (mCons (mV 3) mNil)))))))))
def g_turned_case : List PyData → Option PyData := runD ["sizes", "form", "case", "fields"] 4 v_turned_case
theorem r_turned_case (x0 : PyData) (x1 : PyData) (x2 : PyData) (x3 : PyData) : g_turned_case [x0, x1, x2, x3] = outD (v_turned_case [.pl x0, .pl x1, .pl x2, .pl x3]) := rfl
def v_p_free_without : SM := (sRet (mNew (mLc [3] (mRng1 (mCons (mCall lenM (mCons (mV 0) mNil)) mNil)) (gN 3) (mOr (mOpT eqM (mV 3) (mV 2)) (mOpT notInM (mV 3) (mV 1))) (mV 3))))
def g_p_free_without : List PyData → Option PyData := runD ["sizes", "fields", "field", "other"] 3 v_p_free_without
theorem r_p_free_without (x0 : PyData) (x1 : PyData) (x2 : PyData) : g_p_free_without [x0, x1, x2] = outD (v_p_free_without [.pl x0, .pl x1, .pl x2, .un]) := rfl
def v_p_is_turned : SM := (sSeq (sIf (mOr (mNotT (mTru (mCall g_is_case (mCons (mV 0) (mCons (mV 4) mNil))))) (mOpT eqM (mCall (g_says FU) (mCons (mV 0) (mCons (mV 1) (mCons (mV 4) mNil)))) (mCall (g_says FU) (mCons (mV 0) (mCons (mV 1) (mCons (mV 2) mNil))))))
    (sRet (M.ret (.bool false)))
    sNil)
  (sRet (mCall allM (mCons (mNew (mLc [5] (mSeq (mCall g_unlike_fields (mCons (mV 2) (mCons (mV 4) mNil)))) (gN 5) mYes (mOp2 inM (mV 5) (mV 3)))) mNil))))
def g_p_is_turned : List PyData → Option PyData := runD ["sizes", "form", "case", "free", "value", "field"] 5 v_p_is_turned
theorem r_p_is_turned (x0 : PyData) (x1 : PyData) (x2 : PyData) (x3 : PyData) (x4 : PyData) : g_p_is_turned [x0, x1, x2, x3, x4] = outD (v_p_is_turned [.pl x0, .pl x1, .pl x2, .pl x3, .pl x4, .un]) := rfl
def v_p_check_costs : SM := (sSeq (sIf (mOr (mNotT (mTru (mIsi "list" (mV 1)))) (mOpT neM (mCall lenM (mCons (mV 1) mNil)) (mCall lenM (mCons (mV 0) mNil))))
    sNo
    sNil)
  (sIf (mNotT (mTru (mCall allM (mCons (mNew (mLc [2] (mSeq (mV 1)) (gN 2) mYes (mCall g_is_integer_below (mCons (mV 2) (mCons (mOp2 addM (M.ret (.int 1000000000)) (M.ret (.int 1))) mNil))))) mNil))))
    sNo
    sNil))
def g_p_check_costs : List PyData → Option PyData := runD ["sizes", "costs", "cost"] 2 v_p_check_costs
theorem r_p_check_costs (x0 : PyData) (x1 : PyData) : g_p_check_costs [x0, x1] = outD (v_p_check_costs [.pl x0, .pl x1, .un]) := rfl
def v_p_cheapest : SM := (sSeq (sSet 2 (M.ret .none))
  (sSeq (sFor (mSeq (mV 0)) (gN 3)
    (sSeq (sSet 4 (mCall sumM (mCons (mNew (mLc [5] (mSeq (mV 3)) (gN 5) mYes (mOp2 ixM (mV 1) (mV 5)))) mNil)))
  (sIf (mOr (mOpT isM (mV 2) (M.ret .none)) (mOpT ltM (mV 4) (mOp2 ixM (mV 2) (M.ret (.int 0)))))
    (sSet 2 (mTup (mCons (mV 4) (mCons (mV 3) mNil))))
    sNil)))
  (sRet (mV 2))))
def g_p_cheapest : List PyData → Option PyData := runD ["family", "costs", "best", "fields", "cost", "field"] 2 v_p_cheapest
theorem r_p_cheapest (x0 : PyData) (x1 : PyData) : g_p_cheapest [x0, x1] = outD (v_p_cheapest [.pl x0, .pl x1, .un, .un, .un, .un]) := rfl
end DL
namespace DL
open PySem PySem.Spec PyProof.Rows L2 Lk
def v_check_tree : SM := (sSeq (sExpr (mCall g_check_form (mCons (mV 0) (mCons (mV 1) mNil))))
  (sIf (mNotT (mTru (mCall g_has_plain_words (mCons (mV 1) mNil))))
    sNo
    sNil))
def g_check_tree : List PyData → Option PyData := runD ["sizes", "tree"] 2 v_check_tree
theorem r_check_tree (x0 : PyData) (x1 : PyData) : g_check_tree [x0, x1] = outD (v_check_tree [.pl x0, .pl x1]) := rfl
def v_p_with_value_33504 : SM := (sRet (mNew (mLst (mStar (mNew (mSlice (mV 0) mNoPart (mPart (mV 1)))) (mCons (mV 2) (mStar (mNew (mSlice (mV 0) (mPart (mOp2 addM (mV 1) (M.ret (.int 1)))) mNoPart)) mNil))))))
def g_p_with_value_33504 : List PyData → Option PyData := runD ["half", "field", "value"] 3 v_p_with_value_33504
theorem r_p_with_value_33504 (x0 : PyData) (x1 : PyData) (x2 : PyData) : g_p_with_value_33504 [x0, x1, x2] = outD (v_p_with_value_33504 [.pl x0, .pl x1, .pl x2]) := rfl
def v_p_list_ways_below_98856 (self : List PyData → Option PyData) : SM := (sSeq (sIf (mOpT eqM (mOp2 ixM (mV 0) (M.ret (.int 0))) (M.ret (.str "say")))
    (sRet (mNew (mLst (mCons (mTup (mCons (mV 1) (mCons (mOp2 ixM (mV 0) (M.ret (.int 1))) mNil))) mNil))))
    sNil)
  (sSeq (sSet 2 (mOp2 ixM (mV 0) (M.ret (.int 1))))
  (sSeq (sIf (mOpT isNotM (mOp2 ixM (mV 1) (mV 2)) (M.ret .none))
    (sRet (mCall self (mCons (mOp2 ixM (mOp2 ixM (mV 0) (M.ret (.int 2))) (mOp2 ixM (mV 1) (mV 2))) (mCons (mV 1) mNil))))
    sNil)
  (sSeq (sOwn 3 (mLst mNil))
  (sSeq (sFor (mRng1 (mCons (mCall lenM (mCons (mOp2 ixM (mV 0) (M.ret (.int 2))) mNil)) mNil)) (gN 4)
    (sExt 3 (mCall self (mCons (mOp2 ixM (mOp2 ixM (mV 0) (M.ret (.int 2))) (mV 4)) (mCons (mCall g_p_with_value_33504 (mCons (mV 1) (mCons (mV 2) (mCons (mV 4) mNil)))) mNil)))))
  (sFrz 3 (sRet (mV 3))))))))
def g_p_list_ways_below_98856 : Nat → List PyData → Option PyData
  | 0 => fun _ => none
  | n + 1 => runD ["tree", "half", "field", "found", "value"] 2 (v_p_list_ways_below_98856 (g_p_list_ways_below_98856 n))
theorem r_p_list_ways_below_98856 {n : Nat} (x0 : PyData) (x1 : PyData) : g_p_list_ways_below_98856 (n + 1) [x0, x1] = outD ((v_p_list_ways_below_98856 (g_p_list_ways_below_98856 n)) [.pl x0, .pl x1, .un, .un, .un]) := rfl
def v_p_list_ways : SM := (sRet (mCall (g_p_list_ways_below_98856 FU) (mCons (mV 1) (mCons (mNew (mRep (mLst (mCons (M.ret .none) mNil)) (mCall lenM (mCons (mV 0) mNil)))) mNil))))
def g_p_list_ways : List PyData → Option PyData := runD ["sizes", "tree"] 2 v_p_list_ways
theorem r_p_list_ways (x0 : PyData) (x1 : PyData) : g_p_list_ways [x0, x1] = outD (v_p_list_ways [.pl x0, .pl x1]) := rfl
def v_p_conditions_of : SM := (sRet (mCall tupleM (mCons (mNew (mLc [1] (mRng1 (mCons (mCall lenM (mCons (mV 0) mNil)) mNil)) (gN 1) (mOpT isNotM (mOp2 ixM (mV 0) (mV 1)) (M.ret .none)) (mTup (mCons (mV 1) (mCons (mOp2 ixM (mV 0) (mV 1)) mNil))))) mNil)))
def g_p_conditions_of : List PyData → Option PyData := runD ["half", "field"] 1 v_p_conditions_of
theorem r_p_conditions_of (x0 : PyData) : g_p_conditions_of [x0] = outD (v_p_conditions_of [.pl x0, .un]) := rfl
def v_ways : SM := (sSeq (sExpr (mCall g_check_sizes (mCons (mV 0) mNil)))
  (sSeq (sExpr (mCall g_check_tree (mCons (mV 0) (mCons (mV 1) mNil))))
  (sRet (mNew (mLc [2, 3] (mSeq (mCall g_p_list_ways (mCons (mV 0) (mCons (mV 1) mNil)))) (gTupD 2 (gConsD (gN 2) (gConsD (gN 3) gNilD))) mYes (mTup (mCons (mCall g_p_conditions_of (mCons (mV 2) mNil)) (mCons (mV 3) mNil))))))))
def g_ways : List PyData → Option PyData := runD ["sizes", "tree", "half", "result"] 2 v_ways
theorem r_ways (x0 : PyData) (x1 : PyData) : g_ways [x0, x1] = outD (v_ways [.pl x0, .pl x1, .un, .un]) := rfl
def v_p_graft_below (self : List PyData → Option PyData) : SM := (sSeq (sIf (mOpT eqM (mOp2 ixM (mV 0) (M.ret (.int 0))) (M.ret (.str "say")))
    (sRet (mIf (mTru (mOp2 ixM (mV 0) (M.ret (.int 1)))) (mV 1) (mV 2)))
    sNil)
  (sRet (mTup (mCons (M.ret (.str "tree")) (mCons (mOp2 ixM (mV 0) (M.ret (.int 1))) (mCons (mCall tupleM (mCons (mNew (mLc [3] (mSeq (mOp2 ixM (mV 0) (M.ret (.int 2)))) (gN 3) mYes (mCall self (mCons (mV 3) (mCons (mV 1) (mCons (mV 2) mNil)))))) mNil)) mNil))))))
def g_p_graft_below : Nat → List PyData → Option PyData
  | 0 => fun _ => none
  | n + 1 => runD ["tree", "upper", "lower", "branch"] 3 (v_p_graft_below (g_p_graft_below n))
theorem r_p_graft_below {n : Nat} (x0 : PyData) (x1 : PyData) (x2 : PyData) : g_p_graft_below (n + 1) [x0, x1, x2] = outD ((v_p_graft_below (g_p_graft_below n)) [.pl x0, .pl x1, .pl x2, .un]) := rfl
def v_p_check_tree_and_case : SM := (sSeq (sExpr (mCall g_check_sizes (mCons (mV 0) mNil)))
  (sSeq (sExpr (mCall g_check_tree (mCons (mV 0) (mCons (mV 1) mNil))))
  (sExpr (mCall g_check_case (mCons (mV 0) (mCons (mV 2) mNil))))))
def g_p_check_tree_and_case : List PyData → Option PyData := runD ["sizes", "tree", "case"] 3 v_p_check_tree_and_case
theorem r_p_check_tree_and_case (x0 : PyData) (x1 : PyData) (x2 : PyData) : g_p_check_tree_and_case [x0, x1, x2] = outD (v_p_check_tree_and_case [.pl x0, .pl x1, .pl x2]) := rfl
def v_p_leaving_fields : SM := (sRet (mNew (mLc [2] (mRng1 (mCons (mCall lenM (mCons (mV 1) mNil)) mNil)) (gN 2) (mAnd (mOpT isNotM (mOp2 ixM (mV 0) (mV 2)) (M.ret .none)) (mOpT neM (mOp2 ixM (mV 0) (mV 2)) (mOp2 ixM (mV 1) (mV 2)))) (mV 2))))
def g_p_leaving_fields : List PyData → Option PyData := runD ["half", "case", "field"] 2 v_p_leaving_fields
theorem r_p_leaving_fields (x0 : PyData) (x1 : PyData) : g_p_leaving_fields [x0, x1] = outD (v_p_leaving_fields [.pl x0, .pl x1, .un]) := rfl
def v_p_turning_masks : SM := (sSeq (sSet 3 (mCall (g_says FU) (mCons (mV 0) (mCons (mV 1) (mCons (mV 2) mNil)))))
  (sSeq (sSet 4 (mNew (mLc [5, 6] (mSeq (mCall g_p_list_ways (mCons (mV 0) (mCons (mV 1) mNil)))) (gTupD 2 (gConsD (gN 5) (gConsD (gN 6) gNilD))) (mOpT neM (mV 6) (mV 3)) (mV 5))))
  (sRet (mNew (mLc [5] (mSeq (mV 4)) (gN 5) mYes (mCall g_mask_of (mCons (mCall lenM (mCons (mV 0) mNil)) (mCons (mCall g_p_leaving_fields (mCons (mV 5) (mCons (mV 2) mNil))) mNil))))))))
def g_p_turning_masks : List PyData → Option PyData := runD ["sizes", "tree", "case", "result", "halves", "half", "other"] 3 v_p_turning_masks
theorem r_p_turning_masks (x0 : PyData) (x1 : PyData) (x2 : PyData) : g_p_turning_masks [x0, x1, x2] = outD (v_p_turning_masks [.pl x0, .pl x1, .pl x2, .un, .un, .un, .un]) := rfl
def v_tree_forces : SM := (sSeq (sExpr (mCall g_p_check_tree_and_case (mCons (mV 0) (mCons (mV 1) (mCons (mV 2) mNil)))))
  (sSeq (sExpr (mCall g_check_fields (mCons (mV 0) (mCons (mV 3) mNil))))
  (sRet (mCall g_meets_each (mCons (mCall g_mask_of (mCons (mCall lenM (mCons (mV 0) mNil)) (mCons (mV 3) mNil))) (mCons (mCall g_p_turning_masks (mCons (mV 0) (mCons (mV 1) (mCons (mV 2) mNil)))) mNil))))))
def g_tree_forces : List PyData → Option PyData := runD ["sizes", "tree", "case", "fields"] 4 v_tree_forces
theorem r_tree_forces (x0 : PyData) (x1 : PyData) (x2 : PyData) (x3 : PyData) : g_tree_forces [x0, x1, x2, x3] = outD (v_tree_forces [.pl x0, .pl x1, .pl x2, .pl x3]) := rfl
def v_tree_reason : SM := (sSeq (sExpr (mCall g_p_check_tree_and_case (mCons (mV 0) (mCons (mV 1) (mCons (mV 2) mNil)))))
  (sSeq (sExpr (mCall g_check_order (mCons (mV 0) (mCons (mV 3) mNil))))
  (sRet (mCall g_remaining_members (mCons (mCall lenM (mCons (mV 0) mNil)) (mCons (mV 3) (mCons (mCall g_p_turning_masks (mCons (mV 0) (mCons (mV 1) (mCons (mV 2) mNil)))) mNil)))))))
def g_tree_reason : List PyData → Option PyData := runD ["sizes", "tree", "case", "order"] 4 v_tree_reason
theorem r_tree_reason (x0 : PyData) (x1 : PyData) (x2 : PyData) (x3 : PyData) : g_tree_reason [x0, x1, x2, x3] = outD (v_tree_reason [.pl x0, .pl x1, .pl x2, .pl x3]) := rfl
def v_p_list_yes_halves : SM := (sRet (mNew (mLc [2, 3] (mSeq (mCall g_p_list_ways (mCons (mV 0) (mCons (mV 1) mNil)))) (gTupD 2 (gConsD (gN 2) (gConsD (gN 3) gNilD))) (mTru (mV 3)) (mV 2))))
def g_p_list_yes_halves : List PyData → Option PyData := runD ["sizes", "tree", "half", "result"] 2 v_p_list_yes_halves
theorem r_p_list_yes_halves (x0 : PyData) (x1 : PyData) : g_p_list_yes_halves [x0, x1] = outD (v_p_list_yes_halves [.pl x0, .pl x1, .un, .un]) := rfl
def v_p_count_completing : SM := (sSeq (sSet 3 (M.ret (.int 1)))
  (sSeq (sFor (mRng1 (mCons (mCall lenM (mCons (mV 0) mNil)) mNil)) (gN 4)
    (sIf (mOpT ltM (mV 4) (mCall lenM (mCons (mV 2) mNil)))
    (sIf (mAnd (mOpT isNotM (mOp2 ixM (mV 1) (mV 4)) (M.ret .none)) (mOpT neM (mOp2 ixM (mV 1) (mV 4)) (mOp2 ixM (mV 2) (mV 4))))
    (sRet (M.ret (.int 0)))
    sNil)
    (sIf (mOpT isM (mOp2 ixM (mV 1) (mV 4)) (M.ret .none))
    (sSet 3 (mOp2 mulM (mV 3) (mOp2 ixM (mV 0) (mV 4))))
    sNil)))
  (sRet (mV 3))))
def g_p_count_completing : List PyData → Option PyData := runD ["sizes", "half", "begun", "number", "at"] 3 v_p_count_completing
theorem r_p_count_completing (x0 : PyData) (x1 : PyData) (x2 : PyData) : g_p_count_completing [x0, x1, x2] = outD (v_p_count_completing [.pl x0, .pl x1, .pl x2, .un, .un]) := rfl
def v_p_count_begun_24744 : SM := (sRet (mCall sumM (mCons (mNew (mLc [3] (mSeq (mV 1)) (gN 3) mYes (mCall g_p_count_completing (mCons (mV 0) (mCons (mV 3) (mCons (mV 2) mNil)))))) mNil)))
def g_p_count_begun_24744 : List PyData → Option PyData := runD ["sizes", "halves", "begun", "half"] 3 v_p_count_begun_24744
theorem r_p_count_begun_24744 (x0 : PyData) (x1 : PyData) (x2 : PyData) : g_p_count_begun_24744 [x0, x1, x2] = outD (v_p_count_begun_24744 [.pl x0, .pl x1, .pl x2, .un]) := rfl
def v_count_tree_yes_4b4ad : SM := (sSeq (sExpr (mCall g_check_sizes (mCons (mV 0) mNil)))
  (sSeq (sExpr (mCall g_check_tree (mCons (mV 0) (mCons (mV 1) mNil))))
  (sRet (mCall g_p_count_begun_24744 (mCons (mV 0) (mCons (mCall g_p_list_yes_halves (mCons (mV 0) (mCons (mV 1) mNil))) (mCons (mNew (mLst mNil)) mNil)))))))
def g_count_tree_yes_4b4ad : List PyData → Option PyData := runD ["sizes", "tree"] 2 v_count_tree_yes_4b4ad
theorem r_count_tree_yes_4b4ad (x0 : PyData) (x1 : PyData) : g_count_tree_yes_4b4ad [x0, x1] = outD (v_count_tree_yes_4b4ad [.pl x0, .pl x1]) := rfl
end DL
namespace DL
open PySem PySem.Spec PyProof.Rows L2 Lk
def v_check_card : SM := (sSeq (sExpr (mCall g_check_form (mCons (mV 0) (mCons (mV 1) mNil))))
  (sIf (mOpT neM (mOp2 ixM (mV 1) (M.ret (.int 0))) (M.ret (.str "card")))
    sNo
    sNil))
def g_check_card : List PyData → Option PyData := runD ["sizes", "card"] 2 v_check_card
theorem r_check_card (x0 : PyData) (x1 : PyData) : g_check_card [x0, x1] = outD (v_check_card [.pl x0, .pl x1]) := rfl
def v_p_check_card_and_case : SM := (sSeq (sExpr (mCall g_check_sizes (mCons (mV 0) mNil)))
  (sSeq (sExpr (mCall g_check_card (mCons (mV 0) (mCons (mV 1) mNil))))
  (sExpr (mCall g_check_case (mCons (mV 0) (mCons (mV 2) mNil))))))
def g_p_check_card_and_case : List PyData → Option PyData := runD ["sizes", "card", "case"] 3 v_p_check_card_and_case
theorem r_p_check_card_and_case (x0 : PyData) (x1 : PyData) (x2 : PyData) : g_p_check_card_and_case [x0, x1, x2] = outD (v_p_check_card_and_case [.pl x0, .pl x1, .pl x2]) := rfl
def v_card_sum : SM := (sSeq (sExpr (mCall g_p_check_card_and_case (mCons (mV 0) (mCons (mV 1) (mCons (mV 2) mNil)))))
  (sRet (mCall g_sum_of_weights (mCons (mOp2 ixM (mV 1) (M.ret (.int 1))) (mCons (mV 2) mNil)))))
def g_card_sum : List PyData → Option PyData := runD ["sizes", "card", "case"] 3 v_card_sum
theorem r_card_sum (x0 : PyData) (x1 : PyData) (x2 : PyData) : g_card_sum [x0, x1, x2] = outD (v_card_sum [.pl x0, .pl x1, .pl x2]) := rfl
def v_p_find_slack : SM := (sSeq (sSet 2 (mCall g_sum_of_weights (mCons (mOp2 ixM (mV 0) (M.ret (.int 1))) (mCons (mV 1) mNil))))
  (sRet (mIf (mOpT geM (mV 2) (mOp2 ixM (mV 0) (M.ret (.int 2)))) (mOp2 subM (mV 2) (mOp2 ixM (mV 0) (M.ret (.int 2)))) (mOp2 subM (mOp2 subM (mOp2 ixM (mV 0) (M.ret (.int 2))) (M.ret (.int 1))) (mV 2)))))
def g_p_find_slack : List PyData → Option PyData := runD ["card", "case", "reached"] 2 v_p_find_slack
theorem r_p_find_slack (x0 : PyData) (x1 : PyData) : g_p_find_slack [x0, x1] = outD (v_p_find_slack [.pl x0, .pl x1, .un]) := rfl
def v_slack : SM := (sSeq (sExpr (mCall g_p_check_card_and_case (mCons (mV 0) (mCons (mV 1) (mCons (mV 2) mNil)))))
  (sRet (mCall g_p_find_slack (mCons (mV 1) (mCons (mV 2) mNil)))))
def g_slack : List PyData → Option PyData := runD ["sizes", "card", "case"] 3 v_slack
theorem r_slack (x0 : PyData) (x1 : PyData) (x2 : PyData) : g_slack [x0, x1, x2] = outD (v_slack [.pl x0, .pl x1, .pl x2]) := rfl
def v_p_least : SM := (sRet (mOp2 ixM (mCall g_ascending_numbers (mCons (mV 0) mNil)) (M.ret (.int 0))))
def g_p_least : List PyData → Option PyData := runD ["row"] 1 v_p_least
theorem r_p_least (x0 : PyData) : g_p_least [x0] = outD (v_p_least [.pl x0]) := rfl
def v_p_greatest : SM := (sRet (mOp2 ixM (mCall g_ascending_numbers (mCons (mV 0) mNil)) (mNeg (M.ret (.int 1)))))
def g_p_greatest : List PyData → Option PyData := runD ["row"] 1 v_p_greatest
theorem r_p_greatest (x0 : PyData) : g_p_greatest [x0] = outD (v_p_greatest [.pl x0]) := rfl
def v_p_list_drops : SM := (sSeq (sSet 2 (mOp2 ixM (mV 0) (M.ret (.int 1))))
  (sSeq (sIf (mOpT geM (mCall g_sum_of_weights (mCons (mV 2) (mCons (mV 1) mNil))) (mOp2 ixM (mV 0) (M.ret (.int 2))))
    (sRet (mNew (mLc [3] (mRng1 (mCons (mCall lenM (mCons (mV 1) mNil)) mNil)) (gN 3) mYes (mOp2 subM (mOp2 ixM (mOp2 ixM (mV 2) (mV 3)) (mOp2 ixM (mV 1) (mV 3))) (mCall g_p_least (mCons (mOp2 ixM (mV 2) (mV 3)) mNil))))))
    sNil)
  (sRet (mNew (mLc [3] (mRng1 (mCons (mCall lenM (mCons (mV 1) mNil)) mNil)) (gN 3) mYes (mOp2 subM (mCall g_p_greatest (mCons (mOp2 ixM (mV 2) (mV 3)) mNil)) (mOp2 ixM (mOp2 ixM (mV 2) (mV 3)) (mOp2 ixM (mV 1) (mV 3)))))))))
def g_p_list_drops : List PyData → Option PyData := runD ["card", "case", "weights", "at"] 2 v_p_list_drops
theorem r_p_list_drops (x0 : PyData) (x1 : PyData) : g_p_list_drops [x0, x1] = outD (v_p_list_drops [.pl x0, .pl x1, .un, .un]) := rfl
def v_drops : SM := (sSeq (sExpr (mCall g_p_check_card_and_case (mCons (mV 0) (mCons (mV 1) (mCons (mV 2) mNil)))))
  (sRet (mCall g_p_list_drops (mCons (mV 1) (mCons (mV 2) mNil)))))
def g_drops : List PyData → Option PyData := runD ["sizes", "card", "case"] 3 v_drops
theorem r_drops (x0 : PyData) (x1 : PyData) (x2 : PyData) : g_drops [x0, x1, x2] = outD (v_drops [.pl x0, .pl x1, .pl x2]) := rfl
def v_sum_range : SM := (sSeq (sExpr (mCall g_check_sizes (mCons (mV 0) mNil)))
  (sSeq (sExpr (mCall g_check_card (mCons (mV 0) (mCons (mV 1) mNil))))
  (sRet (mTup (mCons (mCall sumM (mCons (mNew (mLc [2] (mSeq (mOp2 ixM (mV 1) (M.ret (.int 1)))) (gN 2) mYes (mCall g_p_least (mCons (mV 2) mNil)))) mNil)) (mCons (mCall sumM (mCons (mNew (mLc [2] (mSeq (mOp2 ixM (mV 1) (M.ret (.int 1)))) (gN 2) mYes (mCall g_p_greatest (mCons (mV 2) mNil)))) mNil)) mNil))))))
def g_sum_range : List PyData → Option PyData := runD ["sizes", "card", "row"] 2 v_sum_range
theorem r_sum_range (x0 : PyData) (x1 : PyData) : g_sum_range [x0, x1] = outD (v_sum_range [.pl x0, .pl x1, .un]) := rfl
def v_lowered : SM := (sSeq (sExpr (mCall g_check_sizes (mCons (mV 0) mNil)))
  (sSeq (sExpr (mCall g_check_card (mCons (mV 0) (mCons (mV 1) mNil))))
  (sSeq (sSet 2 (mCall tupleM (mCons (mNew (mLc [3] (mSeq (mOp2 ixM (mV 1) (M.ret (.int 1)))) (gN 3) mYes (mCall tupleM (mCons (mNew (mLc [4] (mSeq (mV 3)) (gN 4) mYes (mOp2 subM (mV 4) (mCall g_p_least (mCons (mV 3) mNil))))) mNil)))) mNil)))
  (sRet (mTup (mCons (M.ret (.str "card")) (mCons (mV 2) (mCons (mOp2 subM (mOp2 ixM (mV 1) (M.ret (.int 2))) (mCall sumM (mCons (mNew (mLc [3] (mSeq (mOp2 ixM (mV 1) (M.ret (.int 1)))) (gN 3) mYes (mCall g_p_least (mCons (mV 3) mNil)))) mNil))) mNil))))))))
def g_lowered : List PyData → Option PyData := runD ["sizes", "card", "weights", "row", "weight"] 2 v_lowered
theorem r_lowered (x0 : PyData) (x1 : PyData) : g_lowered [x0, x1] = outD (v_lowered [.pl x0, .pl x1, .un, .un, .un]) := rfl
def v_card_forces : SM := (sSeq (sExpr (mCall g_p_check_card_and_case (mCons (mV 0) (mCons (mV 1) (mCons (mV 2) mNil)))))
  (sSeq (sExpr (mCall g_check_fields (mCons (mV 0) (mCons (mV 3) mNil))))
  (sSeq (sSet 4 (mCall g_p_list_drops (mCons (mV 1) (mCons (mV 2) mNil))))
  (sRet (mOp2 leM (mCall sumM (mCons (mNew (mLc [5] (mRng1 (mCons (mCall lenM (mCons (mV 4) mNil)) mNil)) (gN 5) (mOpT notInM (mV 5) (mV 3)) (mOp2 ixM (mV 4) (mV 5)))) mNil)) (mCall g_p_find_slack (mCons (mV 1) (mCons (mV 2) mNil))))))))
def g_card_forces : List PyData → Option PyData := runD ["sizes", "card", "case", "fields", "found", "at"] 4 v_card_forces
theorem r_card_forces (x0 : PyData) (x1 : PyData) (x2 : PyData) (x3 : PyData) : g_card_forces [x0, x1, x2, x3] = outD (v_card_forces [.pl x0, .pl x1, .pl x2, .pl x3, .un, .un]) := rfl
def v_p_reason_goal : SM := (sRet (mOp2 subM (mCall sumM (mCons (mCall g_p_list_drops (mCons (mV 0) (mCons (mV 1) mNil))) mNil)) (mCall g_p_find_slack (mCons (mV 0) (mCons (mV 1) mNil)))))
def g_p_reason_goal : List PyData → Option PyData := runD ["card", "case"] 2 v_p_reason_goal
theorem r_p_reason_goal (x0 : PyData) (x1 : PyData) : g_p_reason_goal [x0, x1] = outD (v_p_reason_goal [.pl x0, .pl x1]) := rfl
def v_p_descending : SM := (sRet (mNew (mRevL (mCall g_ascending_numbers (mCons (mV 0) mNil)))))
def g_p_descending : List PyData → Option PyData := runD ["numbers"] 1 v_p_descending
theorem r_p_descending (x0 : PyData) : g_p_descending [x0] = outD (v_p_descending [.pl x0]) := rfl
def v_p_fewest_reaching : SM := (sSeq (sSet 2 (M.ret (.int 0)))
  (sSeq (sSet 3 (M.ret (.int 0)))
  (sSeq (sFor (mSeq (mCall g_p_descending (mCons (mV 0) mNil))) (gN 4)
    (sIf (mOpT ltM (mV 3) (mV 1))
    (sSeq (sSet 3 (mOp2 addM (mV 3) (mV 4)))
  (sAug 2 (intG (fun a b => a + b)) (M.ret (.int 1))))
    sNil))
  (sRet (mV 2)))))
def g_p_fewest_reaching : List PyData → Option PyData := runD ["numbers", "goal", "length", "reached", "number"] 2 v_p_fewest_reaching
theorem r_p_fewest_reaching (x0 : PyData) (x1 : PyData) : g_p_fewest_reaching [x0, x1] = outD (v_p_fewest_reaching [.pl x0, .pl x1, .un, .un, .un]) := rfl
def v_p_first_reaching : SM := (sSeq (sSet 2 (mCall g_p_fewest_reaching (mCons (mV 0) (mCons (mV 1) mNil))))
  (sSeq (sOwn 3 (mLst mNil))
  (sSeq (sSet 4 (mV 1))
  (sSeq (sFor (mRng1 (mCons (mCall lenM (mCons (mV 0) mNil)) mNil)) (gN 5)
    (sSeq (sSet 6 (mOp2 subM (mOp2 subM (mV 2) (mLenO 3)) (M.ret (.int 1))))
  (sIf (mAnd (mOpT geM (mV 6) (M.ret (.int 0))) (mOpT geM (mOp2 addM (mOp2 ixM (mV 0) (mV 5)) (mCall sumM (mCons (mNew (mSlice (mCall g_p_descending (mCons (mNew (mSlice (mV 0) (mPart (mOp2 addM (mV 5) (M.ret (.int 1)))) mNoPart)) mNil)) mNoPart (mPart (mV 6)))) mNil))) (mV 4)))
    (sSeq (sApp 3 (mV 5))
  (sSet 4 (mOp2 subM (mV 4) (mOp2 ixM (mV 0) (mV 5)))))
    sNil)))
  (sFrz 3 (sRet (mV 3)))))))
def g_p_first_reaching : List PyData → Option PyData := runD ["numbers", "goal", "length", "found", "missing", "at", "left"] 2 v_p_first_reaching
theorem r_p_first_reaching (x0 : PyData) (x1 : PyData) : g_p_first_reaching [x0, x1] = outD (v_p_first_reaching [.pl x0, .pl x1, .un, .un, .un, .un, .un]) := rfl
def v_shortest_card_reason : SM := (sSeq (sExpr (mCall g_p_check_card_and_case (mCons (mV 0) (mCons (mV 1) (mCons (mV 2) mNil)))))
  (sRet (mCall g_p_first_reaching (mCons (mCall g_p_list_drops (mCons (mV 1) (mCons (mV 2) mNil))) (mCons (mCall g_p_reason_goal (mCons (mV 1) (mCons (mV 2) mNil))) mNil)))))
def g_shortest_card_reason : List PyData → Option PyData := runD ["sizes", "card", "case"] 3 v_shortest_card_reason
theorem r_shortest_card_reason (x0 : PyData) (x1 : PyData) (x2 : PyData) : g_shortest_card_reason [x0, x1, x2] = outD (v_shortest_card_reason [.pl x0, .pl x1, .pl x2]) := rfl
def v_p_turn_goal : SM := (sRet (mOp2 addM (mCall g_p_find_slack (mCons (mV 0) (mCons (mV 1) mNil))) (M.ret (.int 1))))
def g_p_turn_goal : List PyData → Option PyData := runD ["card", "case"] 2 v_p_turn_goal
theorem r_p_turn_goal (x0 : PyData) (x1 : PyData) : g_p_turn_goal [x0, x1] = outD (v_p_turn_goal [.pl x0, .pl x1]) := rfl
def v_shortest_card_turn : SM := (sSeq (sExpr (mCall g_p_check_card_and_case (mCons (mV 0) (mCons (mV 1) (mCons (mV 2) mNil)))))
  (sSeq (sSet 3 (mCall g_p_list_drops (mCons (mV 1) (mCons (mV 2) mNil))))
  (sSeq (sIf (mOpT ltM (mCall sumM (mCons (mV 3) mNil)) (mCall g_p_turn_goal (mCons (mV 1) (mCons (mV 2) mNil))))
    sNo
    sNil)
  (sRet (mCall g_p_first_reaching (mCons (mV 3) (mCons (mCall g_p_turn_goal (mCons (mV 1) (mCons (mV 2) mNil))) mNil)))))))
def g_shortest_card_turn : List PyData → Option PyData := runD ["sizes", "card", "case", "found"] 3 v_shortest_card_turn
theorem r_shortest_card_turn (x0 : PyData) (x1 : PyData) (x2 : PyData) : g_shortest_card_turn [x0, x1, x2] = outD (v_shortest_card_turn [.pl x0, .pl x1, .pl x2, .un]) := rfl
def v_p_count_begun_f3780 : SM := (sSeq (sSet 3 (mOp2 subM (mOp2 ixM (mV 0) (M.ret (.int 2))) (mCall g_sum_of_weights (mCons (mOp2 ixM (mV 0) (M.ret (.int 1))) (mCons (mV 2) mNil)))))
  (sSeq (sSet 4 (mOp2 ixM (mV 1) (mCall lenM (mCons (mV 2) mNil))))
  (sRet (mCall sumM (mCons (mNew (mLc [5] (mSeq (mV 4)) (gN 5) (mOpT geM (mV 5) (mV 3)) (mOp2 ixM (mV 4) (mV 5)))) mNil)))))
def g_p_count_begun_f3780 : List PyData → Option PyData := runD ["card", "tails", "begun", "missing", "counts", "reached"] 3 v_p_count_begun_f3780
theorem r_p_count_begun_f3780 (x0 : PyData) (x1 : PyData) (x2 : PyData) : g_p_count_begun_f3780 [x0, x1, x2] = outD (v_p_count_begun_f3780 [.pl x0, .pl x1, .pl x2, .un, .un, .un]) := rfl
def v_p_can_add_up : SM := (sSeq (sSet 4 (mOp2 subM (mCall lenM (mCons (mV 1) mNil)) (M.ret (.int 1))))
  (sSeq (sFor (mSeq (mV 0)) (gN 5)
    (sSeq (whGo (mAnd (mOpT geM (mV 4) (M.ret (.int 0))) (mOpT geM (mOp2 addM (mV 5) (mOp2 ixM (mV 1) (mV 4))) (mV 3)))
    (sSet 4 (mOp2 subM (mV 4) (M.ret (.int 1)))) WH)
  (sIf (mAnd (mOpT geM (mV 4) (M.ret (.int 0))) (mOpT geM (mOp2 addM (mV 5) (mOp2 ixM (mV 1) (mV 4))) (mV 2)))
    (sRet (M.ret (.bool true)))
    sNil)))
  (sRet (M.ret (.bool false)))))
def g_p_can_add_up : List PyData → Option PyData := runD ["one_sums", "other_sums", "least", "limit", "at", "reached"] 4 v_p_can_add_up
theorem r_p_can_add_up (x0 : PyData) (x1 : PyData) (x2 : PyData) (x3 : PyData) : g_p_can_add_up [x0, x1, x2, x3] = outD (v_p_can_add_up [.pl x0, .pl x1, .pl x2, .pl x3, .un, .un]) := rfl
end DL
namespace DL
open PySem PySem.Spec PyProof.Rows L2 Lk
def v_p_check_same_sheet : SM := (sIf (mOpT neM (mV 0) (mV 1))
    sNo
    sNil)
def g_p_check_same_sheet : List PyData → Option PyData := runD ["sizes", "other_sizes"] 2 v_p_check_same_sheet
theorem r_p_check_same_sheet (x0 : PyData) (x1 : PyData) : g_p_check_same_sheet [x0, x1] = outD (v_p_check_same_sheet [.pl x0, .pl x1]) := rfl
end DL
namespace DL
open PySem PySem.Spec PyProof.Rows L2 Lk
def v_p_check_setting : SM := (sSeq (sExpr (mCall g_check_field (mCons (mV 0) (mCons (mV 1) mNil))))
  (sIf (mAnd (mOpT isNotM (mV 2) (M.ret .none)) (mNotT (mTru (mCall g_is_integer_below (mCons (mV 2) (mCons (mOp2 ixM (mV 0) (mV 1)) mNil))))))
    sNo
    sNil))
def g_p_check_setting : List PyData → Option PyData := runD ["sizes", "field", "value"] 3 v_p_check_setting
theorem r_p_check_setting (x0 : PyData) (x1 : PyData) (x2 : PyData) : g_p_check_setting [x0, x1, x2] = outD (v_p_check_setting [.pl x0, .pl x1, .pl x2]) := rfl
def v_p_with_value_679e4 : SM := (sRet (mTup (mStar (mNew (mSlice (mV 0) mNoPart (mPart (mV 1)))) (mCons (mV 2) (mStar (mNew (mSlice (mV 0) (mPart (mOp2 addM (mV 1) (M.ret (.int 1)))) mNoPart)) mNil)))))
def g_p_with_value_679e4 : List PyData → Option PyData := runD ["half", "field", "value"] 3 v_p_with_value_679e4
theorem r_p_with_value_679e4 (x0 : PyData) (x1 : PyData) (x2 : PyData) : g_p_with_value_679e4 [x0, x1, x2] = outD (v_p_with_value_679e4 [.pl x0, .pl x1, .pl x2]) := rfl
def v_p_unlike_known_fields : SM := (sRet (mNew (mLc [2] (mRng1 (mCons (mCall lenM (mCons (mV 0) mNil)) mNil)) (gN 2) (mAnd (mOpT isNotM (mOp2 ixM (mV 0) (mV 2)) (M.ret .none)) (mOpT neM (mOp2 ixM (mV 0) (mV 2)) (mOp2 ixM (mV 1) (mV 2)))) (mV 2))))
def g_p_unlike_known_fields : List PyData → Option PyData := runD ["half", "case", "field"] 2 v_p_unlike_known_fields
theorem r_p_unlike_known_fields (x0 : PyData) (x1 : PyData) : g_p_unlike_known_fields [x0, x1] = outD (v_p_unlike_known_fields [.pl x0, .pl x1, .un]) := rfl
end DL
namespace DL
open PySem PySem.Spec PyProof.Rows L2 Lk
def v_p_word_of_answer : SM := (sRet (mIf (mTru (mV 0)) (M.ret (.str "yes")) (M.ret (.str "no"))))
def g_p_word_of_answer : List PyData → Option PyData := runD ["result"] 1 v_p_word_of_answer
theorem r_p_word_of_answer (x0 : PyData) : g_p_word_of_answer [x0] = outD (v_p_word_of_answer [.pl x0]) := rfl
def v_p_find_answer : SM := (sRet (mIf (mOpT inM (mV 0) (mTup (mCons (M.ret (.str "yes")) (mCons (M.ret (.str "no")) mNil)))) (mOp2 eqM (mV 0) (M.ret (.str "yes"))) (M.ret .none)))
def g_p_find_answer : List PyData → Option PyData := runD ["word"] 1 v_p_find_answer
theorem r_p_find_answer (x0 : PyData) : g_p_find_answer [x0] = outD (v_p_find_answer [.pl x0]) := rfl
def v_p_find_results : SM := (sSeq (sIf (mOr (mOpT neM (mCall lenM (mCons (mV 1) mNil)) (mCall g_number_of_cases (mCons (mV 0) mNil))) (mNotT (mTru (mCall allM (mCons (mNew (mLc [2] (mSeq (mV 1)) (gN 2) mYes (mOp2 inM (mV 2) (M.ret (.str "yn"))))) mNil)))))
    (sRet (M.ret .none))
    sNil)
  (sRet (mCall tupleM (mCons (mNew (mLc [2] (mSeq (mV 1)) (gN 2) mYes (mOp2 eqM (mV 2) (M.ret (.str "y"))))) mNil))))
def g_p_find_results : List PyData → Option PyData := runD ["sizes", "word", "letter"] 2 v_p_find_results
theorem r_p_find_results (x0 : PyData) (x1 : PyData) : g_p_find_results [x0, x1] = outD (v_p_find_results [.pl x0, .pl x1, .un]) := rfl
def v_p_find_first_word : SM := (sSeq (sIf (mOr (mOpT gtM (mV 2) (M.ret (.int 20))) (mAnd (mOpT notInM (mV 1) (M.ret c_OTHER_WORDS)) (mOpT notInM (mV 1) (M.ret c_JOINING_WORDS))))
    (sRet (M.ret .none))
    sNil)
  (sSeq (sIf (mAnd (mOpT eqM (mV 1) (M.ret (.str "table"))) (mNotT (mTru (mCall g_is_small_sheet (mCons (mV 0) mNil)))))
    (sRet (M.ret .none))
    sNil)
  (sRet (mV 1))))
def g_p_find_first_word : List PyData → Option PyData := runD ["sizes", "word", "level"] 3 v_p_find_first_word
theorem r_p_find_first_word (x0 : PyData) (x1 : PyData) (x2 : PyData) : g_p_find_first_word [x0, x1, x2] = outD (v_p_find_first_word [.pl x0, .pl x1, .pl x2]) := rfl
end DL
namespace DL
open PySem PySem.Spec PyProof.Rows L2 Lk
def v_p_write_answer : SM := (sSeq (sIf (mOpT isM (mV 0) (M.ret .none))
    (sRet (M.ret (.str "unsure")))
    sNil)
  (sRet (mIf (mTru (mV 0)) (M.ret (.str "yes")) (M.ret (.str "no")))))
def g_p_write_answer : List PyData → Option PyData := runD ["result"] 1 v_p_write_answer
theorem r_p_write_answer (x0 : PyData) : g_p_write_answer [x0] = outD (v_p_write_answer [.pl x0]) := rfl
end DL
namespace DL
open PySem PySem.Spec PyProof.Rows L2 Lk
def v_law_draw_48e0b : SM := (sSeq (sIf (mOpT geM (mV 0) (mOp2 powM (M.ret (.int 10)) (M.ret (.int 18))))
    (sRet (mOp2 modM (mOp2 modM (mCall intM (mCons (mOp2 shrM (mV 0) (mOp2 mulM (M.ret (.int 14)) (mV 1))) mNil)) (M.ret (.int 16384))) (mV 2)))
    sNil)
  (sSeq (sSet 3 (mOp2 modM (mCall intM (mCons (mOp2 addM (mOp2 addM (mOp2 mulM (mV 0) (M.ret (.int 48271))) (mOp2 mulM (mOp2 mulM (M.ret (.int 7919)) (mV 1)) (mV 1))) (M.ret (.int 30011))) mNil)) (M.ret (.int 1000000007))))
  (sSeq (sSet 4 (mOp2 modM (mCall intM (mCons (mOp2 addM (mOp2 mulM (mV 3) (mV 3)) (mOp2 mulM (M.ret (.int 60493)) (mV 1))) mNil)) (M.ret (.int 2147483629))))
  (sSeq (sSet 5 (mOp2 modM (mCall intM (mCons (mOp2 addM (mOp2 mulM (mV 4) (mV 4)) (mV 3)) mNil)) (M.ret (.int 2147483587))))
  (sSeq (sSet 6 (mOp2 modM (mCall intM (mCons (mOp2 addM (mOp2 mulM (mV 5) (mV 5)) (mV 4)) mNil)) (M.ret (.int 2147483563))))
  (sRet (mOp2 modM (mCall intM (mCons (mOp2 divM (mV 6) (M.ret (.int 64))) mNil)) (mV 2))))))))
def g_law_draw_48e0b : List PyData → Option PyData := runD ["cell", "k", "limit", "seed", "first", "second", "third"] 3 v_law_draw_48e0b
theorem r_law_draw_48e0b (x0 : PyData) (x1 : PyData) (x2 : PyData) : g_law_draw_48e0b [x0, x1, x2] = outD (v_law_draw_48e0b [.pl x0, .pl x1, .pl x2, .un, .un, .un, .un]) := rfl
def v_law_values_1b941 : SM := (sRet (mCall tupleM (mCons (mNew (mLc [3] (mRng1 (mCons (mV 2) mNil)) (gN 3) (mOpT eqM (mCall g_law_draw_48e0b (mCons (mV 0) (mCons (mOp2 addM (mV 1) (mV 3)) (mCons (M.ret (.int 2)) mNil)))) (M.ret (.int 1))) (mV 3))) mNil)))
def g_law_values_1b941 : List PyData → Option PyData := runD ["cell", "k", "size", "part"] 3 v_law_values_1b941
theorem r_law_values_1b941 (x0 : PyData) (x1 : PyData) (x2 : PyData) : g_law_values_1b941 [x0, x1, x2] = outD (v_law_values_1b941 [.pl x0, .pl x1, .pl x2, .un]) := rfl
def v_law_conditions_05f1f : SM := (sSeq (sSet 2 (mOp2 eqM (mCall g_law_draw_48e0b (mCons (mV 1) (mCons (M.ret (.int 1)) (mCons (M.ret (.int 2)) mNil)))) (M.ret (.int 1))))
  (sSeq (sOwn 3 (mLst mNil))
  (sSeq (sFor (mRng1 (mCons (mCall lenM (mCons (mV 0) mNil)) mNil)) (gN 4)
    (sIf (mAnd (mOpT ltM (mLenO 3) (M.ret (.int 6))) (mOpT eqM (mCall g_law_draw_48e0b (mCons (mV 1) (mCons (mOp2 addM (mOp2 mulM (M.ret (.int 7)) (mV 4)) (M.ret (.int 2))) (mCons (M.ret (.int 2)) mNil)))) (M.ret (.int 1))))
    (sSeq (sSet 5 (mCall g_law_values_1b941 (mCons (mV 1) (mCons (mOp2 addM (mOp2 mulM (M.ret (.int 7)) (mV 4)) (M.ret (.int 3))) (mCons (mOp2 ixM (mV 0) (mV 4)) mNil)))))
  (sSeq (sIf (mTru (mV 2))
    (sSet 5 (mTup (mCons (mCall g_law_draw_48e0b (mCons (mV 1) (mCons (mOp2 addM (mOp2 mulM (M.ret (.int 7)) (mV 4)) (M.ret (.int 3))) (mCons (mOp2 ixM (mV 0) (mV 4)) mNil)))) mNil)))
    sNil)
  (sApp 3 (mTup (mCons (mV 4) (mCons (mV 5) mNil))))))
    sNil))
  (sFrz 3 (sRet (mCall tupleM (mCons (mV 3) mNil)))))))
def g_law_conditions_05f1f : List PyData → Option PyData := runD ["sizes", "cell", "single", "found", "field", "values"] 2 v_law_conditions_05f1f
theorem r_law_conditions_05f1f (x0 : PyData) (x1 : PyData) : g_law_conditions_05f1f [x0, x1] = outD (v_law_conditions_05f1f [.pl x0, .pl x1, .un, .un, .un, .un]) := rfl
def v_law_card_4ab7e : SM := (sSeq (sSet 2 (mOp2 ixM (mTup (mCons (M.ret (.int 3)) (mCons (M.ret (.int 7)) (mCons (M.ret (.int 101)) mNil)))) (mCall g_law_draw_48e0b (mCons (mV 1) (mCons (M.ret (.int 1)) (mCons (M.ret (.int 3)) mNil))))))
  (sSeq (sOwn 3 (mLst mNil))
  (sSeq (sSet 4 (mOp2 subM (mCall g_law_draw_48e0b (mCons (mV 1) (mCons (M.ret (.int 2)) (mCons (M.ret (.int 3)) mNil)))) (M.ret (.int 1))))
  (sSeq (sFor (mRng1 (mCons (mCall lenM (mCons (mV 0) mNil)) mNil)) (gN 5)
    (sSeq (sSet 6 (mNew (mLc [7] (mRng1 (mCons (mOp2 ixM (mV 0) (mV 5)) mNil)) (gN 7) mYes (mOp2 subM (mCall g_law_draw_48e0b (mCons (mV 1) (mCons (mOp2 addM (mOp2 addM (mOp2 mulM (M.ret (.int 6)) (mV 5)) (mV 7)) (M.ret (.int 4))) (mCons (mV 2) mNil)))) (mOp2 divM (mV 2) (M.ret (.int 2)))))))
  (sSeq (sApp 3 (mCall tupleM (mCons (mV 6) mNil)))
  (sSet 4 (mOp2 addM (mV 4) (mOp2 ixM (mV 6) (mCall g_law_draw_48e0b (mCons (mV 1) (mCons (mOp2 addM (M.ret (.int 64)) (mV 5)) (mCons (mOp2 ixM (mV 0) (mV 5)) mNil))))))))))
  (sFrz 3 (sRet (mTup (mCons (M.ret (.str "card")) (mCons (mCall tupleM (mCons (mV 3) mNil)) (mCons (mV 4) mNil))))))))))
def g_law_card_4ab7e : List PyData → Option PyData := runD ["sizes", "cell", "spread", "weights", "total", "field", "row", "part"] 2 v_law_card_4ab7e
theorem r_law_card_4ab7e (x0 : PyData) (x1 : PyData) : g_law_card_4ab7e [x0, x1] = outD (v_law_card_4ab7e [.pl x0, .pl x1, .un, .un, .un, .un, .un, .un]) := rfl
def v_law_leaf_52ac9 : SM := (sSeq (sSet 2 (mCall g_law_draw_48e0b (mCons (mV 1) (mCons (M.ret (.int 90)) (mCons (M.ret (.int 6)) mNil)))))
  (sSeq (sSet 3 (M.ret (.int 1)))
  (sSeq (sFor (mSeq (mV 0)) (gN 4)
    (sSet 3 (mOp2 mulM (mV 3) (mV 4))))
  (sSeq (sIf (mOr (mOpT eqM (mV 2) (M.ret (.int 0))) (mAnd (mOpT eqM (mV 2) (M.ret (.int 1))) (mOpT gtM (mV 3) (M.ret (.int 128)))))
    (sRet (mCall g_law_card_4ab7e (mCons (mV 0) (mCons (mV 1) mNil))))
    sNil)
  (sSeq (sIf (mOpT eqM (mV 2) (M.ret (.int 1)))
    (sRet (mTup (mCons (M.ret (.str "table")) (mCons (mCall tupleM (mCons (mNew (mLc [7] (mRng1 (mCons (mV 3) mNil)) (gN 7) mYes (mOp2 eqM (mCall g_law_draw_48e0b (mCons (mV 1) (mCons (mOp2 addM (mOp2 modM (mCall intM (mCons (mV 7) mNil)) (M.ret (.int 61))) (M.ret (.int 100))) (mCons (M.ret (.int 2)) mNil)))) (M.ret (.int 1))))) mNil)) mNil))))
    sNil)
  (sSeq (sIf (mOpT eqM (mV 2) (M.ret (.int 2)))
    (sRet (mTup (mCons (M.ret (.str "rules")) (mCons (mTup (mCons (mTup (mCons (mCall g_law_conditions_05f1f (mCons (mV 0) (mCons (mV 1) mNil))) (mCons (mOp2 eqM (mCall g_law_draw_48e0b (mCons (mV 1) (mCons (M.ret (.int 92)) (mCons (M.ret (.int 2)) mNil)))) (M.ret (.int 1))) mNil))) mNil)) (mCons (mOp2 eqM (mCall g_law_draw_48e0b (mCons (mV 1) (mCons (M.ret (.int 93)) (mCons (M.ret (.int 2)) mNil)))) (M.ret (.int 1))) mNil)))))
    sNil)
  (sSeq (sIf (mOr (mOpT eqM (mV 2) (M.ret (.int 3))) (mOpT eqM (mV 0) (mNew (mLst mNil))))
    (sRet (mTup (mCons (M.ret (.str "say")) (mCons (mOp2 eqM (mCall g_law_draw_48e0b (mCons (mV 1) (mCons (M.ret (.int 92)) (mCons (M.ret (.int 2)) mNil)))) (M.ret (.int 1))) mNil))))
    sNil)
  (sSeq (sSet 5 (mCall g_law_draw_48e0b (mCons (mV 1) (mCons (M.ret (.int 91)) (mCons (mCall lenM (mCons (mV 0) mNil)) mNil)))))
  (sSeq (sIf (mOpT eqM (mV 2) (M.ret (.int 4)))
    (sRet (mTup (mCons (M.ret (.str "is")) (mCons (mV 5) (mCons (mCall g_law_values_1b941 (mCons (mV 1) (mCons (M.ret (.int 92)) (mCons (mOp2 ixM (mV 0) (mV 5)) mNil)))) mNil)))))
    sNil)
  (sRet (mTup (mCons (M.ret (.str "tree")) (mCons (mV 5) (mCons (mCall tupleM (mCons (mNew (mLc [6] (mRng1 (mCons (mOp2 ixM (mV 0) (mV 5)) mNil)) (gN 6) mYes (mTup (mCons (M.ret (.str "say")) (mCons (mOp2 eqM (mCall g_law_draw_48e0b (mCons (mV 1) (mCons (mOp2 addM (M.ret (.int 92)) (mV 6)) (mCons (M.ret (.int 2)) mNil)))) (M.ret (.int 1))) mNil))))) mNil)) mNil))))))))))))))
def g_law_leaf_52ac9 : List PyData → Option PyData := runD ["sizes", "cell", "word", "many", "size", "field", "part", "at"] 2 v_law_leaf_52ac9
theorem r_law_leaf_52ac9 (x0 : PyData) (x1 : PyData) : g_law_leaf_52ac9 [x0, x1] = outD (v_law_leaf_52ac9 [.pl x0, .pl x1, .un, .un, .un, .un, .un, .un]) := rfl
def v_law_part_518aa : SM := (sSeq (sSet 2 (mCall g_law_leaf_52ac9 (mCons (mV 0) (mCons (mV 1) mNil))))
  (sSeq (sIf (mOpT eqM (mCall g_law_draw_48e0b (mCons (mV 1) (mCons (M.ret (.int 80)) (mCons (M.ret (.int 3)) mNil)))) (M.ret (.int 0)))
    (sRet (mTup (mCons (M.ret (.str "not")) (mCons (mV 2) mNil))))
    sNil)
  (sRet (mV 2))))
def g_law_part_518aa : List PyData → Option PyData := runD ["sizes", "cell", "leaf"] 2 v_law_part_518aa
theorem r_law_part_518aa (x0 : PyData) (x1 : PyData) : g_law_part_518aa [x0, x1] = outD (v_law_part_518aa [.pl x0, .pl x1, .un]) := rfl
def v_law_form_06328 : SM := (sSeq (sSet 2 (mOp2 ixM (mOp2 addM (mV 1) (mNew (mLst (mCons (M.ret (.int 0)) mNil)))) (M.ret (.int 0))))
  (sSeq (sSet 3 (mCall g_law_draw_48e0b (mCons (mV 2) (mCons (M.ret (.int 81)) (mCons (M.ret (.int 6)) mNil)))))
  (sSeq (sSet 4 (mNew (mSlice (mV 1) (mPart (M.ret (.int 1))) (mPart (M.ret (.int 8))))))
  (sSeq (sIf (mOpT eqM (mV 3) (M.ret (.int 0)))
    (sSeq (sSet 5 (mNew (mLc [7] (mSeq (mNew (mSlice (mV 1) (mPart (M.ret (.int 1))) (mPart (M.ret (.int 13)))))) (gN 7) mYes (mTup (mCons (mCall g_law_conditions_05f1f (mCons (mV 0) (mCons (mV 7) mNil))) (mCons (mOp2 eqM (mCall g_law_draw_48e0b (mCons (mV 7) (mCons (M.ret (.int 0)) (mCons (M.ret (.int 2)) mNil)))) (M.ret (.int 1))) mNil))))))
  (sRet (mTup (mCons (M.ret (.str "rules")) (mCons (mCall tupleM (mCons (mV 5) mNil)) (mCons (mOp2 eqM (mCall g_law_draw_48e0b (mCons (mV 2) (mCons (M.ret (.int 82)) (mCons (M.ret (.int 2)) mNil)))) (M.ret (.int 1))) mNil))))))
    sNil)
  (sSeq (sIf (mOpT ltM (mV 3) (M.ret (.int 4)))
    (sRet (mTup (mCons (mOp2 ixM (mNew (mLst (mCons (M.ret (.str "and")) (mCons (M.ret (.str "or")) (mCons (M.ret (.str "odd")) mNil))))) (mOp2 subM (mV 3) (M.ret (.int 1)))) (mCons (mCall tupleM (mCons (mNew (mLc [7] (mSeq (mV 4)) (gN 7) mYes (mCall g_law_part_518aa (mCons (mV 0) (mCons (mV 7) mNil))))) mNil)) mNil))))
    sNil)
  (sSeq (sIf (mAnd (mOpT eqM (mV 3) (M.ret (.int 4))) (mAnd (mOpT neM (mV 0) (mNew (mLst mNil))) (mOpT neM (mV 4) (mNew (mLst mNil)))))
    (sSeq (sSet 6 (mCall g_law_draw_48e0b (mCons (mV 2) (mCons (M.ret (.int 82)) (mCons (mCall lenM (mCons (mV 0) mNil)) mNil)))))
  (sRet (mTup (mCons (M.ret (.str "tree")) (mCons (mV 6) (mCons (mCall tupleM (mCons (mNew (mLc [8] (mRng1 (mCons (mOp2 ixM (mV 0) (mV 6)) mNil)) (gN 8) mYes (mCall g_law_part_518aa (mCons (mV 0) (mCons (mOp2 ixM (mV 4) (mOp2 modM (mCall intM (mCons (mV 8) mNil)) (mCall lenM (mCons (mV 4) mNil)))) mNil))))) mNil)) mNil))))))
    sNil)
  (sRet (mCall g_law_leaf_52ac9 (mCons (mV 0) (mCons (mV 2) mNil))))))))))
def g_law_form_06328 : List PyData → Option PyData := runD ["sizes", "cells", "cell", "word", "rest", "listed", "field", "one", "k"] 2 v_law_form_06328
theorem r_law_form_06328 (x0 : PyData) (x1 : PyData) : g_law_form_06328 [x0, x1] = outD (v_law_form_06328 [.pl x0, .pl x1, .un, .un, .un, .un, .un, .un, .un]) := rfl
def v_law_said_e4d74 (self : List PyData → Option PyData) : SM := (sSeq (sAsg (mTup (mCons (mOp2 ixM (mV 1) (M.ret (.int 0))) (mCons (mOp2 ixM (mV 1) (M.ret (.int 1))) mNil))) (gTupD 2 (gConsD (gN 3) (gConsD (gN 4) gNilD))))
  (sSeq (sIf (mOpT eqM (mV 3) (M.ret (.str "say")))
    (sRet (mV 4))
    sNil)
  (sSeq (sIf (mOpT eqM (mV 3) (M.ret (.str "is")))
    (sRet (mOp2 inM (mOp2 ixM (mV 2) (mV 4)) (mOp2 ixM (mV 1) (M.ret (.int 2)))))
    sNil)
  (sSeq (sIf (mOpT eqM (mV 3) (M.ret (.str "tree")))
    (sRet (mCall self (mCons (mV 0) (mCons (mOp2 ixM (mOp2 ixM (mV 1) (M.ret (.int 2))) (mOp2 ixM (mV 2) (mV 4))) (mCons (mV 2) mNil)))))
    sNil)
  (sSeq (sIf (mOpT eqM (mV 3) (M.ret (.str "rules")))
    (sSeq (sSet 6 (mNew (mLc [9] (mSeq (mV 4)) (gN 9) (mTru (mCall allM (mCons (mNew (mLc [5, 11] (mSeq (mOp2 ixM (mV 9) (M.ret (.int 0)))) (gTupD 2 (gConsD (gN 5) (gConsD (gN 11) gNilD))) mYes (mOp2 inM (mOp2 ixM (mV 2) (mV 5)) (mV 11)))) mNil))) (mOp2 ixM (mV 9) (M.ret (.int 1))))))
  (sRet (mOp2 ixM (mOp2 addM (mV 6) (mNew (mLst (mCons (mOp2 ixM (mV 1) (M.ret (.int 2))) mNil)))) (M.ret (.int 0)))))
    sNil)
  (sSeq (sIf (mOpT eqM (mV 3) (M.ret (.str "card")))
    (sRet (mOp2 geM (mCall sumM (mCons (mNew (mLc [5] (mRng1 (mCons (mCall lenM (mCons (mV 2) mNil)) mNil)) (gN 5) mYes (mOp2 ixM (mOp2 ixM (mV 4) (mV 5)) (mOp2 ixM (mV 2) (mV 5))))) mNil)) (mOp2 ixM (mV 1) (M.ret (.int 2)))))
    sNil)
  (sSeq (sIf (mOpT eqM (mV 3) (M.ret (.str "table")))
    (sSeq (sSet 7 (M.ret (.int 0)))
  (sSeq (sFor (mRng1 (mCons (mCall lenM (mCons (mV 2) mNil)) mNil)) (gN 5)
    (sSet 7 (mOp2 addM (mOp2 mulM (mV 7) (mOp2 ixM (mV 0) (mV 5))) (mOp2 ixM (mV 2) (mV 5)))))
  (sRet (mOp2 ixM (mV 4) (mV 7)))))
    sNil)
  (sSeq (sIf (mOpT eqM (mV 3) (M.ret (.str "not")))
    (sRet (mNotV (mCall self (mCons (mV 0) (mCons (mV 4) (mCons (mV 2) mNil))))))
    sNil)
  (sSeq (sSet 8 (mCall lenM (mCons (mNew (mLc [10] (mSeq (mV 4)) (gN 10) (mTru (mCall self (mCons (mV 0) (mCons (mV 10) (mCons (mV 2) mNil))))) (mV 10))) mNil)))
  (sSeq (sIf (mOpT eqM (mV 3) (M.ret (.str "and")))
    (sRet (mOp2 eqM (mV 8) (mCall lenM (mCons (mV 4) mNil))))
    sNil)
  (sSeq (sIf (mOpT eqM (mV 3) (M.ret (.str "or")))
    (sRet (mOp2 gtM (mV 8) (M.ret (.int 0))))
    sNil)
  (sRet (mOp2 eqM (mOp2 modM (mCall intM (mCons (mV 8) mNil)) (M.ret (.int 2))) (M.ret (.int 1)))))))))))))))
def g_law_said_e4d74 : Nat → List PyData → Option PyData
  | 0 => fun _ => none
  | n + 1 => runD ["sizes", "form", "case", "word", "first", "field", "hits", "at", "many", "rule", "part", "values"] 3 (v_law_said_e4d74 (g_law_said_e4d74 n))
theorem r_law_said_e4d74 {n : Nat} (x0 : PyData) (x1 : PyData) (x2 : PyData) : g_law_said_e4d74 (n + 1) [x0, x1, x2] = outD ((v_law_said_e4d74 (g_law_said_e4d74 n)) [.pl x0, .pl x1, .pl x2, .un, .un, .un, .un, .un, .un, .un, .un, .un]) := rfl
def v_law_cases_72b18 : SM := (sSeq (sSet 1 (mNew (mLst (mCons (mNew (mLst mNil)) mNil))))
  (sSeq (sFor (mSeq (mV 0)) (gN 2)
    (sSeq (sOwn 3 (mLst mNil))
  (sSeq (sFor (mSeq (mV 1)) (gN 4)
    (sFor (mRng1 (mCons (mV 2) mNil)) (gN 5)
    (sApp 3 (mOp2 addM (mV 4) (mNew (mLst (mCons (mV 5) mNil)))))))
  (sFrz 3 (sSet 1 (mV 3))))))
  (sRet (mV 1))))
def g_law_cases_72b18 : List PyData → Option PyData := runD ["sizes", "rows", "size", "longer", "row", "part"] 1 v_law_cases_72b18
theorem r_law_cases_72b18 (x0 : PyData) : g_law_cases_72b18 [x0] = outD (v_law_cases_72b18 [.pl x0, .un, .un, .un, .un, .un]) := rfl
def v_law_sizes_48d55 : SM := (sSeq (sSet 3 (mOp2 ixM (mTup (mCons (M.ret (.int 5)) (mCons (M.ret (.int 2)) (mCons (M.ret (.int 1)) mNil)))) (mCall g_law_draw_48e0b (mCons (mV 0) (mCons (M.ret (.int 12)) (mCons (M.ret (.int 3)) mNil))))))
  (sSeq (sOwn 4 (mLst mNil))
  (sSeq (sSet 5 (M.ret (.int 1)))
  (sSeq (sFor (mRng1 (mCons (mCall g_law_draw_48e0b (mCons (mV 0) (mCons (M.ret (.int 0)) (mCons (M.ret (.int 11)) mNil)))) mNil)) (gN 6)
    (sSeq (sSet 7 (mOp2 addM (M.ret (.int 2)) (mCall g_law_draw_48e0b (mCons (mV 0) (mCons (mOp2 addM (M.ret (.int 1)) (mV 6)) (mCons (mV 3) mNil))))))
  (sIf (mOpT leM (mOp2 mulM (mV 5) (mOp2 addM (mV 7) (mV 1))) (mV 2))
    (sSeq (sApp 4 (mV 7))
  (sSet 5 (mOp2 mulM (mV 5) (mOp2 addM (mV 7) (mV 1)))))
    sNil)))
  (sFrz 4 (sRet (mV 4)))))))
def g_law_sizes_48d55 : List PyData → Option PyData := runD ["cell", "more", "most", "top", "sizes", "many", "k", "size"] 3 v_law_sizes_48d55
theorem r_law_sizes_48d55 (x0 : PyData) (x1 : PyData) (x2 : PyData) : g_law_sizes_48d55 [x0, x1, x2] = outD (v_law_sizes_48d55 [.pl x0, .pl x1, .pl x2, .un, .un, .un, .un, .un]) := rfl
def v_law_cell_98eb9 : SM := (sSeq (sIf (mOpT ltM (mV 1) (mCall lenM (mCons (mV 0) mNil)))
    (sRet (mOp2 ixM (mV 0) (mV 1)))
    sNil)
  (sRet (M.ret (.int 0))))
def g_law_cell_98eb9 : List PyData → Option PyData := runD ["script", "k"] 2 v_law_cell_98eb9
theorem r_law_cell_98eb9 (x0 : PyData) (x1 : PyData) : g_law_cell_98eb9 [x0, x1] = outD (v_law_cell_98eb9 [.pl x0, .pl x1]) := rfl
def v_law_integer_55dc8 : SM := (sRet (mAndV (mIsi "int" (mV 0)) (mNotV (mIsi "bool" (mV 0)))))
def g_law_integer_55dc8 : List PyData → Option PyData := runD ["found"] 1 v_law_integer_55dc8
theorem r_law_integer_55dc8 (x0 : PyData) : g_law_integer_55dc8 [x0] = outD (v_law_integer_55dc8 [.pl x0]) := rfl
def v_law_half_77902 : SM := (sSeq (sSet 2 (mOp2 ixM (mTup (mCons (M.ret (.int 4)) (mCons (M.ret (.int 2)) (mCons (M.ret (.int 1)) (mCons (M.ret (.int 2)) mNil))))) (mCall g_law_draw_48e0b (mCons (mV 1) (mCons (M.ret (.int 0)) (mCons (M.ret (.int 4)) mNil))))))
  (sSeq (sOwn 3 (mLst mNil))
  (sSeq (sFor (mRng1 (mCons (mCall lenM (mCons (mV 0) mNil)) mNil)) (gN 4)
    (sIf (mOpT ltM (mCall g_law_draw_48e0b (mCons (mV 1) (mCons (mOp2 addM (mOp2 mulM (M.ret (.int 2)) (mV 4)) (M.ret (.int 1))) (mCons (M.ret (.int 4)) mNil)))) (mV 2))
    (sApp 3 (M.ret .none))
    (sApp 3 (mCall g_law_draw_48e0b (mCons (mV 1) (mCons (mOp2 addM (mOp2 mulM (M.ret (.int 2)) (mV 4)) (M.ret (.int 2))) (mCons (mOp2 ixM (mV 0) (mV 4)) mNil)))))))
  (sFrz 3 (sRet (mV 3))))))
def g_law_half_77902 : List PyData → Option PyData := runD ["sizes", "cell", "quarters", "row", "field"] 2 v_law_half_77902
theorem r_law_half_77902 (x0 : PyData) (x1 : PyData) : g_law_half_77902 [x0, x1] = outD (v_law_half_77902 [.pl x0, .pl x1, .un, .un, .un]) := rfl
def v_law_completes_14a79 : SM := (sRet (mCall allM (mCons (mNew (mLc [2] (mRng1 (mCons (mCall lenM (mCons (mV 0) mNil)) mNil)) (gN 2) mYes (mOrV (mOp2 isM (mOp2 ixM (mV 0) (mV 2)) (M.ret .none)) (mOp2 eqM (mOp2 ixM (mV 0) (mV 2)) (mOp2 ixM (mV 1) (mV 2)))))) mNil)))
def g_law_completes_14a79 : List PyData → Option PyData := runD ["half", "case", "field"] 2 v_law_completes_14a79
theorem r_law_completes_14a79 (x0 : PyData) (x1 : PyData) : g_law_completes_14a79 [x0, x1] = outD (v_law_completes_14a79 [.pl x0, .pl x1, .un]) := rfl
def v_law_open_deba1 : SM := (sRet (mNew (mLc [1] (mRng1 (mCons (mCall lenM (mCons (mV 0) mNil)) mNil)) (gN 1) (mOpT isM (mOp2 ixM (mV 0) (mV 1)) (M.ret .none)) (mV 1))))
def g_law_open_deba1 : List PyData → Option PyData := runD ["half", "field"] 1 v_law_open_deba1
theorem r_law_open_deba1 (x0 : PyData) : g_law_open_deba1 [x0] = outD (v_law_open_deba1 [.pl x0, .un]) := rfl
def v_law_with_46d88 : SM := (sRet (mOp2 addM (mOp2 addM (mNew (mSlice (mV 0) mNoPart (mPart (mV 1)))) (mNew (mLst (mCons (mV 2) mNil)))) (mNew (mSlice (mV 0) (mPart (mOp2 addM (mV 1) (M.ret (.int 1)))) mNoPart))))
def g_law_with_46d88 : List PyData → Option PyData := runD ["half", "field", "part"] 3 v_law_with_46d88
theorem r_law_with_46d88 (x0 : PyData) (x1 : PyData) (x2 : PyData) : g_law_with_46d88 [x0, x1, x2] = outD (v_law_with_46d88 [.pl x0, .pl x1, .pl x2]) := rfl
def v_law_verdict_47192 : SM := (sSeq (sSet 3 (mNew (mLc [4] (mRng1 (mCons (mCall lenM (mCons (mV 0) mNil)) mNil)) (gN 4) (mTru (mCall g_law_completes_14a79 (mCons (mV 2) (mCons (mOp2 ixM (mV 0) (mV 4)) mNil)))) (mOp2 ixM (mV 1) (mV 4)))))
  (sSeq (sIf (mTru (mCall allM (mCons (mNew (mLc [5] (mSeq (mV 3)) (gN 5) mYes (mOp2 eqM (mV 5) (mOp2 ixM (mV 3) (M.ret (.int 0)))))) mNil)))
    (sRet (mOp2 ixM (mV 3) (M.ret (.int 0))))
    sNil)
  (sRet (M.ret .none))))
def g_law_verdict_47192 : List PyData → Option PyData := runD ["cases", "results", "half", "found", "k", "result"] 3 v_law_verdict_47192
theorem r_law_verdict_47192 (x0 : PyData) (x1 : PyData) (x2 : PyData) : g_law_verdict_47192 [x0, x1, x2] = outD (v_law_verdict_47192 [.pl x0, .pl x1, .pl x2, .un, .un, .un]) := rfl
def v_law_same_bef3f : SM := (sSeq (sIf (mOr (mOpT isM (mV 0) (M.ret .none)) (mOpT isM (mV 1) (M.ret .none)))
    (sRet (mAndV (mOp2 isM (mV 0) (M.ret .none)) (mOp2 isM (mV 1) (M.ret .none))))
    sNil)
  (sRet (mAndV (mIsi "bool" (mV 0)) (mAndV (mIsi "bool" (mV 1)) (mOp2 eqM (mV 0) (mV 1))))))
def g_law_same_bef3f : List PyData → Option PyData := runD ["one", "other"] 2 v_law_same_bef3f
theorem r_law_same_bef3f (x0 : PyData) (x1 : PyData) : g_law_same_bef3f [x0, x1] = outD (v_law_same_bef3f [.pl x0, .pl x1]) := rfl
end DL
namespace DL
open PySem PySem.Spec PyProof.Rows L2 Lk
def v_q_case_of_place : SM := (sSeq (sOwn 2 (mRep (mLst (mCons (M.ret (.int 0)) mNil)) (mCall lenM (mCons (mV 0) mNil))))
  (sSeq (sSet 3 (mV 1))
  (sSeq (sFor (mRevR (mCall lenM (mCons (mV 0) mNil))) (gN 4)
    (sSeq (sPutIx 2 (mV 4) (mOp2 modM (mV 3) (mOp2 ixM (mV 0) (mV 4))))
  (sSet 3 (mOp2 divM (mV 3) (mOp2 ixM (mV 0) (mV 4))))))
  (sRetO 2))))
def g_q_case_of_place : List PyData → Option PQ := runQ ["sizes", "place", "case", "rest", "at"] 2 v_q_case_of_place
theorem r_q_case_of_place (x0 : PyData) (x1 : PyData) : g_q_case_of_place [x0, x1] = outQ (v_q_case_of_place [.pl x0, .pl x1, .un, .un, .un]) := rfl
def v_q_nth_yes : SM := (sSeq (sExpr (mCall g_check_small_form (mCons (mV 0) (mCons (mV 1) mNil))))
  (sSeq (sSet 3 (mCall g_yes_places (mCons (mV 0) (mCons (mV 1) mNil))))
  (sSeq (sExpr (mCall g_check_index (mCons (mV 2) (mCons (mCall lenM (mCons (mV 3) mNil)) mNil))))
  (sRetQ (mCallQ g_q_case_of_place (mCons (mV 0) (mCons (mOp2 ixM (mV 3) (mV 2)) mNil)))))))
def g_q_nth_yes : List PyData → Option PQ := runQ ["sizes", "form", "index", "places"] 3 v_q_nth_yes
theorem r_q_nth_yes (x0 : PyData) (x1 : PyData) (x2 : PyData) : g_q_nth_yes [x0, x1, x2] = outQ (v_q_nth_yes [.pl x0, .pl x1, .pl x2, .un]) := rfl
end DL
namespace DL
open PySem PySem.Spec PyProof.Rows L2 Lk
def v_law_table_6dbb7 : SM := (sRet (mTup (mCons (M.ret (.str "table")) (mCons (mCall tupleM (mCons (mV 1) mNil)) mNil))))
def g_law_table_6dbb7 : List PyData → Option PyData := runD ["sizes", "results"] 2 v_law_table_6dbb7
theorem r_law_table_6dbb7 (x0 : PyData) (x1 : PyData) : g_law_table_6dbb7 [x0, x1] = outD (v_law_table_6dbb7 [.pl x0, .pl x1]) := rfl
def v_law_second_9359c : SM := (sSeq (sSet 4 (mOp2 ixM (mOp2 addM (mV 3) (mNew (mLst (mCons (M.ret (.int 0)) mNil)))) (M.ret (.int 0))))
  (sSeq (sSet 5 (mCall g_law_draw_48e0b (mCons (mV 4) (mCons (M.ret (.int 83)) (mCons (M.ret (.int 6)) mNil)))))
  (sSeq (sIf (mOpT eqM (mV 5) (M.ret (.int 0)))
    (sRet (mTup (mCons (M.ret (.str "not")) (mCons (mTup (mCons (M.ret (.str "not")) (mCons (mV 1) mNil))) mNil))))
    sNil)
  (sSeq (sIf (mOpT eqM (mV 5) (M.ret (.int 1)))
    (sRet (mCall g_law_table_6dbb7 (mCons (mV 0) (mCons (mV 2) mNil))))
    sNil)
  (sSeq (sIf (mOr (mOpT eqM (mV 5) (M.ret (.int 2))) (mOpT eqM (mV 5) (M.ret (.int 3))))
    (sSeq (sOwn 6 (mCallF listM (mCons (mV 2) mNil)))
  (sSeq (sFor (mRng1 (mCons (mOp2 addM (mCall g_law_draw_48e0b (mCons (mV 4) (mCons (M.ret (.int 84)) (mCons (M.ret (.int 3)) mNil)))) (M.ret (.int 1))) mNil)) (gN 7)
    (sSeq (sSet 8 (mCall g_law_draw_48e0b (mCons (mV 4) (mCons (mOp2 addM (M.ret (.int 85)) (mV 7)) (mCons (mLenO 6) mNil)))))
  (sPutIx 6 (mV 8) (mNotV (mIxO 6 (mV 8))))))
  (sFrz 6 (sRet (mCall g_law_table_6dbb7 (mCons (mV 0) (mCons (mV 6) mNil)))))))
    sNil)
  (sRet (mCall g_law_form_06328 (mCons (mV 0) (mCons (mV 3) mNil)))))))))
def g_law_second_9359c : List PyData → Option PyData := runD ["sizes", "form", "results", "cells", "cell", "word", "turned", "k", "at"] 4 v_law_second_9359c
theorem r_law_second_9359c (x0 : PyData) (x1 : PyData) (x2 : PyData) (x3 : PyData) : g_law_second_9359c [x0, x1, x2, x3] = outD (v_law_second_9359c [.pl x0, .pl x1, .pl x2, .pl x3, .un, .un, .un, .un, .un]) := rfl
def v_q_parting_case : SM := (sSeq (sExpr (mCall g_p_check_both (mCons (mV 0) (mCons (mV 1) (mCons (mV 2) mNil)))))
  (sSeq (sSet 3 (mCall g_p_parted_places (mCons (mV 0) (mCons (mV 1) (mCons (mV 2) mNil)))))
  (sRetQ (mIf (mOpT neM (mV 3) (mNew (mLst mNil))) (mCallQ g_q_case_of_place (mCons (mV 0) (mCons (mOp2 ixM (mV 3) (M.ret (.int 0))) mNil))) (mInl (M.ret .none))))))
def g_q_parting_case : List PyData → Option PQ := runQ ["sizes", "one", "other", "places"] 3 v_q_parting_case
theorem r_q_parting_case (x0 : PyData) (x1 : PyData) (x2 : PyData) : g_q_parting_case [x0, x1, x2] = outQ (v_q_parting_case [.pl x0, .pl x1, .pl x2, .un]) := rfl
def v_law_case_is_da430 : SM := (sSeq (sIf (mOpT isM (mV 1) (M.ret .none))
    (sRet (mOp2 isM (mV 0) (M.ret .none)))
    sNil)
  (sRet (mAndV (mIsi "list" (mV 0)) (mAndV (mCall allM (mCons (mNew (mLc [2] (mSeq (mV 0)) (gN 2) mYes (mCall g_law_integer_55dc8 (mCons (mV 2) mNil)))) mNil)) (mOp2 eqM (mV 0) (mV 1))))))
def g_law_case_is_da430 : List PyData → Option PyData := runD ["found", "due", "part"] 2 v_law_case_is_da430
theorem r_law_case_is_da430 (x0 : PyData) (x1 : PyData) : g_law_case_is_da430 [x0, x1] = outD (v_law_case_is_da430 [.pl x0, .pl x1, .un]) := rfl
def v_law_truth_badf5 : SM := (sRet (mAndV (mIsi "bool" (mV 0)) (mOp2 eqM (mV 0) (mV 1))))
def g_law_truth_badf5 : List PyData → Option PyData := runD ["found", "due"] 2 v_law_truth_badf5
theorem r_law_truth_badf5 (x0 : PyData) (x1 : PyData) : g_law_truth_badf5 [x0, x1] = outD (v_law_truth_badf5 [.pl x0, .pl x1]) := rfl
def v_law_asked_5fd05 : SM := (sSeq (sIf (mOpT eqM (mV 6) (M.ret (.int 0)))
    (sRet (mCall g_law_truth_badf5 (mCons (mCall g_alike (mCons (mNew (mCallF listM (mCons (mV 0) mNil))) (mCons (mV 1) (mCons (mV 2) mNil)))) (mCons (mOp2 eqM (mV 3) (mV 4)) mNil))))
    sNil)
  (sSeq (sIf (mOpT eqM (mV 6) (M.ret (.int 1)))
    (sSeq (sSet 7 (mCall allM (mCons (mNew (mLc [10] (mRng1 (mCons (mCall lenM (mCons (mV 3) mNil)) mNil)) (gN 10) (mTru (mOp2 ixM (mV 3) (mV 10))) (mOp2 ixM (mV 4) (mV 10)))) mNil)))
  (sRet (mCall g_law_truth_badf5 (mCons (mCall g_within (mCons (mNew (mCallF listM (mCons (mV 0) mNil))) (mCons (mV 1) (mCons (mV 2) mNil)))) (mCons (mV 7) mNil)))))
    sNil)
  (sSeq (sSet 8 (mNew (mLc [10] (mRng1 (mCons (mCall lenM (mCons (mV 3) mNil)) mNil)) (gN 10) (mOpT neM (mOp2 ixM (mV 3) (mV 10)) (mOp2 ixM (mV 4) (mV 10))) (mV 10))))
  (sSeq (sIf (mOpT eqM (mV 6) (M.ret (.int 2)))
    (sSeq (sSet 9 (mCall g_count_parted (mCons (mNew (mCallF listM (mCons (mV 0) mNil))) (mCons (mV 1) (mCons (mV 2) mNil)))))
  (sFrz 9 (sRet (mAndV (mCall g_law_integer_55dc8 (mCons (mV 9) mNil)) (mOp2 eqM (mV 9) (mCall lenM (mCons (mV 8) mNil)))))))
    sNil)
  (sSeq (sSet 7 (mOp2 ixM (mOp2 addM (mNew (mLc [10] (mSeq (mV 8)) (gN 10) mYes (mOp2 ixM (mV 5) (mV 10)))) (mNew (mLst (mCons (M.ret .none) mNil)))) (M.ret (.int 0))))
  (sSeq (sSetQ 9 (mCallQ g_q_parting_case (mCons (mNew (mCallF listM (mCons (mV 0) mNil))) (mCons (mV 1) (mCons (mV 2) mNil)))))
  (sSeq (sIf (mPeek (mNotT (mTru (mCall g_law_case_is_da430 (mCons (mV 9) (mCons (mV 7) mNil))))))
    (sRet (M.ret (.bool false)))
    sNil)
  (sSeq (sIf (mPeek (mOpT isNotM (mV 9) (M.ret .none)))
    (sApp 9 (M.ret (.int 0)))
    sNil)
  (sRet (mCall g_law_case_is_da430 (mCons (mCall g_parting_case (mCons (mNew (mCallF listM (mCons (mV 0) mNil))) (mCons (mV 1) (mCons (mV 2) mNil)))) (mCons (mV 7) mNil))))))))))))
def g_law_asked_5fd05 : List PyData → Option PyData := runD ["sizes", "one", "other", "ours", "theirs", "cases", "word", "due", "places", "found", "k"] 7 v_law_asked_5fd05
theorem r_law_asked_5fd05 (x0 : PyData) (x1 : PyData) (x2 : PyData) (x3 : PyData) (x4 : PyData) (x5 : PyData) (x6 : PyData) : g_law_asked_5fd05 [x0, x1, x2, x3, x4, x5, x6] = outD (v_law_asked_5fd05 [.pl x0, .pl x1, .pl x2, .pl x3, .pl x4, .pl x5, .pl x6, .un, .un, .un, .un]) := rfl
def v_law_k61 : SM := (sSeq (sSet 1 (mCall g_law_cell_98eb9 (mCons (mV 0) (mCons (M.ret (.int 0)) mNil))))
  (sSeq (sSet 2 (M.ret (.int 64)))
  (sSeq (sIf (mOpT eqM (mCall g_law_draw_48e0b (mCons (mV 1) (mCons (M.ret (.int 48)) (mCons (M.ret (.int 16)) mNil)))) (M.ret (.int 3)))
    (sSet 2 (M.ret (.int 1024)))
    sNil)
  (sSeq (sSet 3 (mCall g_law_sizes_48d55 (mCons (mV 1) (mCons (M.ret (.int 0)) (mCons (mV 2) mNil)))))
  (sSeq (sSet 4 (mCall g_law_cases_72b18 (mCons (mV 3) mNil)))
  (sSeq (sSet 5 (mCall g_law_form_06328 (mCons (mV 3) (mCons (mNew (mSlice (mV 0) (mPart (M.ret (.int 1))) (mPart (M.ret (.int 14))))) mNil))))
  (sSeq (sIf (mOpT gtM (mV 2) (M.ret (.int 64)))
    (sSet 5 (mCall g_law_part_518aa (mCons (mV 3) (mCons (mCall g_law_cell_98eb9 (mCons (mV 0) (mCons (M.ret (.int 1)) mNil))) mNil))))
    sNil)
  (sSeq (sSet 6 (mNew (mLc [12] (mSeq (mV 4)) (gN 12) mYes (mCall (g_law_said_e4d74 FU) (mCons (mV 3) (mCons (mV 5) (mCons (mV 12) mNil)))))))
  (sSeq (sSet 7 (mCall g_law_second_9359c (mCons (mV 3) (mCons (mV 5) (mCons (mV 6) (mCons (mNew (mSlice (mV 0) (mPart (M.ret (.int 14))) (mPart (mOp2 addM (M.ret (.int 15)) (mOp2 divM (mOp2 mulM (M.ret (.int 13)) (M.ret (.int 64))) (mV 2)))))) mNil))))))
  (sSeq (sIf (mAnd (mOpT gtM (mV 2) (M.ret (.int 64))) (mOpT eqM (mCall g_law_draw_48e0b (mCons (mV 1) (mCons (M.ret (.int 49)) (mCons (M.ret (.int 2)) mNil)))) (M.ret (.int 1))))
    (sSet 7 (mCall g_law_part_518aa (mCons (mV 3) (mCons (mCall g_law_cell_98eb9 (mCons (mV 0) (mCons (M.ret (.int 2)) mNil))) mNil))))
    sNil)
  (sSeq (sSet 8 (mNew (mLc [12] (mSeq (mV 4)) (gN 12) mYes (mCall (g_law_said_e4d74 FU) (mCons (mV 3) (mCons (mV 7) (mCons (mV 12) mNil)))))))
  (sSeq (sIf (mOpT eqM (mCall g_law_draw_48e0b (mCons (mV 1) (mCons (M.ret (.int 40)) (mCons (M.ret (.int 2)) mNil)))) (M.ret (.int 1)))
    (sAsg (mTup (mCons (mV 7) (mCons (mV 5) (mCons (mV 8) (mCons (mV 6) mNil))))) (gTupD 4 (gConsD (gN 5) (gConsD (gN 7) (gConsD (gN 6) (gConsD (gN 8) gNilD))))))
    sNil)
  (sSeq (sSet 9 (mCall g_law_draw_48e0b (mCons (mV 1) (mCons (M.ret (.int 41)) (mCons (M.ret (.int 4)) mNil)))))
  (sSeq (sFor (mRng1 (mCons (M.ret (.int 4)) mNil)) (gN 10)
    (sSeq (sIf (mNotT (mTru (mCall g_law_asked_5fd05 (mCons (mV 3) (mCons (mV 5) (mCons (mV 7) (mCons (mV 6) (mCons (mV 8) (mCons (mV 4) (mCons (mOp2 modM (mCall intM (mCons (mOp2 addM (mV 9) (mV 10)) mNil)) (M.ret (.int 4))) mNil))))))))))
    (sRet (M.ret (.bool false)))
    sNil)
  (sIf (mNotT (mTru (mCall g_law_asked_5fd05 (mCons (mV 3) (mCons (mV 7) (mCons (mV 5) (mCons (mV 8) (mCons (mV 6) (mCons (mV 4) (mCons (mOp2 modM (mCall intM (mCons (mOp2 addM (mV 9) (mOp2 mulM (M.ret (.int 3)) (mV 10))) mNil)) (M.ret (.int 4))) mNil))))))))))
    (sRet (M.ret (.bool false)))
    sNil)))
  (sSeq (sIf (mOpT gtM (mV 2) (M.ret (.int 64)))
    (sSeq (sSet 11 (mCall g_ordered_tree (mCons (mNew (mCallF listM (mCons (mV 3) mNil))) (mCons (mV 5) mNil))))
  (sSeq (sIf (mNotT (mTru (mCall g_law_asked_5fd05 (mCons (mV 3) (mCons (mV 11) (mCons (mV 7) (mCons (mV 6) (mCons (mV 8) (mCons (mV 4) (mCons (mV 9) mNil))))))))))
    (sRet (M.ret (.bool false)))
    sNil)
  (sRet (mCall g_law_asked_5fd05 (mCons (mV 3) (mCons (mV 5) (mCons (mV 11) (mCons (mV 6) (mCons (mV 6) (mCons (mV 4) (mCons (mOp2 modM (mCall intM (mCons (mOp2 addM (mV 9) (M.ret (.int 1))) mNil)) (M.ret (.int 4))) mNil)))))))))))
    sNil)
  (sRet (mCall g_law_asked_5fd05 (mCons (mV 3) (mCons (mV 5) (mCons (mV 5) (mCons (mV 6) (mCons (mV 6) (mCons (mV 4) (mCons (mV 9) mNil))))))))))))))))))))))))
def g_law_k61 : List PyData → Option PyData := runD ["script", "cell", "most", "sizes", "cases", "one", "ours", "other", "theirs", "start", "k", "tree", "case"] 1 v_law_k61
theorem r_law_k61 (x0 : PyData) : g_law_k61 [x0] = outD (v_law_k61 [.pl x0, .un, .un, .un, .un, .un, .un, .un, .un, .un, .un, .un, .un]) := rfl
end DL
namespace DL
open PySem PySem.Spec PyProof.Rows L2 Lk
def top (i : Nat) : Stmt := PySem.Challenge.pw_leastreasons_k61_two_forms_compared.main.body.getD i (.Pass ⟨0, 0, 0, 0⟩)
abbrev s_is_integer : Stmt := top 6
theorem sc_is_integer : FnScope ["value"] ["value"] (defScope s_is_integer) := ⟨rfl, rfl, rfl, by decide +kernel, rfl, by decide +kernel, by decide +kernel⟩
theorem f_is_integer {P : Program} {w : World} {K : PySem.W.Frag} {mg : Str → Option Value} {base : Heap} {f : Addr} {fd : FuncData} {k : Nat} (F : Fun K "is_integer" "is_integer" s_is_integer f fd) (hb : Binds K fd ["value"] []) (hm : mg "is_integer" = some (.ref f))
    (y_bool : mg "bool" = none)
    (y_int : mg "int" = none)
    (y_isinstance : mg "isinstance" = none) : FnOk P w K mg base CX0 (k + 1) f fd ["value"] (spD K g_is_integer) := fn_d F sc_is_integer fun cdv A outer s H E hr =>
  (dss_one (ds_ret (de_and (xe_isi (n := "int") (by decide) (by rfl) y_isinstance (by rfl) y_int (by decide +kernel) (de_v 0)) (de_one (xe_not (xe_isi (n := "bool") (by decide) (by rfl) y_isinstance (by rfl) y_bool (by decide +kernel) (de_v 0)))))))
theorem t_is_integer {P : Program} {w : World} {K : PySem.W.Frag} {mg : Str → Option Value} {base : Heap} {f : Addr} {fd : FuncData} {k : Nat} (F : Fun K "is_integer" "is_integer" s_is_integer f fd) (hb : Binds K fd ["value"] []) (hm : mg "is_integer" = some (.ref f))
    (y_bool : mg "bool" = none)
    (y_int : mg "int" = none)
    (y_isinstance : mg "isinstance" = none) : Has P w K mg base (k + 1) "is_integer" ["value"] (spD K g_is_integer) := ⟨f, fd, f_is_integer F hb hm y_bool y_int y_isinstance, hb, hm, F.kp⟩
abbrev s_is_sizes : Stmt := top 14
theorem sc_is_sizes : FnScope ["value", "size"] ["value"] (defScope s_is_sizes) := ⟨rfl, rfl, rfl, by decide +kernel, rfl, by decide +kernel, by decide +kernel⟩
theorem f_is_sizes {P : Program} {w : World} {K : PySem.W.Frag} {mg : Str → Option Value} {base : Heap} {f : Addr} {fd : FuncData} {k : Nat} (F : Fun K "is_sizes" "is_sizes" s_is_sizes f fd) (hb : Binds K fd ["value"] []) (hm : mg "is_sizes" = some (.ref f))
    (y_all : mg "all" = none)
    (m_GREATEST_SIZE : ∃ t, mg "GREATEST_SIZE" = some (.int 6 t))
    (m_LEAST_SIZE : ∃ t, mg "LEAST_SIZE" = some (.int 2 t))
    (m_MOST_FIELDS : ∃ t, mg "MOST_FIELDS" = some (.int 24 t))
    (y_isinstance : mg "isinstance" = none)
    (y_len : mg "len" = none)
    (y_list : mg "list" = none)
    (G_is_integer : Has P w K mg base k "is_integer" ["value"] (spD K g_is_integer)) : FnOk P w K mg base CX0 (k + 1) f fd ["value"] (spD K g_is_sizes) := fn_d F sc_is_sizes fun cdv A outer s H E hr =>
  (dss_cons (ds_if (DW.pt (dw_or (xt_not (xt_tru (xe_isi (n := "list") (by decide) (by rfl) y_isinstance (by rfl) y_list (by decide +kernel) (de_v 0)))) (dw_or1 (xt_cmp opd_gt (xcB cd_len (by rfl) y_len (by decide +kernel) (xa_cons (de_v 0) xa_nil)) (de_g (v := .int 24) (d := .int 24) (by rfl) m_MOST_FIELDS.choose_spec ⟨_, rfl⟩ fun _ => .int _) (nomark _)))))
    (dss_one (ds_ret de_bl))
    dss_nil)
  (dss_one (ds_ret (xcB (cd_all rfl) (by rfl) y_all (by decide +kernel) (xa_cons (xe_fr (df_lc (own := [("size", 1)]) rfl sc_is_sizes.nd (xi_seq (de_v 0)) (blkOk_by (by kernel_rfl)) (fun _ _ _ _ _ => (dg_name 1 sc_is_sizes.nd rfl (by first | exact Or.inl rfl | exact Or.inr rfl))) (fun _ _ _ _ _ => dts_nil) (fun _ _ _ _ _ => (de_and (xc G_is_integer hr (by rfl) (xa_cons (de_v 1) xa_nil)) (de_one (de_chain opd_le opd_le (de_g (v := .int 2) (d := .int 2) (by rfl) m_LEAST_SIZE.choose_spec ⟨_, rfl⟩ fun _ => .int _) (de_v 1) (de_g (v := .int 6) (d := .int 6) (by rfl) m_GREATEST_SIZE.choose_spec ⟨_, rfl⟩ fun _ => .int _))))))) xa_nil)))))
theorem t_is_sizes {P : Program} {w : World} {K : PySem.W.Frag} {mg : Str → Option Value} {base : Heap} {f : Addr} {fd : FuncData} {k : Nat} (F : Fun K "is_sizes" "is_sizes" s_is_sizes f fd) (hb : Binds K fd ["value"] []) (hm : mg "is_sizes" = some (.ref f))
    (y_all : mg "all" = none)
    (m_GREATEST_SIZE : ∃ t, mg "GREATEST_SIZE" = some (.int 6 t))
    (m_LEAST_SIZE : ∃ t, mg "LEAST_SIZE" = some (.int 2 t))
    (m_MOST_FIELDS : ∃ t, mg "MOST_FIELDS" = some (.int 24 t))
    (y_isinstance : mg "isinstance" = none)
    (y_len : mg "len" = none)
    (y_list : mg "list" = none)
    (G_is_integer : Has P w K mg base k "is_integer" ["value"] (spD K g_is_integer)) : Has P w K mg base (k + 1) "is_sizes" ["value"] (spD K g_is_sizes) := ⟨f, fd, f_is_sizes F hb hm y_all m_GREATEST_SIZE m_LEAST_SIZE m_MOST_FIELDS y_isinstance y_len y_list G_is_integer, hb, hm, F.kp⟩
abbrev s_check_sizes : Stmt := top 15
theorem sc_check_sizes : FnScope ["sizes"] ["sizes"] (defScope s_check_sizes) := ⟨rfl, rfl, rfl, by decide +kernel, rfl, by decide +kernel, by decide +kernel⟩
theorem f_check_sizes {P : Program} {w : World} {K : PySem.W.Frag} {mg : Str → Option Value} {base : Heap} {f : Addr} {fd : FuncData} {k : Nat} (F : Fun K "check_sizes" "check_sizes" s_check_sizes f fd) (hb : Binds K fd ["sizes"] []) (hm : mg "check_sizes" = some (.ref f))
    (G_is_sizes : Has P w K mg base k "is_sizes" ["value"] (spD K g_is_sizes)) : FnOk P w K mg base CX0 (k + 1) f fd ["sizes"] (spD K g_check_sizes) := fn_d F sc_check_sizes fun cdv A outer s H E hr =>
  (dss_one (ds_if (xt_not (xt_tru (xc G_is_sizes hr (by rfl) (xa_cons (de_v 0) xa_nil))))
    (dss_one xs_no)
    dss_nil))
theorem t_check_sizes {P : Program} {w : World} {K : PySem.W.Frag} {mg : Str → Option Value} {base : Heap} {f : Addr} {fd : FuncData} {k : Nat} (F : Fun K "check_sizes" "check_sizes" s_check_sizes f fd) (hb : Binds K fd ["sizes"] []) (hm : mg "check_sizes" = some (.ref f))
    (G_is_sizes : Has P w K mg base k "is_sizes" ["value"] (spD K g_is_sizes)) : Has P w K mg base (k + 1) "check_sizes" ["sizes"] (spD K g_check_sizes) := ⟨f, fd, f_check_sizes F hb hm G_is_sizes, hb, hm, F.kp⟩
abbrev s_number_of_cases : Stmt := top 16
theorem sc_number_of_cases : FnScope ["sizes", "number", "size"] ["sizes"] (defScope s_number_of_cases) := ⟨rfl, rfl, rfl, by decide +kernel, rfl, by decide +kernel, by decide +kernel⟩
theorem f_number_of_cases {P : Program} {w : World} {K : PySem.W.Frag} {mg : Str → Option Value} {base : Heap} {f : Addr} {fd : FuncData} {k : Nat} (F : Fun K "number_of_cases" "number_of_cases" s_number_of_cases f fd) (hb : Binds K fd ["sizes"] []) (hm : mg "number_of_cases" = some (.ref f))
     : FnOk P w K mg base CX0 (k + 1) f fd ["sizes"] (spD K g_number_of_cases) := fn_d F sc_number_of_cases fun cdv A outer s H E hr =>
  (dss_cons (ds_set (i := 1) sc_number_of_cases.nd rfl (by first | exact Or.inl rfl | exact Or.inr rfl) de_int)
  (dss_cons (ds_for PassesOwn.never rfl (xi_seq (de_v 0)) (dg_name 2 sc_number_of_cases.nd rfl (by first | exact Or.inl rfl | exact Or.inr rfl))
    (dss_one (ds_set (i := 1) sc_number_of_cases.nd rfl (by first | exact Or.inl rfl | exact Or.inr rfl) (xe_op opd_mul (de_v 1) (de_v 2)))))
  (dss_one (ds_ret (de_v 1)))))
theorem t_number_of_cases {P : Program} {w : World} {K : PySem.W.Frag} {mg : Str → Option Value} {base : Heap} {f : Addr} {fd : FuncData} {k : Nat} (F : Fun K "number_of_cases" "number_of_cases" s_number_of_cases f fd) (hb : Binds K fd ["sizes"] []) (hm : mg "number_of_cases" = some (.ref f))
     : Has P w K mg base (k + 1) "number_of_cases" ["sizes"] (spD K g_number_of_cases) := ⟨f, fd, f_number_of_cases F hb hm , hb, hm, F.kp⟩
abbrev s_is_small_sheet : Stmt := top 17
theorem sc_is_small_sheet : FnScope ["sizes"] ["sizes"] (defScope s_is_small_sheet) := ⟨rfl, rfl, rfl, by decide +kernel, rfl, by decide +kernel, by decide +kernel⟩
theorem f_is_small_sheet {P : Program} {w : World} {K : PySem.W.Frag} {mg : Str → Option Value} {base : Heap} {f : Addr} {fd : FuncData} {k : Nat} (F : Fun K "is_small_sheet" "is_small_sheet" s_is_small_sheet f fd) (hb : Binds K fd ["sizes"] []) (hm : mg "is_small_sheet" = some (.ref f))
    (m_MOST_CASES_OF_SMALL : ∃ t, mg "MOST_CASES_OF_SMALL" = some (.int 1024 t))
    (G_number_of_cases : Has P w K mg base k "number_of_cases" ["sizes"] (spD K g_number_of_cases)) : FnOk P w K mg base CX0 (k + 1) f fd ["sizes"] (spD K g_is_small_sheet) := fn_d F sc_is_small_sheet fun cdv A outer s H E hr =>
  (dss_one (ds_ret (xe_cmp opd_le (xc G_number_of_cases hr (by rfl) (xa_cons (de_v 0) xa_nil)) (de_g (v := .int 1024) (d := .int 1024) (by rfl) m_MOST_CASES_OF_SMALL.choose_spec ⟨_, rfl⟩ fun _ => .int _) (nomark _))))
theorem t_is_small_sheet {P : Program} {w : World} {K : PySem.W.Frag} {mg : Str → Option Value} {base : Heap} {f : Addr} {fd : FuncData} {k : Nat} (F : Fun K "is_small_sheet" "is_small_sheet" s_is_small_sheet f fd) (hb : Binds K fd ["sizes"] []) (hm : mg "is_small_sheet" = some (.ref f))
    (m_MOST_CASES_OF_SMALL : ∃ t, mg "MOST_CASES_OF_SMALL" = some (.int 1024 t))
    (G_number_of_cases : Has P w K mg base k "number_of_cases" ["sizes"] (spD K g_number_of_cases)) : Has P w K mg base (k + 1) "is_small_sheet" ["sizes"] (spD K g_is_small_sheet) := ⟨f, fd, f_is_small_sheet F hb hm m_MOST_CASES_OF_SMALL G_number_of_cases, hb, hm, F.kp⟩
abbrev s_check_small : Stmt := top 18
theorem sc_check_small : FnScope ["sizes"] ["sizes"] (defScope s_check_small) := ⟨rfl, rfl, rfl, by decide +kernel, rfl, by decide +kernel, by decide +kernel⟩
theorem f_check_small {P : Program} {w : World} {K : PySem.W.Frag} {mg : Str → Option Value} {base : Heap} {f : Addr} {fd : FuncData} {k : Nat} (F : Fun K "check_small" "check_small" s_check_small f fd) (hb : Binds K fd ["sizes"] []) (hm : mg "check_small" = some (.ref f))
    (G_is_small_sheet : Has P w K mg base k "is_small_sheet" ["sizes"] (spD K g_is_small_sheet)) : FnOk P w K mg base CX0 (k + 1) f fd ["sizes"] (spD K g_check_small) := fn_d F sc_check_small fun cdv A outer s H E hr =>
  (dss_one (ds_if (xt_not (xt_tru (xc G_is_small_sheet hr (by rfl) (xa_cons (de_v 0) xa_nil))))
    (dss_one xs_no)
    dss_nil))
theorem t_check_small {P : Program} {w : World} {K : PySem.W.Frag} {mg : Str → Option Value} {base : Heap} {f : Addr} {fd : FuncData} {k : Nat} (F : Fun K "check_small" "check_small" s_check_small f fd) (hb : Binds K fd ["sizes"] []) (hm : mg "check_small" = some (.ref f))
    (G_is_small_sheet : Has P w K mg base k "is_small_sheet" ["sizes"] (spD K g_is_small_sheet)) : Has P w K mg base (k + 1) "check_small" ["sizes"] (spD K g_check_small) := ⟨f, fd, f_check_small F hb hm G_is_small_sheet, hb, hm, F.kp⟩
abbrev s_inner_forms : Stmt := top 25
theorem sc_inner_forms : FnScope ["form"] ["form"] (defScope s_inner_forms) := ⟨rfl, rfl, rfl, by decide +kernel, rfl, by decide +kernel, by decide +kernel⟩
theorem f_inner_forms {P : Program} {w : World} {K : PySem.W.Frag} {mg : Str → Option Value} {base : Heap} {f : Addr} {fd : FuncData} {k : Nat} (F : Fun K "inner_forms" "inner_forms" s_inner_forms f fd) (hb : Binds K fd ["form"] []) (hm : mg "inner_forms" = some (.ref f))
    (m_JOINING_WORDS : CTup K mg "JOINING_WORDS" c_JOINING_WORDS) : FnOk P w K mg base CX0 (k + 1) f fd ["form"] (spD K g_inner_forms) := fn_d F sc_inner_forms fun cdv A outer s H E hr =>
  (dss_cons (ds_if (xt_cmp (opd_eq hr) (xe_ix (de_v 0) de_int (fun _ _ => rfl)) de_str (nomark _))
    (dss_one (ds_ret (xe_ix (de_v 0) de_int (fun _ _ => rfl))))
    dss_nil)
  (dss_cons (ds_if (xt_cmp (opd_eq hr) (xe_ix (de_v 0) de_int (fun _ _ => rfl)) de_str (nomark _))
    (dss_one (ds_ret (xe_tup (xa_cons (xe_ix (de_v 0) de_int (fun _ _ => rfl)) xa_nil))))
    dss_nil)
  (dss_cons (ds_if (xt_cmp (opd_in hr) (xe_ix (de_v 0) de_int (fun _ _ => rfl)) (m_JOINING_WORDS.de (by rfl)) (by rfl))
    (dss_one (ds_ret (xe_ix (de_v 0) de_int (fun _ _ => rfl))))
    dss_nil)
  (dss_one (ds_ret (xe_tup xa_nil))))))
theorem t_inner_forms {P : Program} {w : World} {K : PySem.W.Frag} {mg : Str → Option Value} {base : Heap} {f : Addr} {fd : FuncData} {k : Nat} (F : Fun K "inner_forms" "inner_forms" s_inner_forms f fd) (hb : Binds K fd ["form"] []) (hm : mg "inner_forms" = some (.ref f))
    (m_JOINING_WORDS : CTup K mg "JOINING_WORDS" c_JOINING_WORDS) : Has P w K mg base (k + 1) "inner_forms" ["form"] (spD K g_inner_forms) := ⟨f, fd, f_inner_forms F hb hm m_JOINING_WORDS, hb, hm, F.kp⟩
abbrev s_p_is_tuple_of : Stmt := top 31
theorem sc_p_is_tuple_of : FnScope ["value", "length"] ["value", "length"] (defScope s_p_is_tuple_of) := ⟨rfl, rfl, rfl, by decide +kernel, rfl, by decide +kernel, by decide +kernel⟩
theorem f_p_is_tuple_of {P : Program} {w : World} {K : PySem.W.Frag} {mg : Str → Option Value} {base : Heap} {f : Addr} {fd : FuncData} {k : Nat} (F : Fun K "_is_tuple_of" "_is_tuple_of" s_p_is_tuple_of f fd) (hb : Binds K fd ["value", "length"] []) (hm : mg "_is_tuple_of" = some (.ref f))
    (y_isinstance : mg "isinstance" = none)
    (y_len : mg "len" = none)
    (y_tuple : mg "tuple" = none) : FnOk P w K mg base CX0 (k + 1) f fd ["value", "length"] (spD K g_p_is_tuple_of) := fn_d F sc_p_is_tuple_of fun cdv A outer s H E hr =>
  (dss_one (ds_ret (de_and (xe_isi (n := "tuple") (by decide) (by rfl) y_isinstance (by rfl) y_tuple (by decide +kernel) (de_v 0)) (de_one (xe_cmp (opd_eq hr) (xcB cd_len (by rfl) y_len (by decide +kernel) (xa_cons (de_v 0) xa_nil)) (de_v 1) (nomark _))))))
theorem t_p_is_tuple_of {P : Program} {w : World} {K : PySem.W.Frag} {mg : Str → Option Value} {base : Heap} {f : Addr} {fd : FuncData} {k : Nat} (F : Fun K "_is_tuple_of" "_is_tuple_of" s_p_is_tuple_of f fd) (hb : Binds K fd ["value", "length"] []) (hm : mg "_is_tuple_of" = some (.ref f))
    (y_isinstance : mg "isinstance" = none)
    (y_len : mg "len" = none)
    (y_tuple : mg "tuple" = none) : Has P w K mg base (k + 1) "_is_tuple_of" ["value", "length"] (spD K g_p_is_tuple_of) := ⟨f, fd, f_p_is_tuple_of F hb hm y_isinstance y_len y_tuple, hb, hm, F.kp⟩
abbrev s_p_is_results : Stmt := top 38
theorem sc_p_is_results : FnScope ["sizes", "value", "result"] ["sizes", "value"] (defScope s_p_is_results) := ⟨rfl, rfl, rfl, by decide +kernel, rfl, by decide +kernel, by decide +kernel⟩
theorem f_p_is_results {P : Program} {w : World} {K : PySem.W.Frag} {mg : Str → Option Value} {base : Heap} {f : Addr} {fd : FuncData} {k : Nat} (F : Fun K "_is_results" "_is_results" s_p_is_results f fd) (hb : Binds K fd ["sizes", "value"] []) (hm : mg "_is_results" = some (.ref f))
    (y_all : mg "all" = none)
    (y_bool : mg "bool" = none)
    (y_isinstance : mg "isinstance" = none)
    (G_number_of_cases : Has P w K mg base k "number_of_cases" ["sizes"] (spD K g_number_of_cases))
    (G_is_small_sheet : Has P w K mg base k "is_small_sheet" ["sizes"] (spD K g_is_small_sheet))
    (G_p_is_tuple_of : Has P w K mg base k "_is_tuple_of" ["value", "length"] (spD K g_p_is_tuple_of)) : FnOk P w K mg base CX0 (k + 1) f fd ["sizes", "value"] (spD K g_p_is_results) := fn_d F sc_p_is_results fun cdv A outer s H E hr =>
  (dss_cons (ds_if (DW.pt (dw_or (xt_not (xt_tru (xc G_is_small_sheet hr (by rfl) (xa_cons (de_v 0) xa_nil)))) (dw_or1 (xt_not (xt_tru (xc G_p_is_tuple_of hr (by rfl) (xa_cons (de_v 1) (xa_cons (xc G_number_of_cases hr (by rfl) (xa_cons (de_v 0) xa_nil)) xa_nil))))))))
    (dss_one (ds_ret de_bl))
    dss_nil)
  (dss_one (ds_ret (xcB (cd_all rfl) (by rfl) y_all (by decide +kernel) (xa_cons (xe_fr (df_lc (own := [("result", 2)]) rfl sc_p_is_results.nd (xi_seq (de_v 1)) (blkOk_by (by kernel_rfl)) (fun _ _ _ _ _ => (dg_name 2 sc_p_is_results.nd rfl (by first | exact Or.inl rfl | exact Or.inr rfl))) (fun _ _ _ _ _ => dts_nil) (fun _ _ _ _ _ => (xe_isi (n := "bool") (by decide) (by rfl) y_isinstance (by rfl) y_bool (by decide +kernel) (de_v 2))))) xa_nil)))))
theorem t_p_is_results {P : Program} {w : World} {K : PySem.W.Frag} {mg : Str → Option Value} {base : Heap} {f : Addr} {fd : FuncData} {k : Nat} (F : Fun K "_is_results" "_is_results" s_p_is_results f fd) (hb : Binds K fd ["sizes", "value"] []) (hm : mg "_is_results" = some (.ref f))
    (y_all : mg "all" = none)
    (y_bool : mg "bool" = none)
    (y_isinstance : mg "isinstance" = none)
    (G_number_of_cases : Has P w K mg base k "number_of_cases" ["sizes"] (spD K g_number_of_cases))
    (G_is_small_sheet : Has P w K mg base k "is_small_sheet" ["sizes"] (spD K g_is_small_sheet))
    (G_p_is_tuple_of : Has P w K mg base k "_is_tuple_of" ["value", "length"] (spD K g_p_is_tuple_of)) : Has P w K mg base (k + 1) "_is_results" ["sizes", "value"] (spD K g_p_is_results) := ⟨f, fd, f_p_is_results F hb hm y_all y_bool y_isinstance G_number_of_cases G_is_small_sheet G_p_is_tuple_of, hb, hm, F.kp⟩
abbrev s_p_is_short_form_outside : Stmt := top 29
theorem sc_p_is_short_form_outside : FnScope ["sizes", "word", "part"] ["sizes", "word", "part"] (defScope s_p_is_short_form_outside) := ⟨rfl, rfl, rfl, by decide +kernel, rfl, by decide +kernel, by decide +kernel⟩
theorem f_p_is_short_form_outside {P : Program} {w : World} {K : PySem.W.Frag} {mg : Str → Option Value} {base : Heap} {f : Addr} {fd : FuncData} {k : Nat} (F : Fun K "_is_short_form_outside" "_is_short_form_outside" s_p_is_short_form_outside f fd) (hb : Binds K fd ["sizes", "word", "part"] []) (hm : mg "_is_short_form_outside" = some (.ref f))
    (y_bool : mg "bool" = none)
    (m_JOINING_WORDS : CTup K mg "JOINING_WORDS" c_JOINING_WORDS)
    (y_isinstance : mg "isinstance" = none)
    (y_tuple : mg "tuple" = none)
    (G_p_is_results : Has P w K mg base k "_is_results" ["sizes", "value"] (spD K g_p_is_results)) : FnOk P w K mg base CX0 (k + 1) f fd ["sizes", "word", "part"] (spD K g_p_is_short_form_outside) := fn_d F sc_p_is_short_form_outside fun cdv A outer s H E hr =>
  (dss_cons (ds_if (xt_cmp (opd_eq hr) (de_v 1) de_str (nomark _))
    (dss_one (ds_ret (xe_isi (n := "bool") (by decide) (by rfl) y_isinstance (by rfl) y_bool (by decide +kernel) (de_v 2))))
    dss_nil)
  (dss_cons (ds_if (xt_cmp (opd_eq hr) (de_v 1) de_str (nomark _))
    (dss_one (ds_ret (xc G_p_is_results hr (by rfl) (xa_cons (de_v 0) (xa_cons (de_v 2) xa_nil)))))
    dss_nil)
  (dss_cons (ds_if (xt_cmp (opd_eq hr) (de_v 1) de_str (nomark _))
    (dss_one (ds_ret de_bl))
    dss_nil)
  (dss_one (ds_ret (de_and (xe_cmp (opd_in hr) (de_v 1) (m_JOINING_WORDS.de (by rfl)) (by rfl)) (de_one (xe_isi (n := "tuple") (by decide) (by rfl) y_isinstance (by rfl) y_tuple (by decide +kernel) (de_v 2)))))))))
theorem t_p_is_short_form_outside {P : Program} {w : World} {K : PySem.W.Frag} {mg : Str → Option Value} {base : Heap} {f : Addr} {fd : FuncData} {k : Nat} (F : Fun K "_is_short_form_outside" "_is_short_form_outside" s_p_is_short_form_outside f fd) (hb : Binds K fd ["sizes", "word", "part"] []) (hm : mg "_is_short_form_outside" = some (.ref f))
    (y_bool : mg "bool" = none)
    (m_JOINING_WORDS : CTup K mg "JOINING_WORDS" c_JOINING_WORDS)
    (y_isinstance : mg "isinstance" = none)
    (y_tuple : mg "tuple" = none)
    (G_p_is_results : Has P w K mg base k "_is_results" ["sizes", "value"] (spD K g_p_is_results)) : Has P w K mg base (k + 1) "_is_short_form_outside" ["sizes", "word", "part"] (spD K g_p_is_short_form_outside) := ⟨f, fd, f_p_is_short_form_outside F hb hm y_bool m_JOINING_WORDS y_isinstance y_tuple G_p_is_results, hb, hm, F.kp⟩
abbrev s_is_integer_below : Stmt := top 7
theorem sc_is_integer_below : FnScope ["value", "limit"] ["value", "limit"] (defScope s_is_integer_below) := ⟨rfl, rfl, rfl, by decide +kernel, rfl, by decide +kernel, by decide +kernel⟩
theorem f_is_integer_below {P : Program} {w : World} {K : PySem.W.Frag} {mg : Str → Option Value} {base : Heap} {f : Addr} {fd : FuncData} {k : Nat} (F : Fun K "is_integer_below" "is_integer_below" s_is_integer_below f fd) (hb : Binds K fd ["value", "limit"] []) (hm : mg "is_integer_below" = some (.ref f))
    (G_is_integer : Has P w K mg base k "is_integer" ["value"] (spD K g_is_integer)) : FnOk P w K mg base CX0 (k + 1) f fd ["value", "limit"] (spD K g_is_integer_below) := fn_d F sc_is_integer_below fun cdv A outer s H E hr =>
  (dss_one (ds_ret (de_and (xc G_is_integer hr (by rfl) (xa_cons (de_v 0) xa_nil)) (de_one (de_chain opd_le opd_lt de_int (de_v 0) (de_v 1))))))
theorem t_is_integer_below {P : Program} {w : World} {K : PySem.W.Frag} {mg : Str → Option Value} {base : Heap} {f : Addr} {fd : FuncData} {k : Nat} (F : Fun K "is_integer_below" "is_integer_below" s_is_integer_below f fd) (hb : Binds K fd ["value", "limit"] []) (hm : mg "is_integer_below" = some (.ref f))
    (G_is_integer : Has P w K mg base k "is_integer" ["value"] (spD K g_is_integer)) : Has P w K mg base (k + 1) "is_integer_below" ["value", "limit"] (spD K g_is_integer_below) := ⟨f, fd, f_is_integer_below F hb hm G_is_integer, hb, hm, F.kp⟩
abbrev s_are_ascending_below : Stmt := top 8
theorem sc_are_ascending_below : FnScope ["values", "limit", "least", "value"] ["values", "limit"] (defScope s_are_ascending_below) := ⟨rfl, rfl, rfl, by decide +kernel, rfl, by decide +kernel, by decide +kernel⟩
theorem f_are_ascending_below {P : Program} {w : World} {K : PySem.W.Frag} {mg : Str → Option Value} {base : Heap} {f : Addr} {fd : FuncData} {k : Nat} (F : Fun K "are_ascending_below" "are_ascending_below" s_are_ascending_below f fd) (hb : Binds K fd ["values", "limit"] []) (hm : mg "are_ascending_below" = some (.ref f))
    (G_is_integer_below : Has P w K mg base k "is_integer_below" ["value", "limit"] (spD K g_is_integer_below)) : FnOk P w K mg base CX0 (k + 1) f fd ["values", "limit"] (spD K g_are_ascending_below) := fn_d F sc_are_ascending_below fun cdv A outer s H E hr =>
  (dss_cons (ds_set (i := 2) sc_are_ascending_below.nd rfl (by first | exact Or.inl rfl | exact Or.inr rfl) de_int)
  (dss_cons (ds_for PassesOwn.never rfl (xi_seq (de_v 0)) (dg_name 3 sc_are_ascending_below.nd rfl (by first | exact Or.inl rfl | exact Or.inr rfl))
    (dss_cons (ds_if (DW.pt (dw_or (xt_not (xt_tru (xc G_is_integer_below hr (by rfl) (xa_cons (de_v 3) (xa_cons (de_v 1) xa_nil))))) (dw_or1 (xt_cmp opd_lt (de_v 3) (de_v 2) (nomark _)))))
    (dss_one (ds_ret de_bl))
    dss_nil)
  (dss_one (ds_set (i := 2) sc_are_ascending_below.nd rfl (by first | exact Or.inl rfl | exact Or.inr rfl) (xe_op opd_add (de_v 3) de_int)))))
  (dss_one (ds_ret de_bl))))
theorem t_are_ascending_below {P : Program} {w : World} {K : PySem.W.Frag} {mg : Str → Option Value} {base : Heap} {f : Addr} {fd : FuncData} {k : Nat} (F : Fun K "are_ascending_below" "are_ascending_below" s_are_ascending_below f fd) (hb : Binds K fd ["values", "limit"] []) (hm : mg "are_ascending_below" = some (.ref f))
    (G_is_integer_below : Has P w K mg base k "is_integer_below" ["value", "limit"] (spD K g_is_integer_below)) : Has P w K mg base (k + 1) "are_ascending_below" ["values", "limit"] (spD K g_are_ascending_below) := ⟨f, fd, f_are_ascending_below F hb hm G_is_integer_below, hb, hm, F.kp⟩
abbrev s_p_is_test : Stmt := top 32
theorem sc_p_is_test : FnScope ["sizes", "field", "values"] ["sizes", "field", "values"] (defScope s_p_is_test) := ⟨rfl, rfl, rfl, by decide +kernel, rfl, by decide +kernel, by decide +kernel⟩
theorem f_p_is_test {P : Program} {w : World} {K : PySem.W.Frag} {mg : Str → Option Value} {base : Heap} {f : Addr} {fd : FuncData} {k : Nat} (F : Fun K "_is_test" "_is_test" s_p_is_test f fd) (hb : Binds K fd ["sizes", "field", "values"] []) (hm : mg "_is_test" = some (.ref f))
    (y_isinstance : mg "isinstance" = none)
    (y_len : mg "len" = none)
    (y_tuple : mg "tuple" = none)
    (G_is_integer_below : Has P w K mg base k "is_integer_below" ["value", "limit"] (spD K g_is_integer_below))
    (G_are_ascending_below : Has P w K mg base k "are_ascending_below" ["values", "limit"] (spD K g_are_ascending_below)) : FnOk P w K mg base CX0 (k + 1) f fd ["sizes", "field", "values"] (spD K g_p_is_test) := fn_d F sc_p_is_test fun cdv A outer s H E hr =>
  (dss_cons (ds_if (DW.pt (dw_or (xt_not (xt_tru (xc G_is_integer_below hr (by rfl) (xa_cons (de_v 1) (xa_cons (xcB cd_len (by rfl) y_len (by decide +kernel) (xa_cons (de_v 0) xa_nil)) xa_nil))))) (dw_or1 (xt_not (xt_tru (xe_isi (n := "tuple") (by decide) (by rfl) y_isinstance (by rfl) y_tuple (by decide +kernel) (de_v 2)))))))
    (dss_one (ds_ret de_bl))
    dss_nil)
  (dss_one (ds_ret (xc G_are_ascending_below hr (by rfl) (xa_cons (de_v 2) (xa_cons (xe_ix (de_v 0) (de_v 1) (fun _ _ => rfl)) xa_nil))))))
theorem t_p_is_test {P : Program} {w : World} {K : PySem.W.Frag} {mg : Str → Option Value} {base : Heap} {f : Addr} {fd : FuncData} {k : Nat} (F : Fun K "_is_test" "_is_test" s_p_is_test f fd) (hb : Binds K fd ["sizes", "field", "values"] []) (hm : mg "_is_test" = some (.ref f))
    (y_isinstance : mg "isinstance" = none)
    (y_len : mg "len" = none)
    (y_tuple : mg "tuple" = none)
    (G_is_integer_below : Has P w K mg base k "is_integer_below" ["value", "limit"] (spD K g_is_integer_below))
    (G_are_ascending_below : Has P w K mg base k "are_ascending_below" ["values", "limit"] (spD K g_are_ascending_below)) : Has P w K mg base (k + 1) "_is_test" ["sizes", "field", "values"] (spD K g_p_is_test) := ⟨f, fd, f_p_is_test F hb hm y_isinstance y_len y_tuple G_is_integer_below G_are_ascending_below, hb, hm, F.kp⟩
abbrev s_p_is_condition : Stmt := top 33
theorem sc_p_is_condition : FnScope ["sizes", "value"] ["sizes", "value"] (defScope s_p_is_condition) := ⟨rfl, rfl, rfl, by decide +kernel, rfl, by decide +kernel, by decide +kernel⟩
theorem f_p_is_condition {P : Program} {w : World} {K : PySem.W.Frag} {mg : Str → Option Value} {base : Heap} {f : Addr} {fd : FuncData} {k : Nat} (F : Fun K "_is_condition" "_is_condition" s_p_is_condition f fd) (hb : Binds K fd ["sizes", "value"] []) (hm : mg "_is_condition" = some (.ref f))
    (G_p_is_tuple_of : Has P w K mg base k "_is_tuple_of" ["value", "length"] (spD K g_p_is_tuple_of))
    (G_p_is_test : Has P w K mg base k "_is_test" ["sizes", "field", "values"] (spD K g_p_is_test)) : FnOk P w K mg base CX0 (k + 1) f fd ["sizes", "value"] (spD K g_p_is_condition) := fn_d F sc_p_is_condition fun cdv A outer s H E hr =>
  (dss_one (ds_ret (de_and (xc G_p_is_tuple_of hr (by rfl) (xa_cons (de_v 1) (xa_cons de_int xa_nil))) (de_one (xc G_p_is_test hr (by rfl) (xa_cons (de_v 0) (xa_cons (xe_ix (de_v 1) de_int (fun _ _ => rfl)) (xa_cons (xe_ix (de_v 1) de_int (fun _ _ => rfl)) xa_nil))))))))
theorem t_p_is_condition {P : Program} {w : World} {K : PySem.W.Frag} {mg : Str → Option Value} {base : Heap} {f : Addr} {fd : FuncData} {k : Nat} (F : Fun K "_is_condition" "_is_condition" s_p_is_condition f fd) (hb : Binds K fd ["sizes", "value"] []) (hm : mg "_is_condition" = some (.ref f))
    (G_p_is_tuple_of : Has P w K mg base k "_is_tuple_of" ["value", "length"] (spD K g_p_is_tuple_of))
    (G_p_is_test : Has P w K mg base k "_is_test" ["sizes", "field", "values"] (spD K g_p_is_test)) : Has P w K mg base (k + 1) "_is_condition" ["sizes", "value"] (spD K g_p_is_condition) := ⟨f, fd, f_p_is_condition F hb hm G_p_is_tuple_of G_p_is_test, hb, hm, F.kp⟩
abbrev s_is_conditions : Stmt := top 27
theorem sc_is_conditions : FnScope ["sizes", "value", "part"] ["sizes", "value"] (defScope s_is_conditions) := ⟨rfl, rfl, rfl, by decide +kernel, rfl, by decide +kernel, by decide +kernel⟩
theorem f_is_conditions {P : Program} {w : World} {K : PySem.W.Frag} {mg : Str → Option Value} {base : Heap} {f : Addr} {fd : FuncData} {k : Nat} (F : Fun K "is_conditions" "is_conditions" s_is_conditions f fd) (hb : Binds K fd ["sizes", "value"] []) (hm : mg "is_conditions" = some (.ref f))
    (y_all : mg "all" = none)
    (y_isinstance : mg "isinstance" = none)
    (y_len : mg "len" = none)
    (y_tuple : mg "tuple" = none)
    (G_are_ascending_below : Has P w K mg base k "are_ascending_below" ["values", "limit"] (spD K g_are_ascending_below))
    (G_p_is_condition : Has P w K mg base k "_is_condition" ["sizes", "value"] (spD K g_p_is_condition)) : FnOk P w K mg base CX0 (k + 1) f fd ["sizes", "value"] (spD K g_is_conditions) := fn_d F sc_is_conditions fun cdv A outer s H E hr =>
  (dss_cons (ds_if (DW.pt (dw_or (xt_not (xt_tru (xe_isi (n := "tuple") (by decide) (by rfl) y_isinstance (by rfl) y_tuple (by decide +kernel) (de_v 1)))) (dw_or1 (xt_not (xt_tru (xcB (cd_all rfl) (by rfl) y_all (by decide +kernel) (xa_cons (xe_fr (df_lc (own := [("part", 2)]) rfl sc_is_conditions.nd (xi_seq (de_v 1)) (blkOk_by (by kernel_rfl)) (fun _ _ _ _ _ => (dg_name 2 sc_is_conditions.nd rfl (by first | exact Or.inl rfl | exact Or.inr rfl))) (fun _ _ _ _ _ => dts_nil) (fun _ _ _ _ _ => (xc G_p_is_condition hr (by rfl) (xa_cons (de_v 0) (xa_cons (de_v 2) xa_nil)))))) xa_nil)))))))
    (dss_one (ds_ret de_bl))
    dss_nil)
  (dss_one (ds_ret (xc G_are_ascending_below hr (by rfl) (xa_cons (xe_fr (df_lc (own := [("part", 2)]) rfl sc_is_conditions.nd (xi_seq (de_v 1)) (blkOk_by (by kernel_rfl)) (fun _ _ _ _ _ => (dg_name 2 sc_is_conditions.nd rfl (by first | exact Or.inl rfl | exact Or.inr rfl))) (fun _ _ _ _ _ => dts_nil) (fun _ _ _ _ _ => (xe_ix (de_v 2) de_int (fun _ _ => rfl))))) (xa_cons (xcB cd_len (by rfl) y_len (by decide +kernel) (xa_cons (de_v 0) xa_nil)) xa_nil))))))
theorem t_is_conditions {P : Program} {w : World} {K : PySem.W.Frag} {mg : Str → Option Value} {base : Heap} {f : Addr} {fd : FuncData} {k : Nat} (F : Fun K "is_conditions" "is_conditions" s_is_conditions f fd) (hb : Binds K fd ["sizes", "value"] []) (hm : mg "is_conditions" = some (.ref f))
    (y_all : mg "all" = none)
    (y_isinstance : mg "isinstance" = none)
    (y_len : mg "len" = none)
    (y_tuple : mg "tuple" = none)
    (G_are_ascending_below : Has P w K mg base k "are_ascending_below" ["values", "limit"] (spD K g_are_ascending_below))
    (G_p_is_condition : Has P w K mg base k "_is_condition" ["sizes", "value"] (spD K g_p_is_condition)) : Has P w K mg base (k + 1) "is_conditions" ["sizes", "value"] (spD K g_is_conditions) := ⟨f, fd, f_is_conditions F hb hm y_all y_isinstance y_len y_tuple G_are_ascending_below G_p_is_condition, hb, hm, F.kp⟩
abbrev s_p_is_rule : Stmt := top 34
theorem sc_p_is_rule : FnScope ["sizes", "value"] ["sizes", "value"] (defScope s_p_is_rule) := ⟨rfl, rfl, rfl, by decide +kernel, rfl, by decide +kernel, by decide +kernel⟩
theorem f_p_is_rule {P : Program} {w : World} {K : PySem.W.Frag} {mg : Str → Option Value} {base : Heap} {f : Addr} {fd : FuncData} {k : Nat} (F : Fun K "_is_rule" "_is_rule" s_p_is_rule f fd) (hb : Binds K fd ["sizes", "value"] []) (hm : mg "_is_rule" = some (.ref f))
    (y_bool : mg "bool" = none)
    (y_isinstance : mg "isinstance" = none)
    (G_is_conditions : Has P w K mg base k "is_conditions" ["sizes", "value"] (spD K g_is_conditions))
    (G_p_is_tuple_of : Has P w K mg base k "_is_tuple_of" ["value", "length"] (spD K g_p_is_tuple_of)) : FnOk P w K mg base CX0 (k + 1) f fd ["sizes", "value"] (spD K g_p_is_rule) := fn_d F sc_p_is_rule fun cdv A outer s H E hr =>
  (dss_one (ds_ret (de_and (xc G_p_is_tuple_of hr (by rfl) (xa_cons (de_v 1) (xa_cons de_int xa_nil))) (de_and (xc G_is_conditions hr (by rfl) (xa_cons (de_v 0) (xa_cons (xe_ix (de_v 1) de_int (fun _ _ => rfl)) xa_nil))) (de_one (xe_isi (n := "bool") (by decide) (by rfl) y_isinstance (by rfl) y_bool (by decide +kernel) (xe_ix (de_v 1) de_int (fun _ _ => rfl))))))))
theorem t_p_is_rule {P : Program} {w : World} {K : PySem.W.Frag} {mg : Str → Option Value} {base : Heap} {f : Addr} {fd : FuncData} {k : Nat} (F : Fun K "_is_rule" "_is_rule" s_p_is_rule f fd) (hb : Binds K fd ["sizes", "value"] []) (hm : mg "_is_rule" = some (.ref f))
    (y_bool : mg "bool" = none)
    (y_isinstance : mg "isinstance" = none)
    (G_is_conditions : Has P w K mg base k "is_conditions" ["sizes", "value"] (spD K g_is_conditions))
    (G_p_is_tuple_of : Has P w K mg base k "_is_tuple_of" ["value", "length"] (spD K g_p_is_tuple_of)) : Has P w K mg base (k + 1) "_is_rule" ["sizes", "value"] (spD K g_p_is_rule) := ⟨f, fd, f_p_is_rule F hb hm y_bool y_isinstance G_is_conditions G_p_is_tuple_of, hb, hm, F.kp⟩
abbrev s_p_is_rules : Stmt := top 35
theorem sc_p_is_rules : FnScope ["sizes", "value", "part"] ["sizes", "value"] (defScope s_p_is_rules) := ⟨rfl, rfl, rfl, by decide +kernel, rfl, by decide +kernel, by decide +kernel⟩
theorem f_p_is_rules {P : Program} {w : World} {K : PySem.W.Frag} {mg : Str → Option Value} {base : Heap} {f : Addr} {fd : FuncData} {k : Nat} (F : Fun K "_is_rules" "_is_rules" s_p_is_rules f fd) (hb : Binds K fd ["sizes", "value"] []) (hm : mg "_is_rules" = some (.ref f))
    (y_all : mg "all" = none)
    (y_isinstance : mg "isinstance" = none)
    (y_tuple : mg "tuple" = none)
    (G_p_is_rule : Has P w K mg base k "_is_rule" ["sizes", "value"] (spD K g_p_is_rule)) : FnOk P w K mg base CX0 (k + 1) f fd ["sizes", "value"] (spD K g_p_is_rules) := fn_d F sc_p_is_rules fun cdv A outer s H E hr =>
  (dss_one (ds_ret (de_and (xe_isi (n := "tuple") (by decide) (by rfl) y_isinstance (by rfl) y_tuple (by decide +kernel) (de_v 1)) (de_one (xcB (cd_all rfl) (by rfl) y_all (by decide +kernel) (xa_cons (xe_fr (df_lc (own := [("part", 2)]) rfl sc_p_is_rules.nd (xi_seq (de_v 1)) (blkOk_by (by kernel_rfl)) (fun _ _ _ _ _ => (dg_name 2 sc_p_is_rules.nd rfl (by first | exact Or.inl rfl | exact Or.inr rfl))) (fun _ _ _ _ _ => dts_nil) (fun _ _ _ _ _ => (xc G_p_is_rule hr (by rfl) (xa_cons (de_v 0) (xa_cons (de_v 2) xa_nil)))))) xa_nil))))))
theorem t_p_is_rules {P : Program} {w : World} {K : PySem.W.Frag} {mg : Str → Option Value} {base : Heap} {f : Addr} {fd : FuncData} {k : Nat} (F : Fun K "_is_rules" "_is_rules" s_p_is_rules f fd) (hb : Binds K fd ["sizes", "value"] []) (hm : mg "_is_rules" = some (.ref f))
    (y_all : mg "all" = none)
    (y_isinstance : mg "isinstance" = none)
    (y_tuple : mg "tuple" = none)
    (G_p_is_rule : Has P w K mg base k "_is_rule" ["sizes", "value"] (spD K g_p_is_rule)) : Has P w K mg base (k + 1) "_is_rules" ["sizes", "value"] (spD K g_p_is_rules) := ⟨f, fd, f_p_is_rules F hb hm y_all y_isinstance y_tuple G_p_is_rule, hb, hm, F.kp⟩
abbrev s_p_are_integers : Stmt := top 37
theorem sc_p_are_integers : FnScope ["values", "value"] ["values"] (defScope s_p_are_integers) := ⟨rfl, rfl, rfl, by decide +kernel, rfl, by decide +kernel, by decide +kernel⟩
theorem f_p_are_integers {P : Program} {w : World} {K : PySem.W.Frag} {mg : Str → Option Value} {base : Heap} {f : Addr} {fd : FuncData} {k : Nat} (F : Fun K "_are_integers" "_are_integers" s_p_are_integers f fd) (hb : Binds K fd ["values"] []) (hm : mg "_are_integers" = some (.ref f))
    (y_all : mg "all" = none)
    (G_is_integer : Has P w K mg base k "is_integer" ["value"] (spD K g_is_integer)) : FnOk P w K mg base CX0 (k + 1) f fd ["values"] (spD K g_p_are_integers) := fn_d F sc_p_are_integers fun cdv A outer s H E hr =>
  (dss_one (ds_ret (xcB (cd_all rfl) (by rfl) y_all (by decide +kernel) (xa_cons (xe_fr (df_lc (own := [("value", 1)]) rfl sc_p_are_integers.nd (xi_seq (de_v 0)) (blkOk_by (by kernel_rfl)) (fun _ _ _ _ _ => (dg_name 1 sc_p_are_integers.nd rfl (by first | exact Or.inl rfl | exact Or.inr rfl))) (fun _ _ _ _ _ => dts_nil) (fun _ _ _ _ _ => (xc G_is_integer hr (by rfl) (xa_cons (de_v 1) xa_nil))))) xa_nil))))
theorem t_p_are_integers {P : Program} {w : World} {K : PySem.W.Frag} {mg : Str → Option Value} {base : Heap} {f : Addr} {fd : FuncData} {k : Nat} (F : Fun K "_are_integers" "_are_integers" s_p_are_integers f fd) (hb : Binds K fd ["values"] []) (hm : mg "_are_integers" = some (.ref f))
    (y_all : mg "all" = none)
    (G_is_integer : Has P w K mg base k "is_integer" ["value"] (spD K g_is_integer)) : Has P w K mg base (k + 1) "_are_integers" ["values"] (spD K g_p_are_integers) := ⟨f, fd, f_p_are_integers F hb hm y_all G_is_integer, hb, hm, F.kp⟩
abbrev s_p_is_weights : Stmt := top 36
theorem sc_p_is_weights : FnScope ["sizes", "value", "at"] ["sizes", "value"] (defScope s_p_is_weights) := ⟨rfl, rfl, rfl, by decide +kernel, rfl, by decide +kernel, by decide +kernel⟩
theorem f_p_is_weights {P : Program} {w : World} {K : PySem.W.Frag} {mg : Str → Option Value} {base : Heap} {f : Addr} {fd : FuncData} {k : Nat} (F : Fun K "_is_weights" "_is_weights" s_p_is_weights f fd) (hb : Binds K fd ["sizes", "value"] []) (hm : mg "_is_weights" = some (.ref f))
    (y_all : mg "all" = none)
    (y_len : mg "len" = none)
    (y_range : mg "range" = none)
    (G_p_is_tuple_of : Has P w K mg base k "_is_tuple_of" ["value", "length"] (spD K g_p_is_tuple_of))
    (G_p_are_integers : Has P w K mg base k "_are_integers" ["values"] (spD K g_p_are_integers)) : FnOk P w K mg base CX0 (k + 1) f fd ["sizes", "value"] (spD K g_p_is_weights) := fn_d F sc_p_is_weights fun cdv A outer s H E hr =>
  (dss_cons (ds_if (xt_not (xt_tru (xc G_p_is_tuple_of hr (by rfl) (xa_cons (de_v 1) (xa_cons (xcB cd_len (by rfl) y_len (by decide +kernel) (xa_cons (de_v 0) xa_nil)) xa_nil)))))
    (dss_one (ds_ret de_bl))
    dss_nil)
  (dss_one (ds_ret (xcB (cd_all rfl) (by rfl) y_all (by decide +kernel) (xa_cons (xe_fr (df_lc (own := [("at", 2)]) rfl sc_p_is_weights.nd (xi_range1 (by rfl) y_range (xa_cons (xcB cd_len (by rfl) y_len (by decide +kernel) (xa_cons (de_v 0) xa_nil)) xa_nil)) (blkOk_by (by kernel_rfl)) (fun _ _ _ _ _ => (dg_name 2 sc_p_is_weights.nd rfl (by first | exact Or.inl rfl | exact Or.inr rfl))) (fun _ _ _ _ _ => dts_nil) (fun _ _ _ _ _ => (de_and (xc G_p_is_tuple_of hr (by rfl) (xa_cons (xe_ix (de_v 1) (de_v 2) (fun _ _ => rfl)) (xa_cons (xe_ix (de_v 0) (de_v 2) (fun _ _ => rfl)) xa_nil))) (de_one (xc G_p_are_integers hr (by rfl) (xa_cons (xe_ix (de_v 1) (de_v 2) (fun _ _ => rfl)) xa_nil))))))) xa_nil)))))
theorem t_p_is_weights {P : Program} {w : World} {K : PySem.W.Frag} {mg : Str → Option Value} {base : Heap} {f : Addr} {fd : FuncData} {k : Nat} (F : Fun K "_is_weights" "_is_weights" s_p_is_weights f fd) (hb : Binds K fd ["sizes", "value"] []) (hm : mg "_is_weights" = some (.ref f))
    (y_all : mg "all" = none)
    (y_len : mg "len" = none)
    (y_range : mg "range" = none)
    (G_p_is_tuple_of : Has P w K mg base k "_is_tuple_of" ["value", "length"] (spD K g_p_is_tuple_of))
    (G_p_are_integers : Has P w K mg base k "_are_integers" ["values"] (spD K g_p_are_integers)) : Has P w K mg base (k + 1) "_is_weights" ["sizes", "value"] (spD K g_p_is_weights) := ⟨f, fd, f_p_is_weights F hb hm y_all y_len y_range G_p_is_tuple_of G_p_are_integers, hb, hm, F.kp⟩
abbrev s_p_is_long_form_outside : Stmt := top 30
theorem sc_p_is_long_form_outside : FnScope ["sizes", "word", "part", "second_part"] ["sizes", "word", "part", "second_part"] (defScope s_p_is_long_form_outside) := ⟨rfl, rfl, rfl, by decide +kernel, rfl, by decide +kernel, by decide +kernel⟩
theorem f_p_is_long_form_outside {P : Program} {w : World} {K : PySem.W.Frag} {mg : Str → Option Value} {base : Heap} {f : Addr} {fd : FuncData} {k : Nat} (F : Fun K "_is_long_form_outside" "_is_long_form_outside" s_p_is_long_form_outside f fd) (hb : Binds K fd ["sizes", "word", "part", "second_part"] []) (hm : mg "_is_long_form_outside" = some (.ref f))
    (y_bool : mg "bool" = none)
    (y_isinstance : mg "isinstance" = none)
    (y_len : mg "len" = none)
    (G_is_integer : Has P w K mg base k "is_integer" ["value"] (spD K g_is_integer))
    (G_is_integer_below : Has P w K mg base k "is_integer_below" ["value", "limit"] (spD K g_is_integer_below))
    (G_p_is_tuple_of : Has P w K mg base k "_is_tuple_of" ["value", "length"] (spD K g_p_is_tuple_of))
    (G_p_is_test : Has P w K mg base k "_is_test" ["sizes", "field", "values"] (spD K g_p_is_test))
    (G_p_is_rules : Has P w K mg base k "_is_rules" ["sizes", "value"] (spD K g_p_is_rules))
    (G_p_is_weights : Has P w K mg base k "_is_weights" ["sizes", "value"] (spD K g_p_is_weights)) : FnOk P w K mg base CX0 (k + 1) f fd ["sizes", "word", "part", "second_part"] (spD K g_p_is_long_form_outside) := fn_d F sc_p_is_long_form_outside fun cdv A outer s H E hr =>
  (dss_cons (ds_if (xt_cmp (opd_eq hr) (de_v 1) de_str (nomark _))
    (dss_one (ds_ret (xc G_p_is_test hr (by rfl) (xa_cons (de_v 0) (xa_cons (de_v 2) (xa_cons (de_v 3) xa_nil))))))
    dss_nil)
  (dss_cons (ds_if (xt_cmp (opd_eq hr) (de_v 1) de_str (nomark _))
    (dss_one (ds_ret (de_and (xc G_is_integer_below hr (by rfl) (xa_cons (de_v 2) (xa_cons (xcB cd_len (by rfl) y_len (by decide +kernel) (xa_cons (de_v 0) xa_nil)) xa_nil))) (de_one (xc G_p_is_tuple_of hr (by rfl) (xa_cons (de_v 3) (xa_cons (xe_ix (de_v 0) (de_v 2) (fun _ _ => rfl)) xa_nil)))))))
    dss_nil)
  (dss_cons (ds_if (xt_cmp (opd_eq hr) (de_v 1) de_str (nomark _))
    (dss_one (ds_ret (de_and (xc G_p_is_rules hr (by rfl) (xa_cons (de_v 0) (xa_cons (de_v 2) xa_nil))) (de_one (xe_isi (n := "bool") (by decide) (by rfl) y_isinstance (by rfl) y_bool (by decide +kernel) (de_v 3))))))
    dss_nil)
  (dss_one (ds_ret (de_and (xe_cmp (opd_eq hr) (de_v 1) de_str (nomark _)) (de_and (xc G_p_is_weights hr (by rfl) (xa_cons (de_v 0) (xa_cons (de_v 2) xa_nil))) (de_one (xc G_is_integer hr (by rfl) (xa_cons (de_v 3) xa_nil))))))))))
theorem t_p_is_long_form_outside {P : Program} {w : World} {K : PySem.W.Frag} {mg : Str → Option Value} {base : Heap} {f : Addr} {fd : FuncData} {k : Nat} (F : Fun K "_is_long_form_outside" "_is_long_form_outside" s_p_is_long_form_outside f fd) (hb : Binds K fd ["sizes", "word", "part", "second_part"] []) (hm : mg "_is_long_form_outside" = some (.ref f))
    (y_bool : mg "bool" = none)
    (y_isinstance : mg "isinstance" = none)
    (y_len : mg "len" = none)
    (G_is_integer : Has P w K mg base k "is_integer" ["value"] (spD K g_is_integer))
    (G_is_integer_below : Has P w K mg base k "is_integer_below" ["value", "limit"] (spD K g_is_integer_below))
    (G_p_is_tuple_of : Has P w K mg base k "_is_tuple_of" ["value", "length"] (spD K g_p_is_tuple_of))
    (G_p_is_test : Has P w K mg base k "_is_test" ["sizes", "field", "values"] (spD K g_p_is_test))
    (G_p_is_rules : Has P w K mg base k "_is_rules" ["sizes", "value"] (spD K g_p_is_rules))
    (G_p_is_weights : Has P w K mg base k "_is_weights" ["sizes", "value"] (spD K g_p_is_weights)) : Has P w K mg base (k + 1) "_is_long_form_outside" ["sizes", "word", "part", "second_part"] (spD K g_p_is_long_form_outside) := ⟨f, fd, f_p_is_long_form_outside F hb hm y_bool y_isinstance y_len G_is_integer G_is_integer_below G_p_is_tuple_of G_p_is_test G_p_is_rules G_p_is_weights, hb, hm, F.kp⟩
abbrev s_p_is_form_outside : Stmt := top 28
theorem sc_p_is_form_outside : FnScope ["sizes", "value"] ["sizes", "value"] (defScope s_p_is_form_outside) := ⟨rfl, rfl, rfl, by decide +kernel, rfl, by decide +kernel, by decide +kernel⟩
theorem f_p_is_form_outside {P : Program} {w : World} {K : PySem.W.Frag} {mg : Str → Option Value} {base : Heap} {f : Addr} {fd : FuncData} {k : Nat} (F : Fun K "_is_form_outside" "_is_form_outside" s_p_is_form_outside f fd) (hb : Binds K fd ["sizes", "value"] []) (hm : mg "_is_form_outside" = some (.ref f))
    (y_isinstance : mg "isinstance" = none)
    (y_len : mg "len" = none)
    (y_str : mg "str" = none)
    (y_tuple : mg "tuple" = none)
    (G_p_is_short_form_outside : Has P w K mg base k "_is_short_form_outside" ["sizes", "word", "part"] (spD K g_p_is_short_form_outside))
    (G_p_is_long_form_outside : Has P w K mg base k "_is_long_form_outside" ["sizes", "word", "part", "second_part"] (spD K g_p_is_long_form_outside)) : FnOk P w K mg base CX0 (k + 1) f fd ["sizes", "value"] (spD K g_p_is_form_outside) := fn_d F sc_p_is_form_outside fun cdv A outer s H E hr =>
  (dss_cons (ds_if (DW.pt (dw_or (xt_not (xt_tru (xe_isi (n := "tuple") (by decide) (by rfl) y_isinstance (by rfl) y_tuple (by decide +kernel) (de_v 1)))) (dw_or (xt_cmp (opd_eq hr) (xcB cd_len (by rfl) y_len (by decide +kernel) (xa_cons (de_v 1) xa_nil)) de_int (nomark _)) (dw_or1 (xt_not (xt_tru (xe_isi (n := "str") (by decide) (by rfl) y_isinstance (by rfl) y_str (by decide +kernel) (xe_ix (de_v 1) de_int (fun _ _ => rfl)))))))))
    (dss_one (ds_ret de_bl))
    dss_nil)
  (dss_cons (ds_if (xt_cmp (opd_eq hr) (xcB cd_len (by rfl) y_len (by decide +kernel) (xa_cons (de_v 1) xa_nil)) de_int (nomark _))
    (dss_one (ds_ret (xc G_p_is_short_form_outside hr (by rfl) (xa_cons (de_v 0) (xa_cons (xe_ix (de_v 1) de_int (fun _ _ => rfl)) (xa_cons (xe_ix (de_v 1) de_int (fun _ _ => rfl)) xa_nil))))))
    dss_nil)
  (dss_one (ds_ret (de_and (xe_cmp (opd_eq hr) (xcB cd_len (by rfl) y_len (by decide +kernel) (xa_cons (de_v 1) xa_nil)) de_int (nomark _)) (de_one (xc G_p_is_long_form_outside hr (by rfl) (xa_cons (de_v 0) (xa_cons (xe_ix (de_v 1) de_int (fun _ _ => rfl)) (xa_cons (xe_ix (de_v 1) de_int (fun _ _ => rfl)) (xa_cons (xe_ix (de_v 1) de_int (fun _ _ => rfl)) xa_nil)))))))))))
theorem t_p_is_form_outside {P : Program} {w : World} {K : PySem.W.Frag} {mg : Str → Option Value} {base : Heap} {f : Addr} {fd : FuncData} {k : Nat} (F : Fun K "_is_form_outside" "_is_form_outside" s_p_is_form_outside f fd) (hb : Binds K fd ["sizes", "value"] []) (hm : mg "_is_form_outside" = some (.ref f))
    (y_isinstance : mg "isinstance" = none)
    (y_len : mg "len" = none)
    (y_str : mg "str" = none)
    (y_tuple : mg "tuple" = none)
    (G_p_is_short_form_outside : Has P w K mg base k "_is_short_form_outside" ["sizes", "word", "part"] (spD K g_p_is_short_form_outside))
    (G_p_is_long_form_outside : Has P w K mg base k "_is_long_form_outside" ["sizes", "word", "part", "second_part"] (spD K g_p_is_long_form_outside)) : Has P w K mg base (k + 1) "_is_form_outside" ["sizes", "value"] (spD K g_p_is_form_outside) := ⟨f, fd, f_p_is_form_outside F hb hm y_isinstance y_len y_str y_tuple G_p_is_short_form_outside G_p_is_long_form_outside, hb, hm, F.kp⟩
abbrev s_has_form_shape : Stmt := top 26
theorem sc_has_form_shape : FnScope ["sizes", "value", "left", "part"] ["sizes", "value"] (defScope s_has_form_shape) := ⟨rfl, rfl, rfl, by decide +kernel, rfl, by decide +kernel, by decide +kernel⟩
theorem f_has_form_shape {P : Program} {w : World} {K : PySem.W.Frag} {mg : Str → Option Value} {base : Heap} {f : Addr} {fd : FuncData} {k : Nat} (F : Fun K "has_form_shape" "has_form_shape" s_has_form_shape f fd) (hb : Binds K fd ["sizes", "value"] []) (hm : mg "has_form_shape" = some (.ref f))
    (G_inner_forms : Has P w K mg base k "inner_forms" ["form"] (spD K g_inner_forms))
    (G_p_is_form_outside : Has P w K mg base k "_is_form_outside" ["sizes", "value"] (spD K g_p_is_form_outside)) : FnOk P w K mg base CX0 (k + 1) f fd ["sizes", "value"] (spD K g_has_form_shape) := fn_d F sc_has_form_shape fun cdv A outer s H E hr =>
  (dss_cons (ds_own (i := 2) sc_has_form_shape.nd rfl (by first | exact Or.inl rfl | exact Or.inr rfl) (xf_lst (xa_cons (de_v 1) xa_nil)))
  (dss_cons (ds_while WH PassesOwn.never (dt_truO 2)
    (dss_cons (ds_set (i := 3) sc_has_form_shape.nd rfl (by first | exact Or.inl rfl | exact Or.inr rfl) (de_pop 2 (hpe := pe_bm0 PySem.F.plainAttrs_list PySem.F.slot_list_pop PySem.F.type_list_pop mt_pop (pv 2))))
  (dss_cons (ds_if (xt_not (xt_tru (xc G_p_is_form_outside hr (by rfl) (xa_cons (de_v 0) (xa_cons (de_v 3) xa_nil)))))
    (dss_one (ds_ret de_bl))
    dss_nil)
  (dss_one (ds_ext 2 (te := _) (fun _ _ _ _ h => h) (ps_expr (pe_bm PySem.F.plainAttrs_list PySem.F.slot_list_extend PySem.F.type_list_extend mt_extendA (pv 2) (pa_cons ((show DE _ _ _ _ _ from (xc G_inner_forms hr (by rfl) (xa_cons (de_v 3) xa_nil))).pe rfl) pa_nil))))))))
  (dss_one (ds_ret de_bl))))
theorem t_has_form_shape {P : Program} {w : World} {K : PySem.W.Frag} {mg : Str → Option Value} {base : Heap} {f : Addr} {fd : FuncData} {k : Nat} (F : Fun K "has_form_shape" "has_form_shape" s_has_form_shape f fd) (hb : Binds K fd ["sizes", "value"] []) (hm : mg "has_form_shape" = some (.ref f))
    (G_inner_forms : Has P w K mg base k "inner_forms" ["form"] (spD K g_inner_forms))
    (G_p_is_form_outside : Has P w K mg base k "_is_form_outside" ["sizes", "value"] (spD K g_p_is_form_outside)) : Has P w K mg base (k + 1) "has_form_shape" ["sizes", "value"] (spD K g_has_form_shape) := ⟨f, fd, f_has_form_shape F hb hm G_inner_forms G_p_is_form_outside, hb, hm, F.kp⟩
abbrev s_check_form : Stmt := top 40
theorem sc_check_form : FnScope ["sizes", "form"] ["sizes", "form"] (defScope s_check_form) := ⟨rfl, rfl, rfl, by decide +kernel, rfl, by decide +kernel, by decide +kernel⟩
theorem f_check_form {P : Program} {w : World} {K : PySem.W.Frag} {mg : Str → Option Value} {base : Heap} {f : Addr} {fd : FuncData} {k : Nat} (F : Fun K "check_form" "check_form" s_check_form f fd) (hb : Binds K fd ["sizes", "form"] []) (hm : mg "check_form" = some (.ref f))
    (G_has_form_shape : Has P w K mg base k "has_form_shape" ["sizes", "value"] (spD K g_has_form_shape)) : FnOk P w K mg base CX0 (k + 1) f fd ["sizes", "form"] (spD K g_check_form) := fn_d F sc_check_form fun cdv A outer s H E hr =>
  (dss_one (ds_if (xt_not (xt_tru (xc G_has_form_shape hr (by rfl) (xa_cons (de_v 0) (xa_cons (de_v 1) xa_nil)))))
    (dss_one xs_no)
    dss_nil))
theorem t_check_form {P : Program} {w : World} {K : PySem.W.Frag} {mg : Str → Option Value} {base : Heap} {f : Addr} {fd : FuncData} {k : Nat} (F : Fun K "check_form" "check_form" s_check_form f fd) (hb : Binds K fd ["sizes", "form"] []) (hm : mg "check_form" = some (.ref f))
    (G_has_form_shape : Has P w K mg base k "has_form_shape" ["sizes", "value"] (spD K g_has_form_shape)) : Has P w K mg base (k + 1) "check_form" ["sizes", "form"] (spD K g_check_form) := ⟨f, fd, f_check_form F hb hm G_has_form_shape, hb, hm, F.kp⟩
abbrev s_check_small_form : Stmt := top 41
theorem sc_check_small_form : FnScope ["sizes", "form"] ["sizes", "form"] (defScope s_check_small_form) := ⟨rfl, rfl, rfl, by decide +kernel, rfl, by decide +kernel, by decide +kernel⟩
theorem f_check_small_form {P : Program} {w : World} {K : PySem.W.Frag} {mg : Str → Option Value} {base : Heap} {f : Addr} {fd : FuncData} {k : Nat} (F : Fun K "check_small_form" "check_small_form" s_check_small_form f fd) (hb : Binds K fd ["sizes", "form"] []) (hm : mg "check_small_form" = some (.ref f))
    (G_check_sizes : Has P w K mg base k "check_sizes" ["sizes"] (spD K g_check_sizes))
    (G_check_small : Has P w K mg base k "check_small" ["sizes"] (spD K g_check_small))
    (G_check_form : Has P w K mg base k "check_form" ["sizes", "form"] (spD K g_check_form)) : FnOk P w K mg base CX0 (k + 1) f fd ["sizes", "form"] (spD K g_check_small_form) := fn_d F sc_check_small_form fun cdv A outer s H E hr =>
  (dss_cons (ds_expr (xc G_check_sizes hr (by rfl) (xa_cons (de_v 0) xa_nil)))
  (dss_cons (ds_expr (xc G_check_form hr (by rfl) (xa_cons (de_v 0) (xa_cons (de_v 1) xa_nil))))
  (dss_one (ds_expr (xc G_check_small hr (by rfl) (xa_cons (de_v 0) xa_nil))))))
theorem t_check_small_form {P : Program} {w : World} {K : PySem.W.Frag} {mg : Str → Option Value} {base : Heap} {f : Addr} {fd : FuncData} {k : Nat} (F : Fun K "check_small_form" "check_small_form" s_check_small_form f fd) (hb : Binds K fd ["sizes", "form"] []) (hm : mg "check_small_form" = some (.ref f))
    (G_check_sizes : Has P w K mg base k "check_sizes" ["sizes"] (spD K g_check_sizes))
    (G_check_small : Has P w K mg base k "check_small" ["sizes"] (spD K g_check_small))
    (G_check_form : Has P w K mg base k "check_form" ["sizes", "form"] (spD K g_check_form)) : Has P w K mg base (k + 1) "check_small_form" ["sizes", "form"] (spD K g_check_small_form) := ⟨f, fd, f_check_small_form F hb hm G_check_sizes G_check_small G_check_form, hb, hm, F.kp⟩
abbrev s_unknown_fields : Stmt := top 21
theorem sc_unknown_fields : FnScope ["half", "field"] ["half"] (defScope s_unknown_fields) := ⟨rfl, rfl, rfl, by decide +kernel, rfl, by decide +kernel, by decide +kernel⟩
theorem f_unknown_fields {P : Program} {w : World} {K : PySem.W.Frag} {mg : Str → Option Value} {base : Heap} {f : Addr} {fd : FuncData} {k : Nat} (F : Fun K "unknown_fields" "unknown_fields" s_unknown_fields f fd) (hb : Binds K fd ["half"] []) (hm : mg "unknown_fields" = some (.ref f))
    (y_len : mg "len" = none)
    (y_range : mg "range" = none) : FnOk P w K mg base CX0 (k + 1) f fd ["half"] (spD K g_unknown_fields) := fn_d F sc_unknown_fields fun cdv A outer s H E hr =>
  (dss_one (ds_ret (xe_fr (df_lc (own := [("field", 1)]) rfl sc_unknown_fields.nd (xi_range1 (by rfl) y_range (xa_cons (xcB cd_len (by rfl) y_len (by decide +kernel) (xa_cons (de_v 0) xa_nil)) xa_nil)) (blkOk_by (by kernel_rfl)) (fun _ _ _ _ _ => (dg_name 1 sc_unknown_fields.nd rfl (by first | exact Or.inl rfl | exact Or.inr rfl))) (fun _ _ _ _ _ => (dts_one (xt_cmp opd_is (xe_ix (de_v 0) (de_v 1) (fun _ _ => rfl)) de_non (nomark _)))) (fun _ _ _ _ _ => (de_v 1))))))
theorem t_unknown_fields {P : Program} {w : World} {K : PySem.W.Frag} {mg : Str → Option Value} {base : Heap} {f : Addr} {fd : FuncData} {k : Nat} (F : Fun K "unknown_fields" "unknown_fields" s_unknown_fields f fd) (hb : Binds K fd ["half"] []) (hm : mg "unknown_fields" = some (.ref f))
    (y_len : mg "len" = none)
    (y_range : mg "range" = none) : Has P w K mg base (k + 1) "unknown_fields" ["half"] (spD K g_unknown_fields) := ⟨f, fd, f_unknown_fields F hb hm y_len y_range, hb, hm, F.kp⟩
abbrev s_list_completing : Stmt := top 22
theorem sc_list_completing : FnScope ["sizes", "half", "cases", "at", "choices", "begun", "value"] ["sizes", "half"] (defScope s_list_completing) := ⟨rfl, rfl, rfl, by decide +kernel, rfl, by decide +kernel, by decide +kernel⟩
theorem f_list_completing {P : Program} {w : World} {K : PySem.W.Frag} {mg : Str → Option Value} {base : Heap} {f : Addr} {fd : FuncData} {k : Nat} (F : Fun K "list_completing" "list_completing" s_list_completing f fd) (hb : Binds K fd ["sizes", "half"] []) (hm : mg "list_completing" = some (.ref f))
    (y_len : mg "len" = none)
    (y_list : mg "list" = none)
    (y_range : mg "range" = none) : FnOk P w K mg base CX0 (k + 1) f fd ["sizes", "half"] (spD K g_list_completing) := fn_d F sc_list_completing fun cdv A outer s H E hr =>
  (dss_cons (ds_set (i := 2) sc_list_completing.nd rfl (by first | exact Or.inl rfl | exact Or.inr rfl) (xe_fr (xf_lst (xa_cons (xe_fr (xf_lst xa_nil)) xa_nil))))
  (dss_cons (ds_for PassesOwn.never rfl (xi_range1 (by rfl) y_range (xa_cons (xcB cd_len (by rfl) y_len (by decide +kernel) (xa_cons (de_v 0) xa_nil)) xa_nil)) (dg_name 3 sc_list_completing.nd rfl (by first | exact Or.inl rfl | exact Or.inr rfl))
    (dss_cons (ds_set (i := 4) sc_list_completing.nd rfl (by first | exact Or.inl rfl | exact Or.inr rfl) (de_if (xt_cmp opd_is (xe_ix (de_v 1) (de_v 3) (fun _ _ => rfl)) de_non (nomark _)) (xe_fr (df_lrng1 rfl (by rfl) y_list (by rfl) y_range (xe_ix (de_v 0) (de_v 3) (fun _ _ => rfl)))) (xe_fr (xf_lst (xa_cons (xe_ix (de_v 1) (de_v 3) (fun _ _ => rfl)) xa_nil)))))
  (dss_one (ds_setLc2 (vs1 := [6]) (i := 2) (own := [("begun", 5), ("value", 6)]) rfl sc_list_completing.nd rfl rfl (sw_true rfl rfl rfl (by decide +kernel)) (xi_seq (de_v 2)) (blkOk_by (by kernel_rfl)) (by decide) (fun _ _ _ _ _ => (dg_name 5 sc_list_completing.nd rfl (by first | exact Or.inl rfl | exact Or.inr rfl))) (fun _ _ _ _ _ => dts_nil) (fun _ _ _ _ _ => (xi_seq (de_v 4))) (fun _ _ _ _ _ => (dg_name 6 sc_list_completing.nd rfl (by first | exact Or.inl rfl | exact Or.inr rfl))) (fun _ _ _ _ _ => dts_nil) (fun _ _ _ _ _ => (xe_fr (xf_lst (da_star (de_v 5) (xa_cons (de_v 6) xa_nil)))))))))
  (dss_one (ds_ret (de_v 2)))))
theorem t_list_completing {P : Program} {w : World} {K : PySem.W.Frag} {mg : Str → Option Value} {base : Heap} {f : Addr} {fd : FuncData} {k : Nat} (F : Fun K "list_completing" "list_completing" s_list_completing f fd) (hb : Binds K fd ["sizes", "half"] []) (hm : mg "list_completing" = some (.ref f))
    (y_len : mg "len" = none)
    (y_list : mg "list" = none)
    (y_range : mg "range" = none) : Has P w K mg base (k + 1) "list_completing" ["sizes", "half"] (spD K g_list_completing) := ⟨f, fd, f_list_completing F hb hm y_len y_list y_range, hb, hm, F.kp⟩
abbrev s_p_join_answers : Stmt := top 50
theorem sc_p_join_answers : FnScope ["word", "results"] ["word", "results"] (defScope s_p_join_answers) := ⟨rfl, rfl, rfl, by decide +kernel, rfl, by decide +kernel, by decide +kernel⟩
theorem f_p_join_answers {P : Program} {w : World} {K : PySem.W.Frag} {mg : Str → Option Value} {base : Heap} {f : Addr} {fd : FuncData} {k : Nat} (F : Fun K "_join_answers" "_join_answers" s_p_join_answers f fd) (hb : Binds K fd ["word", "results"] []) (hm : mg "_join_answers" = some (.ref f))
     : FnOk P w K mg base CX0 (k + 1) f fd ["word", "results"] (spD K g_p_join_answers) := fn_d F sc_p_join_answers fun cdv A outer s H E hr =>
  (dss_cons (ds_if (xt_cmp (opd_eq hr) (de_v 0) de_str (nomark _))
    (dss_one (ds_ret (xe_cmp (opd_notIn hr) de_bl (de_v 1) (by rfl))))
    dss_nil)
  (dss_cons (ds_if (xt_cmp (opd_eq hr) (de_v 0) de_str (nomark _))
    (dss_one (ds_ret (xe_cmp (opd_in hr) de_bl (de_v 1) (by rfl))))
    dss_nil)
  (dss_one (ds_ret (xe_cmp (opd_eq hr) (xe_op opd_mod (de_bm PySem.F.plainAttrs_list PySem.F.slot_list_count PySem.F.type_list_count mtd_count (de_v 1) (xa_cons de_bl xa_nil)) de_int) de_int (nomark _))))))
theorem t_p_join_answers {P : Program} {w : World} {K : PySem.W.Frag} {mg : Str → Option Value} {base : Heap} {f : Addr} {fd : FuncData} {k : Nat} (F : Fun K "_join_answers" "_join_answers" s_p_join_answers f fd) (hb : Binds K fd ["word", "results"] []) (hm : mg "_join_answers" = some (.ref f))
     : Has P w K mg base (k + 1) "_join_answers" ["word", "results"] (spD K g_p_join_answers) := ⟨f, fd, f_p_join_answers F hb hm , hb, hm, F.kp⟩
abbrev s_place_of_case : Stmt := top 19
theorem sc_place_of_case : FnScope ["sizes", "case", "place", "at"] ["sizes", "case"] (defScope s_place_of_case) := ⟨rfl, rfl, rfl, by decide +kernel, rfl, by decide +kernel, by decide +kernel⟩
theorem f_place_of_case {P : Program} {w : World} {K : PySem.W.Frag} {mg : Str → Option Value} {base : Heap} {f : Addr} {fd : FuncData} {k : Nat} (F : Fun K "place_of_case" "place_of_case" s_place_of_case f fd) (hb : Binds K fd ["sizes", "case"] []) (hm : mg "place_of_case" = some (.ref f))
    (y_len : mg "len" = none)
    (y_range : mg "range" = none) : FnOk P w K mg base CX0 (k + 1) f fd ["sizes", "case"] (spD K g_place_of_case) := fn_d F sc_place_of_case fun cdv A outer s H E hr =>
  (dss_cons (ds_set (i := 2) sc_place_of_case.nd rfl (by first | exact Or.inl rfl | exact Or.inr rfl) de_int)
  (dss_cons (ds_for PassesOwn.never rfl (xi_range1 (by rfl) y_range (xa_cons (xcB cd_len (by rfl) y_len (by decide +kernel) (xa_cons (de_v 0) xa_nil)) xa_nil)) (dg_name 3 sc_place_of_case.nd rfl (by first | exact Or.inl rfl | exact Or.inr rfl))
    (dss_one (ds_set (i := 2) sc_place_of_case.nd rfl (by first | exact Or.inl rfl | exact Or.inr rfl) (xe_op opd_add (xe_op opd_mul (de_v 2) (xe_ix (de_v 0) (de_v 3) (fun _ _ => rfl))) (xe_ix (de_v 1) (de_v 3) (fun _ _ => rfl))))))
  (dss_one (ds_ret (de_v 2)))))
theorem t_place_of_case {P : Program} {w : World} {K : PySem.W.Frag} {mg : Str → Option Value} {base : Heap} {f : Addr} {fd : FuncData} {k : Nat} (F : Fun K "place_of_case" "place_of_case" s_place_of_case f fd) (hb : Binds K fd ["sizes", "case"] []) (hm : mg "place_of_case" = some (.ref f))
    (y_len : mg "len" = none)
    (y_range : mg "range" = none) : Has P w K mg base (k + 1) "place_of_case" ["sizes", "case"] (spD K g_place_of_case) := ⟨f, fd, f_place_of_case F hb hm y_len y_range, hb, hm, F.kp⟩
abbrev s_sum_of_weights : Stmt := top 45
theorem sc_sum_of_weights : FnScope ["weights", "case", "at"] ["weights", "case"] (defScope s_sum_of_weights) := ⟨rfl, rfl, rfl, by decide +kernel, rfl, by decide +kernel, by decide +kernel⟩
theorem f_sum_of_weights {P : Program} {w : World} {K : PySem.W.Frag} {mg : Str → Option Value} {base : Heap} {f : Addr} {fd : FuncData} {k : Nat} (F : Fun K "sum_of_weights" "sum_of_weights" s_sum_of_weights f fd) (hb : Binds K fd ["weights", "case"] []) (hm : mg "sum_of_weights" = some (.ref f))
    (y_len : mg "len" = none)
    (y_range : mg "range" = none)
    (y_sum : mg "sum" = none) : FnOk P w K mg base CX0 (k + 1) f fd ["weights", "case"] (spD K g_sum_of_weights) := fn_d F sc_sum_of_weights fun cdv A outer s H E hr =>
  (dss_one (ds_ret (xcB (cd_sum rfl) (by rfl) y_sum (by decide +kernel) (xa_cons (xe_fr (df_lc (own := [("at", 2)]) rfl sc_sum_of_weights.nd (xi_range1 (by rfl) y_range (xa_cons (xcB cd_len (by rfl) y_len (by decide +kernel) (xa_cons (de_v 1) xa_nil)) xa_nil)) (blkOk_by (by kernel_rfl)) (fun _ _ _ _ _ => (dg_name 2 sc_sum_of_weights.nd rfl (by first | exact Or.inl rfl | exact Or.inr rfl))) (fun _ _ _ _ _ => dts_nil) (fun _ _ _ _ _ => (xe_ix (xe_ix (de_v 0) (de_v 2) (fun _ _ => rfl)) (xe_ix (de_v 1) (de_v 2) (fun _ _ => rfl)) (fun _ _ => rfl))))) xa_nil))))
theorem t_sum_of_weights {P : Program} {w : World} {K : PySem.W.Frag} {mg : Str → Option Value} {base : Heap} {f : Addr} {fd : FuncData} {k : Nat} (F : Fun K "sum_of_weights" "sum_of_weights" s_sum_of_weights f fd) (hb : Binds K fd ["weights", "case"] []) (hm : mg "sum_of_weights" = some (.ref f))
    (y_len : mg "len" = none)
    (y_range : mg "range" = none)
    (y_sum : mg "sum" = none) : Has P w K mg base (k + 1) "sum_of_weights" ["weights", "case"] (spD K g_sum_of_weights) := ⟨f, fd, f_sum_of_weights F hb hm y_len y_range y_sum, hb, hm, F.kp⟩
abbrev s_fits : Stmt := top 44
theorem sc_fits : FnScope ["conditions", "case", "field", "values"] ["conditions", "case"] (defScope s_fits) := ⟨rfl, rfl, rfl, by decide +kernel, rfl, by decide +kernel, by decide +kernel⟩
theorem f_fits {P : Program} {w : World} {K : PySem.W.Frag} {mg : Str → Option Value} {base : Heap} {f : Addr} {fd : FuncData} {k : Nat} (F : Fun K "fits" "fits" s_fits f fd) (hb : Binds K fd ["conditions", "case"] []) (hm : mg "fits" = some (.ref f))
    (y_all : mg "all" = none) : FnOk P w K mg base CX0 (k + 1) f fd ["conditions", "case"] (spD K g_fits) := fn_d F sc_fits fun cdv A outer s H E hr =>
  (dss_one (ds_ret (xcB (cd_all rfl) (by rfl) y_all (by decide +kernel) (xa_cons (xe_fr (df_lc (own := [("field", 2), ("values", 3)]) rfl sc_fits.nd (xi_seq (de_v 0)) (blkOk_by (by kernel_rfl)) (fun _ _ _ _ _ => (dg_tup (n := 2) rfl (dgs_cons (dg_name 2 sc_fits.nd rfl (by first | exact Or.inl rfl | exact Or.inr rfl)) (dgs_cons (dg_name 3 sc_fits.nd rfl (by first | exact Or.inl rfl | exact Or.inr rfl)) dgs_nil)))) (fun _ _ _ _ _ => dts_nil) (fun _ _ _ _ _ => (xe_cmp (opd_in hr) (xe_ix (de_v 1) (de_v 2) (fun _ _ => rfl)) (de_v 3) (by rfl))))) xa_nil))))
theorem t_fits {P : Program} {w : World} {K : PySem.W.Frag} {mg : Str → Option Value} {base : Heap} {f : Addr} {fd : FuncData} {k : Nat} (F : Fun K "fits" "fits" s_fits f fd) (hb : Binds K fd ["conditions", "case"] []) (hm : mg "fits" = some (.ref f))
    (y_all : mg "all" = none) : Has P w K mg base (k + 1) "fits" ["conditions", "case"] (spD K g_fits) := ⟨f, fd, f_fits F hb hm y_all, hb, hm, F.kp⟩
abbrev s_p_first_result : Stmt := top 52
theorem sc_p_first_result : FnScope ["rules", "last", "case", "conditions", "result"] ["rules", "last", "case"] (defScope s_p_first_result) := ⟨rfl, rfl, rfl, by decide +kernel, rfl, by decide +kernel, by decide +kernel⟩
theorem f_p_first_result {P : Program} {w : World} {K : PySem.W.Frag} {mg : Str → Option Value} {base : Heap} {f : Addr} {fd : FuncData} {k : Nat} (F : Fun K "_first_result" "_first_result" s_p_first_result f fd) (hb : Binds K fd ["rules", "last", "case"] []) (hm : mg "_first_result" = some (.ref f))
    (G_fits : Has P w K mg base k "fits" ["conditions", "case"] (spD K g_fits)) : FnOk P w K mg base CX0 (k + 1) f fd ["rules", "last", "case"] (spD K g_p_first_result) := fn_d F sc_p_first_result fun cdv A outer s H E hr =>
  (dss_cons (ds_for PassesOwn.never rfl (xi_seq (de_v 0)) (dg_tup (n := 2) rfl (dgs_cons (dg_name 3 sc_p_first_result.nd rfl (by first | exact Or.inl rfl | exact Or.inr rfl)) (dgs_cons (dg_name 4 sc_p_first_result.nd rfl (by first | exact Or.inl rfl | exact Or.inr rfl)) dgs_nil)))
    (dss_one (ds_if (xt_tru (xc G_fits hr (by rfl) (xa_cons (de_v 3) (xa_cons (de_v 2) xa_nil))))
    (dss_one (ds_ret (de_v 4)))
    dss_nil)))
  (dss_one (ds_ret (de_v 1))))
theorem t_p_first_result {P : Program} {w : World} {K : PySem.W.Frag} {mg : Str → Option Value} {base : Heap} {f : Addr} {fd : FuncData} {k : Nat} (F : Fun K "_first_result" "_first_result" s_p_first_result f fd) (hb : Binds K fd ["rules", "last", "case"] []) (hm : mg "_first_result" = some (.ref f))
    (G_fits : Has P w K mg base k "fits" ["conditions", "case"] (spD K g_fits)) : Has P w K mg base (k + 1) "_first_result" ["rules", "last", "case"] (spD K g_p_first_result) := ⟨f, fd, f_p_first_result F hb hm G_fits, hb, hm, F.kp⟩
abbrev s_p_says_alone : Stmt := top 51
theorem sc_p_says_alone : FnScope ["sizes", "form", "case"] ["sizes", "form", "case"] (defScope s_p_says_alone) := ⟨rfl, rfl, rfl, by decide +kernel, rfl, by decide +kernel, by decide +kernel⟩
theorem f_p_says_alone {P : Program} {w : World} {K : PySem.W.Frag} {mg : Str → Option Value} {base : Heap} {f : Addr} {fd : FuncData} {k : Nat} (F : Fun K "_says_alone" "_says_alone" s_p_says_alone f fd) (hb : Binds K fd ["sizes", "form", "case"] []) (hm : mg "_says_alone" = some (.ref f))
    (G_place_of_case : Has P w K mg base k "place_of_case" ["sizes", "case"] (spD K g_place_of_case))
    (G_sum_of_weights : Has P w K mg base k "sum_of_weights" ["weights", "case"] (spD K g_sum_of_weights))
    (G_p_first_result : Has P w K mg base k "_first_result" ["rules", "last", "case"] (spD K g_p_first_result)) : FnOk P w K mg base CX0 (k + 1) f fd ["sizes", "form", "case"] (spD K g_p_says_alone) := fn_d F sc_p_says_alone fun cdv A outer s H E hr =>
  (dss_cons (ds_if (xt_cmp (opd_eq hr) (xe_ix (de_v 1) de_int (fun _ _ => rfl)) de_str (nomark _))
    (dss_one (ds_ret (xe_ix (de_v 1) de_int (fun _ _ => rfl))))
    dss_nil)
  (dss_cons (ds_if (xt_cmp (opd_eq hr) (xe_ix (de_v 1) de_int (fun _ _ => rfl)) de_str (nomark _))
    (dss_one (ds_ret (xe_cmp (opd_in hr) (xe_ix (de_v 2) (xe_ix (de_v 1) de_int (fun _ _ => rfl)) (fun _ _ => rfl)) (xe_ix (de_v 1) de_int (fun _ _ => rfl)) (by rfl))))
    dss_nil)
  (dss_cons (ds_if (xt_cmp (opd_eq hr) (xe_ix (de_v 1) de_int (fun _ _ => rfl)) de_str (nomark _))
    (dss_one (ds_ret (xc G_p_first_result hr (by rfl) (xa_cons (xe_ix (de_v 1) de_int (fun _ _ => rfl)) (xa_cons (xe_ix (de_v 1) de_int (fun _ _ => rfl)) (xa_cons (de_v 2) xa_nil))))))
    dss_nil)
  (dss_cons (ds_if (xt_cmp (opd_eq hr) (xe_ix (de_v 1) de_int (fun _ _ => rfl)) de_str (nomark _))
    (dss_one (ds_ret (xe_cmp opd_ge (xc G_sum_of_weights hr (by rfl) (xa_cons (xe_ix (de_v 1) de_int (fun _ _ => rfl)) (xa_cons (de_v 2) xa_nil))) (xe_ix (de_v 1) de_int (fun _ _ => rfl)) (nomark _))))
    dss_nil)
  (dss_one (ds_ret (xe_ix (xe_ix (de_v 1) de_int (fun _ _ => rfl)) (xc G_place_of_case hr (by rfl) (xa_cons (de_v 0) (xa_cons (de_v 2) xa_nil))) (fun _ _ => rfl))))))))
theorem t_p_says_alone {P : Program} {w : World} {K : PySem.W.Frag} {mg : Str → Option Value} {base : Heap} {f : Addr} {fd : FuncData} {k : Nat} (F : Fun K "_says_alone" "_says_alone" s_p_says_alone f fd) (hb : Binds K fd ["sizes", "form", "case"] []) (hm : mg "_says_alone" = some (.ref f))
    (G_place_of_case : Has P w K mg base k "place_of_case" ["sizes", "case"] (spD K g_place_of_case))
    (G_sum_of_weights : Has P w K mg base k "sum_of_weights" ["weights", "case"] (spD K g_sum_of_weights))
    (G_p_first_result : Has P w K mg base k "_first_result" ["rules", "last", "case"] (spD K g_p_first_result)) : Has P w K mg base (k + 1) "_says_alone" ["sizes", "form", "case"] (spD K g_p_says_alone) := ⟨f, fd, f_p_says_alone F hb hm G_place_of_case G_sum_of_weights G_p_first_result, hb, hm, F.kp⟩
abbrev s_says : Stmt := top 43
theorem sc_says : FnScope ["sizes", "form", "case", "part"] ["sizes", "form", "case"] (defScope s_says) := ⟨rfl, rfl, rfl, by decide +kernel, rfl, by decide +kernel, by decide +kernel⟩
theorem t_says {P : Program} {w : World} {K : PySem.W.Frag} {mg : Str → Option Value} {base : Heap} {f : Addr} {fd : FuncData} {k : Nat} (F : Fun K "says" "says" s_says f fd) (hb : Binds K fd ["sizes", "form", "case"] []) (hm : mg "says" = some (.ref f))
    (m_JOINING_WORDS : CTup K mg "JOINING_WORDS" c_JOINING_WORDS)
    (G_p_join_answers : Has P w K mg base k "_join_answers" ["word", "results"] (spD K g_p_join_answers))
    (G_p_says_alone : Has P w K mg base k "_says_alone" ["sizes", "form", "case"] (spD K g_p_says_alone)) : ∀ n, Has P w K mg base (k + n) "says" ["sizes", "form", "case"] (spD K (g_says n))
  | 0 => has_none F hb hm
  | n + 1 => by
    have G_self : Has P w K mg base (k + n) "says" ["sizes", "form", "case"] (spD K (g_says n)) := t_says (k := k) F hb hm m_JOINING_WORDS G_p_join_answers G_p_says_alone n
    have G_p_join_answers := G_p_join_answers.mono (Nat.le_add_right k n)
    have G_p_says_alone := G_p_says_alone.mono (Nat.le_add_right k n)
    exact def_d F sc_says hb hm fun cdv A outer s H E hr =>
  (dss_cons (ds_if (xt_cmp (opd_eq hr) (xe_ix (de_v 1) de_int (fun _ _ => rfl)) de_str (nomark _))
    (dss_one (ds_ret (xc G_self hr (by rfl) (xa_cons (de_v 0) (xa_cons (xe_ix (xe_ix (de_v 1) de_int (fun _ _ => rfl)) (xe_ix (de_v 2) (xe_ix (de_v 1) de_int (fun _ _ => rfl)) (fun _ _ => rfl)) (fun _ _ => rfl)) (xa_cons (de_v 2) xa_nil))))))
    dss_nil)
  (dss_cons (ds_if (xt_cmp (opd_eq hr) (xe_ix (de_v 1) de_int (fun _ _ => rfl)) de_str (nomark _))
    (dss_one (ds_ret (xe_not (xc G_self hr (by rfl) (xa_cons (de_v 0) (xa_cons (xe_ix (de_v 1) de_int (fun _ _ => rfl)) (xa_cons (de_v 2) xa_nil)))))))
    dss_nil)
  (dss_cons (ds_if (xt_cmp (opd_in hr) (xe_ix (de_v 1) de_int (fun _ _ => rfl)) (m_JOINING_WORDS.de (by rfl)) (by rfl))
    (dss_one (ds_ret (xc G_p_join_answers hr (by rfl) (xa_cons (xe_ix (de_v 1) de_int (fun _ _ => rfl)) (xa_cons (xe_fr (df_lc (own := [("part", 3)]) rfl sc_says.nd (xi_seq (xe_ix (de_v 1) de_int (fun _ _ => rfl))) (blkOk_by (by kernel_rfl)) (fun _ _ _ _ _ => (dg_name 3 sc_says.nd rfl (by first | exact Or.inl rfl | exact Or.inr rfl))) (fun _ _ _ _ _ => dts_nil) (fun _ _ _ _ _ => (xc G_self hr (by rfl) (xa_cons (de_v 0) (xa_cons (de_v 3) (xa_cons (de_v 2) xa_nil))))))) xa_nil)))))
    dss_nil)
  (dss_one (ds_ret (xc G_p_says_alone hr (by rfl) (xa_cons (de_v 0) (xa_cons (de_v 1) (xa_cons (de_v 2) xa_nil)))))))))
abbrev s_answers_completing : Stmt := top 46
theorem sc_answers_completing : FnScope ["sizes", "form", "half", "case"] ["sizes", "form", "half"] (defScope s_answers_completing) := ⟨rfl, rfl, rfl, by decide +kernel, rfl, by decide +kernel, by decide +kernel⟩
theorem f_answers_completing {P : Program} {w : World} {K : PySem.W.Frag} {mg : Str → Option Value} {base : Heap} {f : Addr} {fd : FuncData} {k : Nat} (F : Fun K "answers_completing" "answers_completing" s_answers_completing f fd) (hb : Binds K fd ["sizes", "form", "half"] []) (hm : mg "answers_completing" = some (.ref f))
    (G_list_completing : Has P w K mg base k "list_completing" ["sizes", "half"] (spD K g_list_completing))
    (G_says : Has P w K mg base k "says" ["sizes", "form", "case"] (spD K (g_says FU))) : FnOk P w K mg base CX0 (k + 1) f fd ["sizes", "form", "half"] (spD K g_answers_completing) := fn_d F sc_answers_completing fun cdv A outer s H E hr =>
  (dss_one (ds_ret (xe_fr (df_lc (own := [("case", 3)]) rfl sc_answers_completing.nd (xi_seq (xc G_list_completing hr (by rfl) (xa_cons (de_v 0) (xa_cons (de_v 2) xa_nil)))) (blkOk_by (by kernel_rfl)) (fun _ _ _ _ _ => (dg_name 3 sc_answers_completing.nd rfl (by first | exact Or.inl rfl | exact Or.inr rfl))) (fun _ _ _ _ _ => dts_nil) (fun _ _ _ _ _ => (xc G_says hr (by rfl) (xa_cons (de_v 0) (xa_cons (de_v 1) (xa_cons (de_v 3) xa_nil)))))))))
theorem t_answers_completing {P : Program} {w : World} {K : PySem.W.Frag} {mg : Str → Option Value} {base : Heap} {f : Addr} {fd : FuncData} {k : Nat} (F : Fun K "answers_completing" "answers_completing" s_answers_completing f fd) (hb : Binds K fd ["sizes", "form", "half"] []) (hm : mg "answers_completing" = some (.ref f))
    (G_list_completing : Has P w K mg base k "list_completing" ["sizes", "half"] (spD K g_list_completing))
    (G_says : Has P w K mg base k "says" ["sizes", "form", "case"] (spD K (g_says FU))) : Has P w K mg base (k + 1) "answers_completing" ["sizes", "form", "half"] (spD K g_answers_completing) := ⟨f, fd, f_answers_completing F hb hm G_list_completing G_says, hb, hm, F.kp⟩
abbrev s_tested : Stmt := top 49
theorem sc_tested : FnScope ["field", "branches"] ["field", "branches"] (defScope s_tested) := ⟨rfl, rfl, rfl, by decide +kernel, rfl, by decide +kernel, by decide +kernel⟩
theorem t_tested {P : Program} {w : World} {K : PySem.W.Frag} {mg : Str → Option Value} {base : Heap} {f : Addr} {fd : FuncData} {k : Nat} (F : Fun K "tested" "tested" s_tested f fd) (hb : Binds K fd ["field", "branches"] []) (hm : mg "tested" = some (.ref f))
    (y_len : mg "len" = none) : Has P w K mg base (k + 1) "tested" ["field", "branches"] (spT K g_tested) := def_t F sc_tested hb hm rfl fun cdv A outer s H E hr =>
  (pss_consK rfl (ps_ifK rfl (pt_cmpK rfl (opd_eq hr) (pe_countT 1 hr rfl (xa_cons (xe_ix (de_v 1) de_int (fun _ _ => rfl)) xa_nil)) (xcB cd_len (by rfl) y_len (by decide +kernel) (xa_cons (de_v 1) xa_nil)) (nomark _)) (dss_one (ds_ret (xe_ix (de_v 1) de_int (fun _ _ => rfl)))) dss_nil) (dss_one (ds_ret (xe_tup (xa_cons de_str (xa_cons (de_v 0) (xa_cons (de_v 1) xa_nil)))))))
abbrev s_ordered_tree_completing : Stmt := top 48
theorem sc_ordered_tree_completing : FnScope ["sizes", "form", "half", "trees", "field", "size", "result", "at"] ["sizes", "form", "half"] (defScope s_ordered_tree_completing) := ⟨rfl, rfl, rfl, by decide +kernel, rfl, by decide +kernel, by decide +kernel⟩
theorem f_ordered_tree_completing {P : Program} {w : World} {K : PySem.W.Frag} {mg : Str → Option Value} {base : Heap} {f : Addr} {fd : FuncData} {k : Nat} (F : Fun K "ordered_tree_completing" "ordered_tree_completing" s_ordered_tree_completing f fd) (hb : Binds K fd ["sizes", "form", "half"] []) (hm : mg "ordered_tree_completing" = some (.ref f))
    (y_len : mg "len" = none)
    (y_range : mg "range" = none)
    (y_tuple : mg "tuple" = none)
    (G_unknown_fields : Has P w K mg base k "unknown_fields" ["half"] (spD K g_unknown_fields))
    (G_answers_completing : Has P w K mg base k "answers_completing" ["sizes", "form", "half"] (spD K g_answers_completing))
    (G_tested : Has P w K mg base k "tested" ["field", "branches"] (spT K g_tested)) : FnOk P w K mg base CX0 (k + 1) f fd ["sizes", "form", "half"] (spD K g_ordered_tree_completing) := fn_d F sc_ordered_tree_completing fun cdv A outer s H E hr =>
  (dss_cons (ds_set (i := 3) sc_ordered_tree_completing.nd rfl (by first | exact Or.inl rfl | exact Or.inr rfl) (xe_fr (df_lc (own := [("result", 6)]) rfl sc_ordered_tree_completing.nd (xi_seq (xc G_answers_completing hr (by rfl) (xa_cons (de_v 0) (xa_cons (de_v 1) (xa_cons (de_v 2) xa_nil))))) (blkOk_by (by kernel_rfl)) (fun _ _ _ _ _ => (dg_name 6 sc_ordered_tree_completing.nd rfl (by first | exact Or.inl rfl | exact Or.inr rfl))) (fun _ _ _ _ _ => dts_nil) (fun _ _ _ _ _ => (xe_tup (xa_cons de_str (xa_cons (de_v 6) xa_nil)))))))
  (dss_cons (ds_for PassesOwn.never rfl (xi_seq (xe_fr (df_revL (xc G_unknown_fields hr (by rfl) (xa_cons (de_v 2) xa_nil))))) (dg_name 4 sc_ordered_tree_completing.nd rfl (by first | exact Or.inl rfl | exact Or.inr rfl))
    (dss_cons (ds_set (i := 5) sc_ordered_tree_completing.nd rfl (by first | exact Or.inl rfl | exact Or.inr rfl) (xe_ix (de_v 0) (de_v 4) (fun _ _ => rfl)))
  (dss_one (ds_set (i := 3) sc_ordered_tree_completing.nd rfl (by first | exact Or.inl rfl | exact Or.inr rfl) (xe_fr (df_lc (own := [("at", 7)]) rfl sc_ordered_tree_completing.nd (xi_range3 (by rfl) y_range (xa_cons de_int (xa_cons (xcB cd_len (by rfl) y_len (by decide +kernel) (xa_cons (de_v 3) xa_nil)) (xa_cons (de_v 5) xa_nil)))) (blkOk_by (by kernel_rfl)) (fun _ _ _ _ _ => (dg_name 7 sc_ordered_tree_completing.nd rfl (by first | exact Or.inl rfl | exact Or.inr rfl))) (fun _ _ _ _ _ => dts_nil) (fun _ _ _ _ _ => (dc_tested G_tested hr (by rfl) (by rfl) y_tuple (de_v 4) (xe_fr (xf_slice (de_v 3) (xo_some (de_v 7)) (xo_some (xe_op opd_add (de_v 7) (de_v 5)))))))))))))
  (dss_one (ds_ret (xe_ix (de_v 3) de_int (fun _ _ => rfl))))))
theorem t_ordered_tree_completing {P : Program} {w : World} {K : PySem.W.Frag} {mg : Str → Option Value} {base : Heap} {f : Addr} {fd : FuncData} {k : Nat} (F : Fun K "ordered_tree_completing" "ordered_tree_completing" s_ordered_tree_completing f fd) (hb : Binds K fd ["sizes", "form", "half"] []) (hm : mg "ordered_tree_completing" = some (.ref f))
    (y_len : mg "len" = none)
    (y_range : mg "range" = none)
    (y_tuple : mg "tuple" = none)
    (G_unknown_fields : Has P w K mg base k "unknown_fields" ["half"] (spD K g_unknown_fields))
    (G_answers_completing : Has P w K mg base k "answers_completing" ["sizes", "form", "half"] (spD K g_answers_completing))
    (G_tested : Has P w K mg base k "tested" ["field", "branches"] (spT K g_tested)) : Has P w K mg base (k + 1) "ordered_tree_completing" ["sizes", "form", "half"] (spD K g_ordered_tree_completing) := ⟨f, fd, f_ordered_tree_completing F hb hm y_len y_range y_tuple G_unknown_fields G_answers_completing G_tested, hb, hm, F.kp⟩
abbrev s_ordered_tree : Stmt := top 42
theorem sc_ordered_tree : FnScope ["sizes", "form"] ["sizes", "form"] (defScope s_ordered_tree) := ⟨rfl, rfl, rfl, by decide +kernel, rfl, by decide +kernel, by decide +kernel⟩
theorem f_ordered_tree {P : Program} {w : World} {K : PySem.W.Frag} {mg : Str → Option Value} {base : Heap} {f : Addr} {fd : FuncData} {k : Nat} (F : Fun K "ordered_tree" "ordered_tree" s_ordered_tree f fd) (hb : Binds K fd ["sizes", "form"] []) (hm : mg "ordered_tree" = some (.ref f))
    (y_len : mg "len" = none)
    (G_check_small_form : Has P w K mg base k "check_small_form" ["sizes", "form"] (spD K g_check_small_form))
    (G_ordered_tree_completing : Has P w K mg base k "ordered_tree_completing" ["sizes", "form", "half"] (spD K g_ordered_tree_completing)) : FnOk P w K mg base CX0 (k + 1) f fd ["sizes", "form"] (spD K g_ordered_tree) := fn_d F sc_ordered_tree fun cdv A outer s H E hr =>
  (dss_cons (ds_expr (xc G_check_small_form hr (by rfl) (xa_cons (de_v 0) (xa_cons (de_v 1) xa_nil))))
  (dss_one (ds_ret (xc G_ordered_tree_completing hr (by rfl) (xa_cons (de_v 0) (xa_cons (de_v 1) (xa_cons (xe_fr (xf_rep (xf_lst (xa_cons de_non xa_nil)) (xcB cd_len (by rfl) y_len (by decide +kernel) (xa_cons (de_v 0) xa_nil)))) xa_nil)))))))
theorem t_ordered_tree {P : Program} {w : World} {K : PySem.W.Frag} {mg : Str → Option Value} {base : Heap} {f : Addr} {fd : FuncData} {k : Nat} (F : Fun K "ordered_tree" "ordered_tree" s_ordered_tree f fd) (hb : Binds K fd ["sizes", "form"] []) (hm : mg "ordered_tree" = some (.ref f))
    (y_len : mg "len" = none)
    (G_check_small_form : Has P w K mg base k "check_small_form" ["sizes", "form"] (spD K g_check_small_form))
    (G_ordered_tree_completing : Has P w K mg base k "ordered_tree_completing" ["sizes", "form", "half"] (spD K g_ordered_tree_completing)) : Has P w K mg base (k + 1) "ordered_tree" ["sizes", "form"] (spD K g_ordered_tree) := ⟨f, fd, f_ordered_tree F hb hm y_len G_check_small_form G_ordered_tree_completing, hb, hm, F.kp⟩
abbrev s_law_cell_98eb9 : Stmt := top 63
theorem sc_law_cell_98eb9 : FnScope ["script", "k"] ["script", "k"] (defScope s_law_cell_98eb9) := ⟨rfl, rfl, rfl, by decide +kernel, rfl, by decide +kernel, by decide +kernel⟩
theorem f_law_cell_98eb9 {P : Program} {w : World} {K : PySem.W.Frag} {mg : Str → Option Value} {base : Heap} {f : Addr} {fd : FuncData} {k : Nat} (F : Fun K "_law_cell" "_law_cell" s_law_cell_98eb9 f fd) (hb : Binds K fd ["script", "k"] []) (hm : mg "_law_cell" = some (.ref f))
    (y_len : mg "len" = none) : FnOk P w K mg base CX0 (k + 1) f fd ["script", "k"] (spD K g_law_cell_98eb9) := fn_d F sc_law_cell_98eb9 fun cdv A outer s H E hr =>
  (dss_cons (ds_if (xt_cmp opd_lt (de_v 1) (xcB cd_len (by rfl) y_len (by decide +kernel) (xa_cons (de_v 0) xa_nil)) (nomark _))
    (dss_one (ds_ret (xe_ix (de_v 0) (de_v 1) (fun _ _ => rfl))))
    dss_nil)
  (dss_one (ds_ret de_int)))
theorem t_law_cell_98eb9 {P : Program} {w : World} {K : PySem.W.Frag} {mg : Str → Option Value} {base : Heap} {f : Addr} {fd : FuncData} {k : Nat} (F : Fun K "_law_cell" "_law_cell" s_law_cell_98eb9 f fd) (hb : Binds K fd ["script", "k"] []) (hm : mg "_law_cell" = some (.ref f))
    (y_len : mg "len" = none) : Has P w K mg base (k + 1) "_law_cell" ["script", "k"] (spD K g_law_cell_98eb9) := ⟨f, fd, f_law_cell_98eb9 F hb hm y_len, hb, hm, F.kp⟩
abbrev s_law_draw_48e0b : Stmt := top 64
theorem sc_law_draw_48e0b : FnScope ["cell", "k", "limit", "seed", "first", "second", "third"] ["cell", "k", "limit"] (defScope s_law_draw_48e0b) := ⟨rfl, rfl, rfl, by decide +kernel, rfl, by decide +kernel, by decide +kernel⟩
theorem f_law_draw_48e0b {P : Program} {w : World} {K : PySem.W.Frag} {mg : Str → Option Value} {base : Heap} {f : Addr} {fd : FuncData} {k : Nat} (F : Fun K "_law_draw" "_law_draw" s_law_draw_48e0b f fd) (hb : Binds K fd ["cell", "k", "limit"] []) (hm : mg "_law_draw" = some (.ref f))
    (y_int : mg "int" = none) : FnOk P w K mg base CX0 (k + 1) f fd ["cell", "k", "limit"] (spD K g_law_draw_48e0b) := fn_d F sc_law_draw_48e0b fun cdv A outer s H E hr =>
  (dss_cons (ds_if (xt_cmp opd_ge (de_v 0) (xe_op opd_pow de_int de_int) (nomark _))
    (dss_one (ds_ret (xe_op opd_mod (xe_op opd_mod (xcT cd_int (by rfl) y_int (by decide +kernel) (xa_cons (xe_op opd_shr (de_v 0) (xe_op opd_mul de_int (de_v 1))) xa_nil)) de_int) (de_v 2))))
    dss_nil)
  (dss_cons (ds_set (i := 3) sc_law_draw_48e0b.nd rfl (by first | exact Or.inl rfl | exact Or.inr rfl) (xe_op opd_mod (xcT cd_int (by rfl) y_int (by decide +kernel) (xa_cons (xe_op opd_add (xe_op opd_add (xe_op opd_mul (de_v 0) de_int) (xe_op opd_mul (xe_op opd_mul de_int (de_v 1)) (de_v 1))) de_int) xa_nil)) de_int))
  (dss_cons (ds_set (i := 4) sc_law_draw_48e0b.nd rfl (by first | exact Or.inl rfl | exact Or.inr rfl) (xe_op opd_mod (xcT cd_int (by rfl) y_int (by decide +kernel) (xa_cons (xe_op opd_add (xe_op opd_mul (de_v 3) (de_v 3)) (xe_op opd_mul de_int (de_v 1))) xa_nil)) de_int))
  (dss_cons (ds_set (i := 5) sc_law_draw_48e0b.nd rfl (by first | exact Or.inl rfl | exact Or.inr rfl) (xe_op opd_mod (xcT cd_int (by rfl) y_int (by decide +kernel) (xa_cons (xe_op opd_add (xe_op opd_mul (de_v 4) (de_v 4)) (de_v 3)) xa_nil)) de_int))
  (dss_cons (ds_set (i := 6) sc_law_draw_48e0b.nd rfl (by first | exact Or.inl rfl | exact Or.inr rfl) (xe_op opd_mod (xcT cd_int (by rfl) y_int (by decide +kernel) (xa_cons (xe_op opd_add (xe_op opd_mul (de_v 5) (de_v 5)) (de_v 4)) xa_nil)) de_int))
  (dss_one (ds_ret (xe_op opd_mod (xcT cd_int (by rfl) y_int (by decide +kernel) (xa_cons (xe_op opd_div (de_v 6) de_int) xa_nil)) (de_v 2)))))))))
theorem t_law_draw_48e0b {P : Program} {w : World} {K : PySem.W.Frag} {mg : Str → Option Value} {base : Heap} {f : Addr} {fd : FuncData} {k : Nat} (F : Fun K "_law_draw" "_law_draw" s_law_draw_48e0b f fd) (hb : Binds K fd ["cell", "k", "limit"] []) (hm : mg "_law_draw" = some (.ref f))
    (y_int : mg "int" = none) : Has P w K mg base (k + 1) "_law_draw" ["cell", "k", "limit"] (spD K g_law_draw_48e0b) := ⟨f, fd, f_law_draw_48e0b F hb hm y_int, hb, hm, F.kp⟩
abbrev s_law_sizes_48d55 : Stmt := top 65
theorem sc_law_sizes_48d55 : FnScope ["cell", "more", "most", "top", "sizes", "many", "k", "size"] ["cell", "more", "most"] (defScope s_law_sizes_48d55) := ⟨rfl, rfl, rfl, by decide +kernel, rfl, by decide +kernel, by decide +kernel⟩
theorem f_law_sizes_48d55 {P : Program} {w : World} {K : PySem.W.Frag} {mg : Str → Option Value} {base : Heap} {f : Addr} {fd : FuncData} {k : Nat} (F : Fun K "_law_sizes" "_law_sizes" s_law_sizes_48d55 f fd) (hb : Binds K fd ["cell", "more", "most"] []) (hm : mg "_law_sizes" = some (.ref f))
    (y_range : mg "range" = none)
    (G_law_draw_48e0b : Has P w K mg base k "_law_draw" ["cell", "k", "limit"] (spD K g_law_draw_48e0b)) : FnOk P w K mg base CX0 (k + 1) f fd ["cell", "more", "most"] (spD K g_law_sizes_48d55) := fn_d F sc_law_sizes_48d55 fun cdv A outer s H E hr =>
  (dss_cons (ds_set (i := 3) sc_law_sizes_48d55.nd rfl (by first | exact Or.inl rfl | exact Or.inr rfl) (xe_ix (xe_tup (xa_cons de_int (xa_cons de_int (xa_cons de_int xa_nil)))) (xc G_law_draw_48e0b hr (by rfl) (xa_cons (de_v 0) (xa_cons de_int (xa_cons de_int xa_nil)))) (fun _ _ => rfl)))
  (dss_cons (ds_own (i := 4) sc_law_sizes_48d55.nd rfl (by first | exact Or.inl rfl | exact Or.inr rfl) (xf_lst xa_nil))
  (dss_cons (ds_set (i := 5) sc_law_sizes_48d55.nd rfl (by first | exact Or.inl rfl | exact Or.inr rfl) de_int)
  (dss_cons (ds_for PassesOwn.never rfl (xi_range1 (by rfl) y_range (xa_cons (xc G_law_draw_48e0b hr (by rfl) (xa_cons (de_v 0) (xa_cons de_int (xa_cons de_int xa_nil)))) xa_nil)) (dg_name 6 sc_law_sizes_48d55.nd rfl (by first | exact Or.inl rfl | exact Or.inr rfl))
    (dss_cons (ds_set (i := 7) sc_law_sizes_48d55.nd rfl (by first | exact Or.inl rfl | exact Or.inr rfl) (xe_op opd_add de_int (xc G_law_draw_48e0b hr (by rfl) (xa_cons (de_v 0) (xa_cons (xe_op opd_add de_int (de_v 6)) (xa_cons (de_v 3) xa_nil))))))
  (dss_one (ds_if (xt_cmp opd_le (xe_op opd_mul (de_v 5) (xe_op opd_add (de_v 7) (de_v 1))) (de_v 2) (nomark _))
    (dss_cons (ds_app 4 (te := _) (fun _ _ _ _ h => h) (ps_expr (pe_bm PySem.F.plainAttrs_list PySem.F.slot_list_append PySem.F.type_list_append mt_append (pv 4) (pa_cons ((show DE _ _ _ _ _ from (de_v 7)).pe rfl) pa_nil))))
  (dss_one (ds_set (i := 5) sc_law_sizes_48d55.nd rfl (by first | exact Or.inl rfl | exact Or.inr rfl) (xe_op opd_mul (de_v 5) (xe_op opd_add (de_v 7) (de_v 1))))))
    dss_nil))))
  (dss_one (ds_frz 4 (ds_ret (de_v 4))))))))
theorem t_law_sizes_48d55 {P : Program} {w : World} {K : PySem.W.Frag} {mg : Str → Option Value} {base : Heap} {f : Addr} {fd : FuncData} {k : Nat} (F : Fun K "_law_sizes" "_law_sizes" s_law_sizes_48d55 f fd) (hb : Binds K fd ["cell", "more", "most"] []) (hm : mg "_law_sizes" = some (.ref f))
    (y_range : mg "range" = none)
    (G_law_draw_48e0b : Has P w K mg base k "_law_draw" ["cell", "k", "limit"] (spD K g_law_draw_48e0b)) : Has P w K mg base (k + 1) "_law_sizes" ["cell", "more", "most"] (spD K g_law_sizes_48d55) := ⟨f, fd, f_law_sizes_48d55 F hb hm y_range G_law_draw_48e0b, hb, hm, F.kp⟩
abbrev s_law_cases_72b18 : Stmt := top 66
theorem sc_law_cases_72b18 : FnScope ["sizes", "rows", "size", "longer", "row", "part"] ["sizes"] (defScope s_law_cases_72b18) := ⟨rfl, rfl, rfl, by decide +kernel, rfl, by decide +kernel, by decide +kernel⟩
theorem f_law_cases_72b18 {P : Program} {w : World} {K : PySem.W.Frag} {mg : Str → Option Value} {base : Heap} {f : Addr} {fd : FuncData} {k : Nat} (F : Fun K "_law_cases" "_law_cases" s_law_cases_72b18 f fd) (hb : Binds K fd ["sizes"] []) (hm : mg "_law_cases" = some (.ref f))
    (y_range : mg "range" = none) : FnOk P w K mg base CX0 (k + 1) f fd ["sizes"] (spD K g_law_cases_72b18) := fn_d F sc_law_cases_72b18 fun cdv A outer s H E hr =>
  (dss_cons (ds_set (i := 1) sc_law_cases_72b18.nd rfl (by first | exact Or.inl rfl | exact Or.inr rfl) (xe_fr (xf_lst (xa_cons (xe_fr (xf_lst xa_nil)) xa_nil))))
  (dss_cons (ds_for PassesOwn.never rfl (xi_seq (de_v 0)) (dg_name 2 sc_law_cases_72b18.nd rfl (by first | exact Or.inl rfl | exact Or.inr rfl))
    (dss_cons (ds_own (i := 3) sc_law_cases_72b18.nd rfl (by first | exact Or.inl rfl | exact Or.inr rfl) (xf_lst xa_nil))
  (dss_cons (ds_for PassesOwn.never rfl (xi_seq (de_v 1)) (dg_name 4 sc_law_cases_72b18.nd rfl (by first | exact Or.inl rfl | exact Or.inr rfl))
    (dss_one (ds_for PassesOwn.never rfl (xi_range1 (by rfl) y_range (xa_cons (de_v 2) xa_nil)) (dg_name 5 sc_law_cases_72b18.nd rfl (by first | exact Or.inl rfl | exact Or.inr rfl))
    (dss_one (ds_app 3 (te := _) (fun _ _ _ _ h => h) (ps_expr (pe_bm PySem.F.plainAttrs_list PySem.F.slot_list_append PySem.F.type_list_append mt_append (pv 3) (pa_cons ((show DE _ _ _ _ _ from (xe_op opd_add (de_v 4) (xe_fr (xf_lst (xa_cons (de_v 5) xa_nil))))).pe rfl) pa_nil))))))))
  (dss_one (ds_frz 3 (ds_set (i := 1) sc_law_cases_72b18.nd rfl (by first | exact Or.inl rfl | exact Or.inr rfl) (de_v 3)))))))
  (dss_one (ds_ret (de_v 1)))))
theorem t_law_cases_72b18 {P : Program} {w : World} {K : PySem.W.Frag} {mg : Str → Option Value} {base : Heap} {f : Addr} {fd : FuncData} {k : Nat} (F : Fun K "_law_cases" "_law_cases" s_law_cases_72b18 f fd) (hb : Binds K fd ["sizes"] []) (hm : mg "_law_cases" = some (.ref f))
    (y_range : mg "range" = none) : Has P w K mg base (k + 1) "_law_cases" ["sizes"] (spD K g_law_cases_72b18) := ⟨f, fd, f_law_cases_72b18 F hb hm y_range, hb, hm, F.kp⟩
abbrev s_law_values_1b941 : Stmt := top 67
theorem sc_law_values_1b941 : FnScope ["cell", "k", "size", "part"] ["cell", "k", "size"] (defScope s_law_values_1b941) := ⟨rfl, rfl, rfl, by decide +kernel, rfl, by decide +kernel, by decide +kernel⟩
theorem f_law_values_1b941 {P : Program} {w : World} {K : PySem.W.Frag} {mg : Str → Option Value} {base : Heap} {f : Addr} {fd : FuncData} {k : Nat} (F : Fun K "_law_values" "_law_values" s_law_values_1b941 f fd) (hb : Binds K fd ["cell", "k", "size"] []) (hm : mg "_law_values" = some (.ref f))
    (y_range : mg "range" = none)
    (y_tuple : mg "tuple" = none)
    (G_law_draw_48e0b : Has P w K mg base k "_law_draw" ["cell", "k", "limit"] (spD K g_law_draw_48e0b)) : FnOk P w K mg base CX0 (k + 1) f fd ["cell", "k", "size"] (spD K g_law_values_1b941) := fn_d F sc_law_values_1b941 fun cdv A outer s H E hr =>
  (dss_one (ds_ret (xcT cd_tuple (by rfl) y_tuple (by decide +kernel) (xa_cons (xe_fr (df_lc (own := [("part", 3)]) rfl sc_law_values_1b941.nd (xi_range1 (by rfl) y_range (xa_cons (de_v 2) xa_nil)) (blkOk_by (by kernel_rfl)) (fun _ _ _ _ _ => (dg_name 3 sc_law_values_1b941.nd rfl (by first | exact Or.inl rfl | exact Or.inr rfl))) (fun _ _ _ _ _ => (dts_one (xt_cmp (opd_eq hr) (xc G_law_draw_48e0b hr (by rfl) (xa_cons (de_v 0) (xa_cons (xe_op opd_add (de_v 1) (de_v 3)) (xa_cons de_int xa_nil)))) de_int (nomark _)))) (fun _ _ _ _ _ => (de_v 3)))) xa_nil))))
theorem t_law_values_1b941 {P : Program} {w : World} {K : PySem.W.Frag} {mg : Str → Option Value} {base : Heap} {f : Addr} {fd : FuncData} {k : Nat} (F : Fun K "_law_values" "_law_values" s_law_values_1b941 f fd) (hb : Binds K fd ["cell", "k", "size"] []) (hm : mg "_law_values" = some (.ref f))
    (y_range : mg "range" = none)
    (y_tuple : mg "tuple" = none)
    (G_law_draw_48e0b : Has P w K mg base k "_law_draw" ["cell", "k", "limit"] (spD K g_law_draw_48e0b)) : Has P w K mg base (k + 1) "_law_values" ["cell", "k", "size"] (spD K g_law_values_1b941) := ⟨f, fd, f_law_values_1b941 F hb hm y_range y_tuple G_law_draw_48e0b, hb, hm, F.kp⟩
abbrev s_law_conditions_05f1f : Stmt := top 68
theorem sc_law_conditions_05f1f : FnScope ["sizes", "cell", "single", "found", "field", "values"] ["sizes", "cell"] (defScope s_law_conditions_05f1f) := ⟨rfl, rfl, rfl, by decide +kernel, rfl, by decide +kernel, by decide +kernel⟩
theorem f_law_conditions_05f1f {P : Program} {w : World} {K : PySem.W.Frag} {mg : Str → Option Value} {base : Heap} {f : Addr} {fd : FuncData} {k : Nat} (F : Fun K "_law_conditions" "_law_conditions" s_law_conditions_05f1f f fd) (hb : Binds K fd ["sizes", "cell"] []) (hm : mg "_law_conditions" = some (.ref f))
    (y_len : mg "len" = none)
    (y_range : mg "range" = none)
    (y_tuple : mg "tuple" = none)
    (G_law_draw_48e0b : Has P w K mg base k "_law_draw" ["cell", "k", "limit"] (spD K g_law_draw_48e0b))
    (G_law_values_1b941 : Has P w K mg base k "_law_values" ["cell", "k", "size"] (spD K g_law_values_1b941)) : FnOk P w K mg base CX0 (k + 1) f fd ["sizes", "cell"] (spD K g_law_conditions_05f1f) := fn_d F sc_law_conditions_05f1f fun cdv A outer s H E hr =>
  (dss_cons (ds_set (i := 2) sc_law_conditions_05f1f.nd rfl (by first | exact Or.inl rfl | exact Or.inr rfl) (xe_cmp (opd_eq hr) (xc G_law_draw_48e0b hr (by rfl) (xa_cons (de_v 1) (xa_cons de_int (xa_cons de_int xa_nil)))) de_int (nomark _)))
  (dss_cons (ds_own (i := 3) sc_law_conditions_05f1f.nd rfl (by first | exact Or.inl rfl | exact Or.inr rfl) (xf_lst xa_nil))
  (dss_cons (ds_for PassesOwn.never rfl (xi_range1 (by rfl) y_range (xa_cons (xcB cd_len (by rfl) y_len (by decide +kernel) (xa_cons (de_v 0) xa_nil)) xa_nil)) (dg_name 4 sc_law_conditions_05f1f.nd rfl (by first | exact Or.inl rfl | exact Or.inr rfl))
    (dss_one (ds_if (DW.pt (dw_and (xt_cmp opd_lt (de_lenO 3 (by rfl) y_len) de_int (nomark _)) (dw_and1 (xt_cmp (opd_eq hr) (xc G_law_draw_48e0b hr (by rfl) (xa_cons (de_v 1) (xa_cons (xe_op opd_add (xe_op opd_mul de_int (de_v 4)) de_int) (xa_cons de_int xa_nil)))) de_int (nomark _)))))
    (dss_cons (ds_set (i := 5) sc_law_conditions_05f1f.nd rfl (by first | exact Or.inl rfl | exact Or.inr rfl) (xc G_law_values_1b941 hr (by rfl) (xa_cons (de_v 1) (xa_cons (xe_op opd_add (xe_op opd_mul de_int (de_v 4)) de_int) (xa_cons (xe_ix (de_v 0) (de_v 4) (fun _ _ => rfl)) xa_nil)))))
  (dss_cons (ds_if (xt_tru (de_v 2))
    (dss_one (ds_set (i := 5) sc_law_conditions_05f1f.nd rfl (by first | exact Or.inl rfl | exact Or.inr rfl) (xe_tup (xa_cons (xc G_law_draw_48e0b hr (by rfl) (xa_cons (de_v 1) (xa_cons (xe_op opd_add (xe_op opd_mul de_int (de_v 4)) de_int) (xa_cons (xe_ix (de_v 0) (de_v 4) (fun _ _ => rfl)) xa_nil)))) xa_nil))))
    dss_nil)
  (dss_one (ds_app 3 (te := _) (fun _ _ _ _ h => h) (ps_expr (pe_bm PySem.F.plainAttrs_list PySem.F.slot_list_append PySem.F.type_list_append mt_append (pv 3) (pa_cons ((show DE _ _ _ _ _ from (xe_tup (xa_cons (de_v 4) (xa_cons (de_v 5) xa_nil)))).pe rfl) pa_nil)))))))
    dss_nil)))
  (dss_one (ds_frz 3 (ds_ret (xcT cd_tuple (by rfl) y_tuple (by decide +kernel) (xa_cons (de_v 3) xa_nil))))))))
theorem t_law_conditions_05f1f {P : Program} {w : World} {K : PySem.W.Frag} {mg : Str → Option Value} {base : Heap} {f : Addr} {fd : FuncData} {k : Nat} (F : Fun K "_law_conditions" "_law_conditions" s_law_conditions_05f1f f fd) (hb : Binds K fd ["sizes", "cell"] []) (hm : mg "_law_conditions" = some (.ref f))
    (y_len : mg "len" = none)
    (y_range : mg "range" = none)
    (y_tuple : mg "tuple" = none)
    (G_law_draw_48e0b : Has P w K mg base k "_law_draw" ["cell", "k", "limit"] (spD K g_law_draw_48e0b))
    (G_law_values_1b941 : Has P w K mg base k "_law_values" ["cell", "k", "size"] (spD K g_law_values_1b941)) : Has P w K mg base (k + 1) "_law_conditions" ["sizes", "cell"] (spD K g_law_conditions_05f1f) := ⟨f, fd, f_law_conditions_05f1f F hb hm y_len y_range y_tuple G_law_draw_48e0b G_law_values_1b941, hb, hm, F.kp⟩
abbrev s_law_card_4ab7e : Stmt := top 69
theorem sc_law_card_4ab7e : FnScope ["sizes", "cell", "spread", "weights", "total", "field", "row", "part"] ["sizes", "cell"] (defScope s_law_card_4ab7e) := ⟨rfl, rfl, rfl, by decide +kernel, rfl, by decide +kernel, by decide +kernel⟩
theorem f_law_card_4ab7e {P : Program} {w : World} {K : PySem.W.Frag} {mg : Str → Option Value} {base : Heap} {f : Addr} {fd : FuncData} {k : Nat} (F : Fun K "_law_card" "_law_card" s_law_card_4ab7e f fd) (hb : Binds K fd ["sizes", "cell"] []) (hm : mg "_law_card" = some (.ref f))
    (y_len : mg "len" = none)
    (y_range : mg "range" = none)
    (y_tuple : mg "tuple" = none)
    (G_law_draw_48e0b : Has P w K mg base k "_law_draw" ["cell", "k", "limit"] (spD K g_law_draw_48e0b)) : FnOk P w K mg base CX0 (k + 1) f fd ["sizes", "cell"] (spD K g_law_card_4ab7e) := fn_d F sc_law_card_4ab7e fun cdv A outer s H E hr =>
  (dss_cons (ds_set (i := 2) sc_law_card_4ab7e.nd rfl (by first | exact Or.inl rfl | exact Or.inr rfl) (xe_ix (xe_tup (xa_cons de_int (xa_cons de_int (xa_cons de_int xa_nil)))) (xc G_law_draw_48e0b hr (by rfl) (xa_cons (de_v 1) (xa_cons de_int (xa_cons de_int xa_nil)))) (fun _ _ => rfl)))
  (dss_cons (ds_own (i := 3) sc_law_card_4ab7e.nd rfl (by first | exact Or.inl rfl | exact Or.inr rfl) (xf_lst xa_nil))
  (dss_cons (ds_set (i := 4) sc_law_card_4ab7e.nd rfl (by first | exact Or.inl rfl | exact Or.inr rfl) (xe_op opd_sub (xc G_law_draw_48e0b hr (by rfl) (xa_cons (de_v 1) (xa_cons de_int (xa_cons de_int xa_nil)))) de_int))
  (dss_cons (ds_for PassesOwn.never rfl (xi_range1 (by rfl) y_range (xa_cons (xcB cd_len (by rfl) y_len (by decide +kernel) (xa_cons (de_v 0) xa_nil)) xa_nil)) (dg_name 5 sc_law_card_4ab7e.nd rfl (by first | exact Or.inl rfl | exact Or.inr rfl))
    (dss_cons (ds_setLc (i := 6) (own := [("part", 7)]) rfl sc_law_card_4ab7e.nd rfl rfl (sw_true rfl rfl rfl (by decide +kernel)) (xi_range1 (by rfl) y_range (xa_cons (xe_ix (de_v 0) (de_v 5) (fun _ _ => rfl)) xa_nil)) (blkOk_by (by kernel_rfl)) (fun _ _ _ _ _ => (dg_name 7 sc_law_card_4ab7e.nd rfl (by first | exact Or.inl rfl | exact Or.inr rfl))) (fun _ _ _ _ _ => dts_nil) (fun _ _ _ _ _ => (xe_op opd_sub (xc G_law_draw_48e0b hr (by rfl) (xa_cons (de_v 1) (xa_cons (xe_op opd_add (xe_op opd_add (xe_op opd_mul de_int (de_v 5)) (de_v 7)) de_int) (xa_cons (de_v 2) xa_nil)))) (xe_op opd_div (de_v 2) de_int))))
  (dss_cons (ds_app 3 (te := _) (fun _ _ _ _ h => h) (ps_expr (pe_bm PySem.F.plainAttrs_list PySem.F.slot_list_append PySem.F.type_list_append mt_append (pv 3) (pa_cons ((show DE _ _ _ _ _ from (xcT cd_tuple (by rfl) y_tuple (by decide +kernel) (xa_cons (de_v 6) xa_nil))).pe rfl) pa_nil))))
  (dss_one (ds_set (i := 4) sc_law_card_4ab7e.nd rfl (by first | exact Or.inl rfl | exact Or.inr rfl) (xe_op opd_add (de_v 4) (xe_ix (de_v 6) (xc G_law_draw_48e0b hr (by rfl) (xa_cons (de_v 1) (xa_cons (xe_op opd_add de_int (de_v 5)) (xa_cons (xe_ix (de_v 0) (de_v 5) (fun _ _ => rfl)) xa_nil)))) (fun _ _ => rfl))))))))
  (dss_one (ds_frz 3 (ds_ret (xe_tup (xa_cons de_str (xa_cons (xcT cd_tuple (by rfl) y_tuple (by decide +kernel) (xa_cons (de_v 3) xa_nil)) (xa_cons (de_v 4) xa_nil)))))))))))
theorem t_law_card_4ab7e {P : Program} {w : World} {K : PySem.W.Frag} {mg : Str → Option Value} {base : Heap} {f : Addr} {fd : FuncData} {k : Nat} (F : Fun K "_law_card" "_law_card" s_law_card_4ab7e f fd) (hb : Binds K fd ["sizes", "cell"] []) (hm : mg "_law_card" = some (.ref f))
    (y_len : mg "len" = none)
    (y_range : mg "range" = none)
    (y_tuple : mg "tuple" = none)
    (G_law_draw_48e0b : Has P w K mg base k "_law_draw" ["cell", "k", "limit"] (spD K g_law_draw_48e0b)) : Has P w K mg base (k + 1) "_law_card" ["sizes", "cell"] (spD K g_law_card_4ab7e) := ⟨f, fd, f_law_card_4ab7e F hb hm y_len y_range y_tuple G_law_draw_48e0b, hb, hm, F.kp⟩
abbrev s_law_leaf_52ac9 : Stmt := top 70
theorem sc_law_leaf_52ac9 : FnScope ["sizes", "cell", "word", "many", "size", "field", "part", "at"] ["sizes", "cell"] (defScope s_law_leaf_52ac9) := ⟨rfl, rfl, rfl, by decide +kernel, rfl, by decide +kernel, by decide +kernel⟩
theorem f_law_leaf_52ac9 {P : Program} {w : World} {K : PySem.W.Frag} {mg : Str → Option Value} {base : Heap} {f : Addr} {fd : FuncData} {k : Nat} (F : Fun K "_law_leaf" "_law_leaf" s_law_leaf_52ac9 f fd) (hb : Binds K fd ["sizes", "cell"] []) (hm : mg "_law_leaf" = some (.ref f))
    (y_int : mg "int" = none)
    (y_len : mg "len" = none)
    (y_range : mg "range" = none)
    (y_tuple : mg "tuple" = none)
    (G_law_draw_48e0b : Has P w K mg base k "_law_draw" ["cell", "k", "limit"] (spD K g_law_draw_48e0b))
    (G_law_values_1b941 : Has P w K mg base k "_law_values" ["cell", "k", "size"] (spD K g_law_values_1b941))
    (G_law_conditions_05f1f : Has P w K mg base k "_law_conditions" ["sizes", "cell"] (spD K g_law_conditions_05f1f))
    (G_law_card_4ab7e : Has P w K mg base k "_law_card" ["sizes", "cell"] (spD K g_law_card_4ab7e)) : FnOk P w K mg base CX0 (k + 1) f fd ["sizes", "cell"] (spD K g_law_leaf_52ac9) := fn_d F sc_law_leaf_52ac9 fun cdv A outer s H E hr =>
  (dss_cons (ds_set (i := 2) sc_law_leaf_52ac9.nd rfl (by first | exact Or.inl rfl | exact Or.inr rfl) (xc G_law_draw_48e0b hr (by rfl) (xa_cons (de_v 1) (xa_cons de_int (xa_cons de_int xa_nil)))))
  (dss_cons (ds_set (i := 3) sc_law_leaf_52ac9.nd rfl (by first | exact Or.inl rfl | exact Or.inr rfl) de_int)
  (dss_cons (ds_for PassesOwn.never rfl (xi_seq (de_v 0)) (dg_name 4 sc_law_leaf_52ac9.nd rfl (by first | exact Or.inl rfl | exact Or.inr rfl))
    (dss_one (ds_set (i := 3) sc_law_leaf_52ac9.nd rfl (by first | exact Or.inl rfl | exact Or.inr rfl) (xe_op opd_mul (de_v 3) (de_v 4)))))
  (dss_cons (ds_if (DW.pt (dw_or (xt_cmp (opd_eq hr) (de_v 2) de_int (nomark _)) (dw_or1 (DW.pt (dw_and (xt_cmp (opd_eq hr) (de_v 2) de_int (nomark _)) (dw_and1 (xt_cmp opd_gt (de_v 3) de_int (nomark _))))))))
    (dss_one (ds_ret (xc G_law_card_4ab7e hr (by rfl) (xa_cons (de_v 0) (xa_cons (de_v 1) xa_nil)))))
    dss_nil)
  (dss_cons (ds_if (xt_cmp (opd_eq hr) (de_v 2) de_int (nomark _))
    (dss_one (ds_ret (xe_tup (xa_cons de_str (xa_cons (xcT cd_tuple (by rfl) y_tuple (by decide +kernel) (xa_cons (xe_fr (df_lc (own := [("at", 7)]) rfl sc_law_leaf_52ac9.nd (xi_range1 (by rfl) y_range (xa_cons (de_v 3) xa_nil)) (blkOk_by (by kernel_rfl)) (fun _ _ _ _ _ => (dg_name 7 sc_law_leaf_52ac9.nd rfl (by first | exact Or.inl rfl | exact Or.inr rfl))) (fun _ _ _ _ _ => dts_nil) (fun _ _ _ _ _ => (xe_cmp (opd_eq hr) (xc G_law_draw_48e0b hr (by rfl) (xa_cons (de_v 1) (xa_cons (xe_op opd_add (xe_op opd_mod (xcT cd_int (by rfl) y_int (by decide +kernel) (xa_cons (de_v 7) xa_nil)) de_int) de_int) (xa_cons de_int xa_nil)))) de_int (nomark _))))) xa_nil)) xa_nil)))))
    dss_nil)
  (dss_cons (ds_if (xt_cmp (opd_eq hr) (de_v 2) de_int (nomark _))
    (dss_one (ds_ret (xe_tup (xa_cons de_str (xa_cons (xe_tup (xa_cons (xe_tup (xa_cons (xc G_law_conditions_05f1f hr (by rfl) (xa_cons (de_v 0) (xa_cons (de_v 1) xa_nil))) (xa_cons (xe_cmp (opd_eq hr) (xc G_law_draw_48e0b hr (by rfl) (xa_cons (de_v 1) (xa_cons de_int (xa_cons de_int xa_nil)))) de_int (nomark _)) xa_nil))) xa_nil)) (xa_cons (xe_cmp (opd_eq hr) (xc G_law_draw_48e0b hr (by rfl) (xa_cons (de_v 1) (xa_cons de_int (xa_cons de_int xa_nil)))) de_int (nomark _)) xa_nil))))))
    dss_nil)
  (dss_cons (ds_if (DW.pt (dw_or (xt_cmp (opd_eq hr) (de_v 2) de_int (nomark _)) (dw_or1 (xt_cmp (opd_eq hr) (de_v 0) (xe_fr (xf_lst xa_nil)) (nomark _)))))
    (dss_one (ds_ret (xe_tup (xa_cons de_str (xa_cons (xe_cmp (opd_eq hr) (xc G_law_draw_48e0b hr (by rfl) (xa_cons (de_v 1) (xa_cons de_int (xa_cons de_int xa_nil)))) de_int (nomark _)) xa_nil)))))
    dss_nil)
  (dss_cons (ds_set (i := 5) sc_law_leaf_52ac9.nd rfl (by first | exact Or.inl rfl | exact Or.inr rfl) (xc G_law_draw_48e0b hr (by rfl) (xa_cons (de_v 1) (xa_cons de_int (xa_cons (xcB cd_len (by rfl) y_len (by decide +kernel) (xa_cons (de_v 0) xa_nil)) xa_nil)))))
  (dss_cons (ds_if (xt_cmp (opd_eq hr) (de_v 2) de_int (nomark _))
    (dss_one (ds_ret (xe_tup (xa_cons de_str (xa_cons (de_v 5) (xa_cons (xc G_law_values_1b941 hr (by rfl) (xa_cons (de_v 1) (xa_cons de_int (xa_cons (xe_ix (de_v 0) (de_v 5) (fun _ _ => rfl)) xa_nil)))) xa_nil))))))
    dss_nil)
  (dss_one (ds_ret (xe_tup (xa_cons de_str (xa_cons (de_v 5) (xa_cons (xcT cd_tuple (by rfl) y_tuple (by decide +kernel) (xa_cons (xe_fr (df_lc (own := [("part", 6)]) rfl sc_law_leaf_52ac9.nd (xi_range1 (by rfl) y_range (xa_cons (xe_ix (de_v 0) (de_v 5) (fun _ _ => rfl)) xa_nil)) (blkOk_by (by kernel_rfl)) (fun _ _ _ _ _ => (dg_name 6 sc_law_leaf_52ac9.nd rfl (by first | exact Or.inl rfl | exact Or.inr rfl))) (fun _ _ _ _ _ => dts_nil) (fun _ _ _ _ _ => (xe_tup (xa_cons de_str (xa_cons (xe_cmp (opd_eq hr) (xc G_law_draw_48e0b hr (by rfl) (xa_cons (de_v 1) (xa_cons (xe_op opd_add de_int (de_v 6)) (xa_cons de_int xa_nil)))) de_int (nomark _)) xa_nil)))))) xa_nil)) xa_nil)))))))))))))))
theorem t_law_leaf_52ac9 {P : Program} {w : World} {K : PySem.W.Frag} {mg : Str → Option Value} {base : Heap} {f : Addr} {fd : FuncData} {k : Nat} (F : Fun K "_law_leaf" "_law_leaf" s_law_leaf_52ac9 f fd) (hb : Binds K fd ["sizes", "cell"] []) (hm : mg "_law_leaf" = some (.ref f))
    (y_int : mg "int" = none)
    (y_len : mg "len" = none)
    (y_range : mg "range" = none)
    (y_tuple : mg "tuple" = none)
    (G_law_draw_48e0b : Has P w K mg base k "_law_draw" ["cell", "k", "limit"] (spD K g_law_draw_48e0b))
    (G_law_values_1b941 : Has P w K mg base k "_law_values" ["cell", "k", "size"] (spD K g_law_values_1b941))
    (G_law_conditions_05f1f : Has P w K mg base k "_law_conditions" ["sizes", "cell"] (spD K g_law_conditions_05f1f))
    (G_law_card_4ab7e : Has P w K mg base k "_law_card" ["sizes", "cell"] (spD K g_law_card_4ab7e)) : Has P w K mg base (k + 1) "_law_leaf" ["sizes", "cell"] (spD K g_law_leaf_52ac9) := ⟨f, fd, f_law_leaf_52ac9 F hb hm y_int y_len y_range y_tuple G_law_draw_48e0b G_law_values_1b941 G_law_conditions_05f1f G_law_card_4ab7e, hb, hm, F.kp⟩
abbrev s_law_part_518aa : Stmt := top 71
theorem sc_law_part_518aa : FnScope ["sizes", "cell", "leaf"] ["sizes", "cell"] (defScope s_law_part_518aa) := ⟨rfl, rfl, rfl, by decide +kernel, rfl, by decide +kernel, by decide +kernel⟩
theorem f_law_part_518aa {P : Program} {w : World} {K : PySem.W.Frag} {mg : Str → Option Value} {base : Heap} {f : Addr} {fd : FuncData} {k : Nat} (F : Fun K "_law_part" "_law_part" s_law_part_518aa f fd) (hb : Binds K fd ["sizes", "cell"] []) (hm : mg "_law_part" = some (.ref f))
    (G_law_draw_48e0b : Has P w K mg base k "_law_draw" ["cell", "k", "limit"] (spD K g_law_draw_48e0b))
    (G_law_leaf_52ac9 : Has P w K mg base k "_law_leaf" ["sizes", "cell"] (spD K g_law_leaf_52ac9)) : FnOk P w K mg base CX0 (k + 1) f fd ["sizes", "cell"] (spD K g_law_part_518aa) := fn_d F sc_law_part_518aa fun cdv A outer s H E hr =>
  (dss_cons (ds_set (i := 2) sc_law_part_518aa.nd rfl (by first | exact Or.inl rfl | exact Or.inr rfl) (xc G_law_leaf_52ac9 hr (by rfl) (xa_cons (de_v 0) (xa_cons (de_v 1) xa_nil))))
  (dss_cons (ds_if (xt_cmp (opd_eq hr) (xc G_law_draw_48e0b hr (by rfl) (xa_cons (de_v 1) (xa_cons de_int (xa_cons de_int xa_nil)))) de_int (nomark _))
    (dss_one (ds_ret (xe_tup (xa_cons de_str (xa_cons (de_v 2) xa_nil)))))
    dss_nil)
  (dss_one (ds_ret (de_v 2)))))
theorem t_law_part_518aa {P : Program} {w : World} {K : PySem.W.Frag} {mg : Str → Option Value} {base : Heap} {f : Addr} {fd : FuncData} {k : Nat} (F : Fun K "_law_part" "_law_part" s_law_part_518aa f fd) (hb : Binds K fd ["sizes", "cell"] []) (hm : mg "_law_part" = some (.ref f))
    (G_law_draw_48e0b : Has P w K mg base k "_law_draw" ["cell", "k", "limit"] (spD K g_law_draw_48e0b))
    (G_law_leaf_52ac9 : Has P w K mg base k "_law_leaf" ["sizes", "cell"] (spD K g_law_leaf_52ac9)) : Has P w K mg base (k + 1) "_law_part" ["sizes", "cell"] (spD K g_law_part_518aa) := ⟨f, fd, f_law_part_518aa F hb hm G_law_draw_48e0b G_law_leaf_52ac9, hb, hm, F.kp⟩
abbrev s_law_form_06328 : Stmt := top 72
theorem sc_law_form_06328 : FnScope ["sizes", "cells", "cell", "word", "rest", "listed", "field", "one", "k"] ["sizes", "cells"] (defScope s_law_form_06328) := ⟨rfl, rfl, rfl, by decide +kernel, rfl, by decide +kernel, by decide +kernel⟩
theorem f_law_form_06328 {P : Program} {w : World} {K : PySem.W.Frag} {mg : Str → Option Value} {base : Heap} {f : Addr} {fd : FuncData} {k : Nat} (F : Fun K "_law_form" "_law_form" s_law_form_06328 f fd) (hb : Binds K fd ["sizes", "cells"] []) (hm : mg "_law_form" = some (.ref f))
    (y_int : mg "int" = none)
    (y_len : mg "len" = none)
    (y_range : mg "range" = none)
    (y_tuple : mg "tuple" = none)
    (G_law_draw_48e0b : Has P w K mg base k "_law_draw" ["cell", "k", "limit"] (spD K g_law_draw_48e0b))
    (G_law_conditions_05f1f : Has P w K mg base k "_law_conditions" ["sizes", "cell"] (spD K g_law_conditions_05f1f))
    (G_law_leaf_52ac9 : Has P w K mg base k "_law_leaf" ["sizes", "cell"] (spD K g_law_leaf_52ac9))
    (G_law_part_518aa : Has P w K mg base k "_law_part" ["sizes", "cell"] (spD K g_law_part_518aa)) : FnOk P w K mg base CX0 (k + 1) f fd ["sizes", "cells"] (spD K g_law_form_06328) := fn_d F sc_law_form_06328 fun cdv A outer s H E hr =>
  (dss_cons (ds_set (i := 2) sc_law_form_06328.nd rfl (by first | exact Or.inl rfl | exact Or.inr rfl) (xe_ix (xe_op opd_add (de_v 1) (xe_fr (xf_lst (xa_cons de_int xa_nil)))) de_int (fun _ _ => rfl)))
  (dss_cons (ds_set (i := 3) sc_law_form_06328.nd rfl (by first | exact Or.inl rfl | exact Or.inr rfl) (xc G_law_draw_48e0b hr (by rfl) (xa_cons (de_v 2) (xa_cons de_int (xa_cons de_int xa_nil)))))
  (dss_cons (ds_set (i := 4) sc_law_form_06328.nd rfl (by first | exact Or.inl rfl | exact Or.inr rfl) (xe_fr (xf_slice (de_v 1) (xo_some de_int) (xo_some de_int))))
  (dss_cons (ds_if (xt_cmp (opd_eq hr) (de_v 3) de_int (nomark _))
    (dss_cons (ds_setLc (i := 5) (own := [("one", 7)]) rfl sc_law_form_06328.nd rfl rfl (sw_true rfl rfl rfl (by decide +kernel)) (xi_seq (xe_fr (xf_slice (de_v 1) (xo_some de_int) (xo_some de_int)))) (blkOk_by (by kernel_rfl)) (fun _ _ _ _ _ => (dg_name 7 sc_law_form_06328.nd rfl (by first | exact Or.inl rfl | exact Or.inr rfl))) (fun _ _ _ _ _ => dts_nil) (fun _ _ _ _ _ => (xe_tup (xa_cons (xc G_law_conditions_05f1f hr (by rfl) (xa_cons (de_v 0) (xa_cons (de_v 7) xa_nil))) (xa_cons (xe_cmp (opd_eq hr) (xc G_law_draw_48e0b hr (by rfl) (xa_cons (de_v 7) (xa_cons de_int (xa_cons de_int xa_nil)))) de_int (nomark _)) xa_nil)))))
  (dss_one (ds_ret (xe_tup (xa_cons de_str (xa_cons (xcT cd_tuple (by rfl) y_tuple (by decide +kernel) (xa_cons (de_v 5) xa_nil)) (xa_cons (xe_cmp (opd_eq hr) (xc G_law_draw_48e0b hr (by rfl) (xa_cons (de_v 2) (xa_cons de_int (xa_cons de_int xa_nil)))) de_int (nomark _)) xa_nil)))))))
    dss_nil)
  (dss_cons (ds_if (xt_cmp opd_lt (de_v 3) de_int (nomark _))
    (dss_one (ds_ret (xe_tup (xa_cons (xe_ix (xe_fr (xf_lst (xa_cons de_str (xa_cons de_str (xa_cons de_str xa_nil))))) (xe_op opd_sub (de_v 3) de_int) (fun _ _ => rfl)) (xa_cons (xcT cd_tuple (by rfl) y_tuple (by decide +kernel) (xa_cons (xe_fr (df_lc (own := [("one", 7)]) rfl sc_law_form_06328.nd (xi_seq (de_v 4)) (blkOk_by (by kernel_rfl)) (fun _ _ _ _ _ => (dg_name 7 sc_law_form_06328.nd rfl (by first | exact Or.inl rfl | exact Or.inr rfl))) (fun _ _ _ _ _ => dts_nil) (fun _ _ _ _ _ => (xc G_law_part_518aa hr (by rfl) (xa_cons (de_v 0) (xa_cons (de_v 7) xa_nil)))))) xa_nil)) xa_nil)))))
    dss_nil)
  (dss_cons (ds_if (DW.pt (dw_and (xt_cmp (opd_eq hr) (de_v 3) de_int (nomark _)) (dw_and (xt_cmp (opd_ne hr) (de_v 0) (xe_fr (xf_lst xa_nil)) (nomark _)) (dw_and1 (xt_cmp (opd_ne hr) (de_v 4) (xe_fr (xf_lst xa_nil)) (nomark _))))))
    (dss_cons (ds_set (i := 6) sc_law_form_06328.nd rfl (by first | exact Or.inl rfl | exact Or.inr rfl) (xc G_law_draw_48e0b hr (by rfl) (xa_cons (de_v 2) (xa_cons de_int (xa_cons (xcB cd_len (by rfl) y_len (by decide +kernel) (xa_cons (de_v 0) xa_nil)) xa_nil)))))
  (dss_one (ds_ret (xe_tup (xa_cons de_str (xa_cons (de_v 6) (xa_cons (xcT cd_tuple (by rfl) y_tuple (by decide +kernel) (xa_cons (xe_fr (df_lc (own := [("k", 8)]) rfl sc_law_form_06328.nd (xi_range1 (by rfl) y_range (xa_cons (xe_ix (de_v 0) (de_v 6) (fun _ _ => rfl)) xa_nil)) (blkOk_by (by kernel_rfl)) (fun _ _ _ _ _ => (dg_name 8 sc_law_form_06328.nd rfl (by first | exact Or.inl rfl | exact Or.inr rfl))) (fun _ _ _ _ _ => dts_nil) (fun _ _ _ _ _ => (xc G_law_part_518aa hr (by rfl) (xa_cons (de_v 0) (xa_cons (xe_ix (de_v 4) (xe_op opd_mod (xcT cd_int (by rfl) y_int (by decide +kernel) (xa_cons (de_v 8) xa_nil)) (xcB cd_len (by rfl) y_len (by decide +kernel) (xa_cons (de_v 4) xa_nil))) (fun _ _ => rfl)) xa_nil)))))) xa_nil)) xa_nil)))))))
    dss_nil)
  (dss_one (ds_ret (xc G_law_leaf_52ac9 hr (by rfl) (xa_cons (de_v 0) (xa_cons (de_v 2) xa_nil)))))))))))
theorem t_law_form_06328 {P : Program} {w : World} {K : PySem.W.Frag} {mg : Str → Option Value} {base : Heap} {f : Addr} {fd : FuncData} {k : Nat} (F : Fun K "_law_form" "_law_form" s_law_form_06328 f fd) (hb : Binds K fd ["sizes", "cells"] []) (hm : mg "_law_form" = some (.ref f))
    (y_int : mg "int" = none)
    (y_len : mg "len" = none)
    (y_range : mg "range" = none)
    (y_tuple : mg "tuple" = none)
    (G_law_draw_48e0b : Has P w K mg base k "_law_draw" ["cell", "k", "limit"] (spD K g_law_draw_48e0b))
    (G_law_conditions_05f1f : Has P w K mg base k "_law_conditions" ["sizes", "cell"] (spD K g_law_conditions_05f1f))
    (G_law_leaf_52ac9 : Has P w K mg base k "_law_leaf" ["sizes", "cell"] (spD K g_law_leaf_52ac9))
    (G_law_part_518aa : Has P w K mg base k "_law_part" ["sizes", "cell"] (spD K g_law_part_518aa)) : Has P w K mg base (k + 1) "_law_form" ["sizes", "cells"] (spD K g_law_form_06328) := ⟨f, fd, f_law_form_06328 F hb hm y_int y_len y_range y_tuple G_law_draw_48e0b G_law_conditions_05f1f G_law_leaf_52ac9 G_law_part_518aa, hb, hm, F.kp⟩
abbrev s_law_said_e4d74 : Stmt := top 73
theorem sc_law_said_e4d74 : FnScope ["sizes", "form", "case", "word", "first", "field", "hits", "at", "many", "rule", "part", "values"] ["sizes", "form", "case"] (defScope s_law_said_e4d74) := ⟨rfl, rfl, rfl, by decide +kernel, rfl, by decide +kernel, by decide +kernel⟩
theorem t_law_said_e4d74 {P : Program} {w : World} {K : PySem.W.Frag} {mg : Str → Option Value} {base : Heap} {f : Addr} {fd : FuncData} {k : Nat} (F : Fun K "_law_said" "_law_said" s_law_said_e4d74 f fd) (hb : Binds K fd ["sizes", "form", "case"] []) (hm : mg "_law_said" = some (.ref f))
    (y_all : mg "all" = none)
    (y_int : mg "int" = none)
    (y_len : mg "len" = none)
    (y_range : mg "range" = none)
    (y_sum : mg "sum" = none) : ∀ n, Has P w K mg base (k + n) "_law_said" ["sizes", "form", "case"] (spD K (g_law_said_e4d74 n))
  | 0 => has_none F hb hm
  | n + 1 => by
    have G_self : Has P w K mg base (k + n) "_law_said" ["sizes", "form", "case"] (spD K (g_law_said_e4d74 n)) := t_law_said_e4d74 (k := k) F hb hm y_all y_int y_len y_range y_sum n
    skip
    exact def_d F sc_law_said_e4d74 hb hm fun cdv A outer s H E hr =>
  (dss_cons (xs_asg (xe_tup (xa_cons (xe_ix (de_v 1) de_int (fun _ _ => rfl)) (xa_cons (xe_ix (de_v 1) de_int (fun _ _ => rfl)) xa_nil))) (dg_tup (n := 2) rfl (dgs_cons (dg_name 3 sc_law_said_e4d74.nd rfl (by first | exact Or.inl rfl | exact Or.inr rfl)) (dgs_cons (dg_name 4 sc_law_said_e4d74.nd rfl (by first | exact Or.inl rfl | exact Or.inr rfl)) dgs_nil))))
  (dss_cons (ds_if (xt_cmp (opd_eq hr) (de_v 3) de_str (nomark _))
    (dss_one (ds_ret (de_v 4)))
    dss_nil)
  (dss_cons (ds_if (xt_cmp (opd_eq hr) (de_v 3) de_str (nomark _))
    (dss_one (ds_ret (xe_cmp (opd_in hr) (xe_ix (de_v 2) (de_v 4) (fun _ _ => rfl)) (xe_ix (de_v 1) de_int (fun _ _ => rfl)) (by rfl))))
    dss_nil)
  (dss_cons (ds_if (xt_cmp (opd_eq hr) (de_v 3) de_str (nomark _))
    (dss_one (ds_ret (xc G_self hr (by rfl) (xa_cons (de_v 0) (xa_cons (xe_ix (xe_ix (de_v 1) de_int (fun _ _ => rfl)) (xe_ix (de_v 2) (de_v 4) (fun _ _ => rfl)) (fun _ _ => rfl)) (xa_cons (de_v 2) xa_nil))))))
    dss_nil)
  (dss_cons (ds_if (xt_cmp (opd_eq hr) (de_v 3) de_str (nomark _))
    (dss_cons (ds_setLc (i := 6) (own := [("rule", 9)]) rfl sc_law_said_e4d74.nd rfl rfl (sw_true rfl rfl rfl (by decide +kernel)) (xi_seq (de_v 4)) (blkOk_by (by kernel_rfl)) (fun _ _ _ _ _ => (dg_name 9 sc_law_said_e4d74.nd rfl (by first | exact Or.inl rfl | exact Or.inr rfl))) (fun _ _ _ _ _ => (dts_one (xt_tru (xcB (cd_all rfl) (by rfl) y_all (by decide +kernel) (xa_cons (xe_fr (df_lc (own := [("field", 5), ("values", 11)]) rfl sc_law_said_e4d74.nd (xi_seq (xe_ix (de_v 9) de_int (fun _ _ => rfl))) (blkOk_by (by kernel_rfl)) (fun _ _ _ _ _ => (dg_tup (n := 2) rfl (dgs_cons (dg_name 5 sc_law_said_e4d74.nd rfl (by first | exact Or.inl rfl | exact Or.inr rfl)) (dgs_cons (dg_name 11 sc_law_said_e4d74.nd rfl (by first | exact Or.inl rfl | exact Or.inr rfl)) dgs_nil)))) (fun _ _ _ _ _ => dts_nil) (fun _ _ _ _ _ => (xe_cmp (opd_in hr) (xe_ix (de_v 2) (de_v 5) (fun _ _ => rfl)) (de_v 11) (by rfl))))) xa_nil))))) (fun _ _ _ _ _ => (xe_ix (de_v 9) de_int (fun _ _ => rfl))))
  (dss_one (ds_ret (xe_ix (xe_op opd_add (de_v 6) (xe_fr (xf_lst (xa_cons (xe_ix (de_v 1) de_int (fun _ _ => rfl)) xa_nil)))) de_int (fun _ _ => rfl)))))
    dss_nil)
  (dss_cons (ds_if (xt_cmp (opd_eq hr) (de_v 3) de_str (nomark _))
    (dss_one (ds_ret (xe_cmp opd_ge (xcB (cd_sum rfl) (by rfl) y_sum (by decide +kernel) (xa_cons (xe_fr (df_lc (own := [("field", 5)]) rfl sc_law_said_e4d74.nd (xi_range1 (by rfl) y_range (xa_cons (xcB cd_len (by rfl) y_len (by decide +kernel) (xa_cons (de_v 2) xa_nil)) xa_nil)) (blkOk_by (by kernel_rfl)) (fun _ _ _ _ _ => (dg_name 5 sc_law_said_e4d74.nd rfl (by first | exact Or.inl rfl | exact Or.inr rfl))) (fun _ _ _ _ _ => dts_nil) (fun _ _ _ _ _ => (xe_ix (xe_ix (de_v 4) (de_v 5) (fun _ _ => rfl)) (xe_ix (de_v 2) (de_v 5) (fun _ _ => rfl)) (fun _ _ => rfl))))) xa_nil)) (xe_ix (de_v 1) de_int (fun _ _ => rfl)) (nomark _))))
    dss_nil)
  (dss_cons (ds_if (xt_cmp (opd_eq hr) (de_v 3) de_str (nomark _))
    (dss_cons (ds_set (i := 7) sc_law_said_e4d74.nd rfl (by first | exact Or.inl rfl | exact Or.inr rfl) de_int)
  (dss_cons (ds_for PassesOwn.never rfl (xi_range1 (by rfl) y_range (xa_cons (xcB cd_len (by rfl) y_len (by decide +kernel) (xa_cons (de_v 2) xa_nil)) xa_nil)) (dg_name 5 sc_law_said_e4d74.nd rfl (by first | exact Or.inl rfl | exact Or.inr rfl))
    (dss_one (ds_set (i := 7) sc_law_said_e4d74.nd rfl (by first | exact Or.inl rfl | exact Or.inr rfl) (xe_op opd_add (xe_op opd_mul (de_v 7) (xe_ix (de_v 0) (de_v 5) (fun _ _ => rfl))) (xe_ix (de_v 2) (de_v 5) (fun _ _ => rfl))))))
  (dss_one (ds_ret (xe_ix (de_v 4) (de_v 7) (fun _ _ => rfl))))))
    dss_nil)
  (dss_cons (ds_if (xt_cmp (opd_eq hr) (de_v 3) de_str (nomark _))
    (dss_one (ds_ret (xe_not (xc G_self hr (by rfl) (xa_cons (de_v 0) (xa_cons (de_v 4) (xa_cons (de_v 2) xa_nil)))))))
    dss_nil)
  (dss_cons (ds_set (i := 8) sc_law_said_e4d74.nd rfl (by first | exact Or.inl rfl | exact Or.inr rfl) (xcB cd_len (by rfl) y_len (by decide +kernel) (xa_cons (xe_fr (df_lc (own := [("part", 10)]) rfl sc_law_said_e4d74.nd (xi_seq (de_v 4)) (blkOk_by (by kernel_rfl)) (fun _ _ _ _ _ => (dg_name 10 sc_law_said_e4d74.nd rfl (by first | exact Or.inl rfl | exact Or.inr rfl))) (fun _ _ _ _ _ => (dts_one (xt_tru (xc G_self hr (by rfl) (xa_cons (de_v 0) (xa_cons (de_v 10) (xa_cons (de_v 2) xa_nil))))))) (fun _ _ _ _ _ => (de_v 10)))) xa_nil)))
  (dss_cons (ds_if (xt_cmp (opd_eq hr) (de_v 3) de_str (nomark _))
    (dss_one (ds_ret (xe_cmp (opd_eq hr) (de_v 8) (xcB cd_len (by rfl) y_len (by decide +kernel) (xa_cons (de_v 4) xa_nil)) (nomark _))))
    dss_nil)
  (dss_cons (ds_if (xt_cmp (opd_eq hr) (de_v 3) de_str (nomark _))
    (dss_one (ds_ret (xe_cmp opd_gt (de_v 8) de_int (nomark _))))
    dss_nil)
  (dss_one (ds_ret (xe_cmp (opd_eq hr) (xe_op opd_mod (xcT cd_int (by rfl) y_int (by decide +kernel) (xa_cons (de_v 8) xa_nil)) de_int) de_int (nomark _)))))))))))))))
abbrev s_law_table_6dbb7 : Stmt := top 75
theorem sc_law_table_6dbb7 : FnScope ["sizes", "results"] ["sizes", "results"] (defScope s_law_table_6dbb7) := ⟨rfl, rfl, rfl, by decide +kernel, rfl, by decide +kernel, by decide +kernel⟩
theorem f_law_table_6dbb7 {P : Program} {w : World} {K : PySem.W.Frag} {mg : Str → Option Value} {base : Heap} {f : Addr} {fd : FuncData} {k : Nat} (F : Fun K "_law_table" "_law_table" s_law_table_6dbb7 f fd) (hb : Binds K fd ["sizes", "results"] []) (hm : mg "_law_table" = some (.ref f))
    (y_tuple : mg "tuple" = none) : FnOk P w K mg base CX0 (k + 1) f fd ["sizes", "results"] (spD K g_law_table_6dbb7) := fn_d F sc_law_table_6dbb7 fun cdv A outer s H E hr =>
  (dss_one (ds_ret (xe_tup (xa_cons de_str (xa_cons (xcT cd_tuple (by rfl) y_tuple (by decide +kernel) (xa_cons (de_v 1) xa_nil)) xa_nil)))))
theorem t_law_table_6dbb7 {P : Program} {w : World} {K : PySem.W.Frag} {mg : Str → Option Value} {base : Heap} {f : Addr} {fd : FuncData} {k : Nat} (F : Fun K "_law_table" "_law_table" s_law_table_6dbb7 f fd) (hb : Binds K fd ["sizes", "results"] []) (hm : mg "_law_table" = some (.ref f))
    (y_tuple : mg "tuple" = none) : Has P w K mg base (k + 1) "_law_table" ["sizes", "results"] (spD K g_law_table_6dbb7) := ⟨f, fd, f_law_table_6dbb7 F hb hm y_tuple, hb, hm, F.kp⟩
abbrev s_law_second_9359c : Stmt := top 76
theorem sc_law_second_9359c : FnScope ["sizes", "form", "results", "cells", "cell", "word", "turned", "k", "at"] ["sizes", "form", "results", "cells"] (defScope s_law_second_9359c) := ⟨rfl, rfl, rfl, by decide +kernel, rfl, by decide +kernel, by decide +kernel⟩
theorem f_law_second_9359c {P : Program} {w : World} {K : PySem.W.Frag} {mg : Str → Option Value} {base : Heap} {f : Addr} {fd : FuncData} {k : Nat} (F : Fun K "_law_second" "_law_second" s_law_second_9359c f fd) (hb : Binds K fd ["sizes", "form", "results", "cells"] []) (hm : mg "_law_second" = some (.ref f))
    (y_len : mg "len" = none)
    (y_list : mg "list" = none)
    (y_range : mg "range" = none)
    (G_law_draw_48e0b : Has P w K mg base k "_law_draw" ["cell", "k", "limit"] (spD K g_law_draw_48e0b))
    (G_law_form_06328 : Has P w K mg base k "_law_form" ["sizes", "cells"] (spD K g_law_form_06328))
    (G_law_table_6dbb7 : Has P w K mg base k "_law_table" ["sizes", "results"] (spD K g_law_table_6dbb7)) : FnOk P w K mg base CX0 (k + 1) f fd ["sizes", "form", "results", "cells"] (spD K g_law_second_9359c) := fn_d F sc_law_second_9359c fun cdv A outer s H E hr =>
  (dss_cons (ds_set (i := 4) sc_law_second_9359c.nd rfl (by first | exact Or.inl rfl | exact Or.inr rfl) (xe_ix (xe_op opd_add (de_v 3) (xe_fr (xf_lst (xa_cons de_int xa_nil)))) de_int (fun _ _ => rfl)))
  (dss_cons (ds_set (i := 5) sc_law_second_9359c.nd rfl (by first | exact Or.inl rfl | exact Or.inr rfl) (xc G_law_draw_48e0b hr (by rfl) (xa_cons (de_v 4) (xa_cons de_int (xa_cons de_int xa_nil)))))
  (dss_cons (ds_if (xt_cmp (opd_eq hr) (de_v 5) de_int (nomark _))
    (dss_one (ds_ret (xe_tup (xa_cons de_str (xa_cons (xe_tup (xa_cons de_str (xa_cons (de_v 1) xa_nil))) xa_nil)))))
    dss_nil)
  (dss_cons (ds_if (xt_cmp (opd_eq hr) (de_v 5) de_int (nomark _))
    (dss_one (ds_ret (xc G_law_table_6dbb7 hr (by rfl) (xa_cons (de_v 0) (xa_cons (de_v 2) xa_nil)))))
    dss_nil)
  (dss_cons (ds_if (DW.pt (dw_or (xt_cmp (opd_eq hr) (de_v 5) de_int (nomark _)) (dw_or1 (xt_cmp (opd_eq hr) (de_v 5) de_int (nomark _)))))
    (dss_cons (ds_own (i := 6) sc_law_second_9359c.nd rfl (by first | exact Or.inl rfl | exact Or.inr rfl) (xcTF cf_list (by rfl) y_list (by decide +kernel) (xa_cons (de_v 2) xa_nil)))
  (dss_cons (ds_for PassesOwn.never rfl (xi_range1 (by rfl) y_range (xa_cons (xe_op opd_add (xc G_law_draw_48e0b hr (by rfl) (xa_cons (de_v 4) (xa_cons de_int (xa_cons de_int xa_nil)))) de_int) xa_nil)) (dg_name 7 sc_law_second_9359c.nd rfl (by first | exact Or.inl rfl | exact Or.inr rfl))
    (dss_cons (ds_set (i := 8) sc_law_second_9359c.nd rfl (by first | exact Or.inl rfl | exact Or.inr rfl) (xc G_law_draw_48e0b hr (by rfl) (xa_cons (de_v 4) (xa_cons (xe_op opd_add de_int (de_v 7)) (xa_cons (de_lenO 6 (by rfl) y_len) xa_nil)))))
  (dss_one (ds_putIx 6 (xe_not (de_ixO 6 (de_v 8) (fun _ _ => rfl))) (de_v 8)))))
  (dss_one (ds_frz 6 (ds_ret (xc G_law_table_6dbb7 hr (by rfl) (xa_cons (de_v 0) (xa_cons (de_v 6) xa_nil))))))))
    dss_nil)
  (dss_one (ds_ret (xc G_law_form_06328 hr (by rfl) (xa_cons (de_v 0) (xa_cons (de_v 3) xa_nil))))))))))
theorem t_law_second_9359c {P : Program} {w : World} {K : PySem.W.Frag} {mg : Str → Option Value} {base : Heap} {f : Addr} {fd : FuncData} {k : Nat} (F : Fun K "_law_second" "_law_second" s_law_second_9359c f fd) (hb : Binds K fd ["sizes", "form", "results", "cells"] []) (hm : mg "_law_second" = some (.ref f))
    (y_len : mg "len" = none)
    (y_list : mg "list" = none)
    (y_range : mg "range" = none)
    (G_law_draw_48e0b : Has P w K mg base k "_law_draw" ["cell", "k", "limit"] (spD K g_law_draw_48e0b))
    (G_law_form_06328 : Has P w K mg base k "_law_form" ["sizes", "cells"] (spD K g_law_form_06328))
    (G_law_table_6dbb7 : Has P w K mg base k "_law_table" ["sizes", "results"] (spD K g_law_table_6dbb7)) : Has P w K mg base (k + 1) "_law_second" ["sizes", "form", "results", "cells"] (spD K g_law_second_9359c) := ⟨f, fd, f_law_second_9359c F hb hm y_len y_list y_range G_law_draw_48e0b G_law_form_06328 G_law_table_6dbb7, hb, hm, F.kp⟩
abbrev s_all_answers : Stmt := top 47
theorem sc_all_answers : FnScope ["sizes", "form"] ["sizes", "form"] (defScope s_all_answers) := ⟨rfl, rfl, rfl, by decide +kernel, rfl, by decide +kernel, by decide +kernel⟩
theorem f_all_answers {P : Program} {w : World} {K : PySem.W.Frag} {mg : Str → Option Value} {base : Heap} {f : Addr} {fd : FuncData} {k : Nat} (F : Fun K "all_answers" "all_answers" s_all_answers f fd) (hb : Binds K fd ["sizes", "form"] []) (hm : mg "all_answers" = some (.ref f))
    (y_len : mg "len" = none)
    (G_answers_completing : Has P w K mg base k "answers_completing" ["sizes", "form", "half"] (spD K g_answers_completing)) : FnOk P w K mg base CX0 (k + 1) f fd ["sizes", "form"] (spD K g_all_answers) := fn_d F sc_all_answers fun cdv A outer s H E hr =>
  (dss_one (ds_ret (xc G_answers_completing hr (by rfl) (xa_cons (de_v 0) (xa_cons (de_v 1) (xa_cons (xe_fr (xf_rep (xf_lst (xa_cons de_non xa_nil)) (xcB cd_len (by rfl) y_len (by decide +kernel) (xa_cons (de_v 0) xa_nil)))) xa_nil))))))
theorem t_all_answers {P : Program} {w : World} {K : PySem.W.Frag} {mg : Str → Option Value} {base : Heap} {f : Addr} {fd : FuncData} {k : Nat} (F : Fun K "all_answers" "all_answers" s_all_answers f fd) (hb : Binds K fd ["sizes", "form"] []) (hm : mg "all_answers" = some (.ref f))
    (y_len : mg "len" = none)
    (G_answers_completing : Has P w K mg base k "answers_completing" ["sizes", "form", "half"] (spD K g_answers_completing)) : Has P w K mg base (k + 1) "all_answers" ["sizes", "form"] (spD K g_all_answers) := ⟨f, fd, f_all_answers F hb hm y_len G_answers_completing, hb, hm, F.kp⟩
abbrev s_are_alike : Stmt := top 58
theorem sc_are_alike : FnScope ["sizes", "one", "other"] ["sizes", "one", "other"] (defScope s_are_alike) := ⟨rfl, rfl, rfl, by decide +kernel, rfl, by decide +kernel, by decide +kernel⟩
theorem f_are_alike {P : Program} {w : World} {K : PySem.W.Frag} {mg : Str → Option Value} {base : Heap} {f : Addr} {fd : FuncData} {k : Nat} (F : Fun K "are_alike" "are_alike" s_are_alike f fd) (hb : Binds K fd ["sizes", "one", "other"] []) (hm : mg "are_alike" = some (.ref f))
    (G_all_answers : Has P w K mg base k "all_answers" ["sizes", "form"] (spD K g_all_answers)) : FnOk P w K mg base CX0 (k + 1) f fd ["sizes", "one", "other"] (spD K g_are_alike) := fn_d F sc_are_alike fun cdv A outer s H E hr =>
  (dss_one (ds_ret (xe_cmp (opd_eq hr) (xc G_all_answers hr (by rfl) (xa_cons (de_v 0) (xa_cons (de_v 1) xa_nil))) (xc G_all_answers hr (by rfl) (xa_cons (de_v 0) (xa_cons (de_v 2) xa_nil))) (nomark _))))
theorem t_are_alike {P : Program} {w : World} {K : PySem.W.Frag} {mg : Str → Option Value} {base : Heap} {f : Addr} {fd : FuncData} {k : Nat} (F : Fun K "are_alike" "are_alike" s_are_alike f fd) (hb : Binds K fd ["sizes", "one", "other"] []) (hm : mg "are_alike" = some (.ref f))
    (G_all_answers : Has P w K mg base k "all_answers" ["sizes", "form"] (spD K g_all_answers)) : Has P w K mg base (k + 1) "are_alike" ["sizes", "one", "other"] (spD K g_are_alike) := ⟨f, fd, f_are_alike F hb hm G_all_answers, hb, hm, F.kp⟩
abbrev s_p_check_both : Stmt := top 60
theorem sc_p_check_both : FnScope ["sizes", "one", "other"] ["sizes", "one", "other"] (defScope s_p_check_both) := ⟨rfl, rfl, rfl, by decide +kernel, rfl, by decide +kernel, by decide +kernel⟩
theorem f_p_check_both {P : Program} {w : World} {K : PySem.W.Frag} {mg : Str → Option Value} {base : Heap} {f : Addr} {fd : FuncData} {k : Nat} (F : Fun K "_check_both" "_check_both" s_p_check_both f fd) (hb : Binds K fd ["sizes", "one", "other"] []) (hm : mg "_check_both" = some (.ref f))
    (G_check_sizes : Has P w K mg base k "check_sizes" ["sizes"] (spD K g_check_sizes))
    (G_check_small : Has P w K mg base k "check_small" ["sizes"] (spD K g_check_small))
    (G_check_form : Has P w K mg base k "check_form" ["sizes", "form"] (spD K g_check_form)) : FnOk P w K mg base CX0 (k + 1) f fd ["sizes", "one", "other"] (spD K g_p_check_both) := fn_d F sc_p_check_both fun cdv A outer s H E hr =>
  (dss_cons (ds_expr (xc G_check_sizes hr (by rfl) (xa_cons (de_v 0) xa_nil)))
  (dss_cons (ds_expr (xc G_check_form hr (by rfl) (xa_cons (de_v 0) (xa_cons (de_v 1) xa_nil))))
  (dss_cons (ds_expr (xc G_check_form hr (by rfl) (xa_cons (de_v 0) (xa_cons (de_v 2) xa_nil))))
  (dss_one (ds_expr (xc G_check_small hr (by rfl) (xa_cons (de_v 0) xa_nil)))))))
theorem t_p_check_both {P : Program} {w : World} {K : PySem.W.Frag} {mg : Str → Option Value} {base : Heap} {f : Addr} {fd : FuncData} {k : Nat} (F : Fun K "_check_both" "_check_both" s_p_check_both f fd) (hb : Binds K fd ["sizes", "one", "other"] []) (hm : mg "_check_both" = some (.ref f))
    (G_check_sizes : Has P w K mg base k "check_sizes" ["sizes"] (spD K g_check_sizes))
    (G_check_small : Has P w K mg base k "check_small" ["sizes"] (spD K g_check_small))
    (G_check_form : Has P w K mg base k "check_form" ["sizes", "form"] (spD K g_check_form)) : Has P w K mg base (k + 1) "_check_both" ["sizes", "one", "other"] (spD K g_p_check_both) := ⟨f, fd, f_p_check_both F hb hm G_check_sizes G_check_small G_check_form, hb, hm, F.kp⟩
abbrev s_alike : Stmt := top 54
theorem sc_alike : FnScope ["sizes", "one", "other"] ["sizes", "one", "other"] (defScope s_alike) := ⟨rfl, rfl, rfl, by decide +kernel, rfl, by decide +kernel, by decide +kernel⟩
theorem f_alike {P : Program} {w : World} {K : PySem.W.Frag} {mg : Str → Option Value} {base : Heap} {f : Addr} {fd : FuncData} {k : Nat} (F : Fun K "alike" "alike" s_alike f fd) (hb : Binds K fd ["sizes", "one", "other"] []) (hm : mg "alike" = some (.ref f))
    (G_are_alike : Has P w K mg base k "are_alike" ["sizes", "one", "other"] (spD K g_are_alike))
    (G_p_check_both : Has P w K mg base k "_check_both" ["sizes", "one", "other"] (spD K g_p_check_both)) : FnOk P w K mg base CX0 (k + 1) f fd ["sizes", "one", "other"] (spD K g_alike) := fn_d F sc_alike fun cdv A outer s H E hr =>
  (dss_cons (ds_expr (xc G_p_check_both hr (by rfl) (xa_cons (de_v 0) (xa_cons (de_v 1) (xa_cons (de_v 2) xa_nil)))))
  (dss_one (ds_ret (xc G_are_alike hr (by rfl) (xa_cons (de_v 0) (xa_cons (de_v 1) (xa_cons (de_v 2) xa_nil)))))))
theorem t_alike {P : Program} {w : World} {K : PySem.W.Frag} {mg : Str → Option Value} {base : Heap} {f : Addr} {fd : FuncData} {k : Nat} (F : Fun K "alike" "alike" s_alike f fd) (hb : Binds K fd ["sizes", "one", "other"] []) (hm : mg "alike" = some (.ref f))
    (G_are_alike : Has P w K mg base k "are_alike" ["sizes", "one", "other"] (spD K g_are_alike))
    (G_p_check_both : Has P w K mg base k "_check_both" ["sizes", "one", "other"] (spD K g_p_check_both)) : Has P w K mg base (k + 1) "alike" ["sizes", "one", "other"] (spD K g_alike) := ⟨f, fd, f_alike F hb hm G_are_alike G_p_check_both, hb, hm, F.kp⟩
abbrev s_is_within : Stmt := top 59
theorem sc_is_within : FnScope ["sizes", "one", "other", "first", "second", "place"] ["sizes", "one", "other"] (defScope s_is_within) := ⟨rfl, rfl, rfl, by decide +kernel, rfl, by decide +kernel, by decide +kernel⟩
theorem f_is_within {P : Program} {w : World} {K : PySem.W.Frag} {mg : Str → Option Value} {base : Heap} {f : Addr} {fd : FuncData} {k : Nat} (F : Fun K "is_within" "is_within" s_is_within f fd) (hb : Binds K fd ["sizes", "one", "other"] []) (hm : mg "is_within" = some (.ref f))
    (y_all : mg "all" = none)
    (y_len : mg "len" = none)
    (y_range : mg "range" = none)
    (G_all_answers : Has P w K mg base k "all_answers" ["sizes", "form"] (spD K g_all_answers)) : FnOk P w K mg base CX0 (k + 1) f fd ["sizes", "one", "other"] (spD K g_is_within) := fn_d F sc_is_within fun cdv A outer s H E hr =>
  (dss_cons (ds_set (i := 3) sc_is_within.nd rfl (by first | exact Or.inl rfl | exact Or.inr rfl) (xc G_all_answers hr (by rfl) (xa_cons (de_v 0) (xa_cons (de_v 1) xa_nil))))
  (dss_cons (ds_set (i := 4) sc_is_within.nd rfl (by first | exact Or.inl rfl | exact Or.inr rfl) (xc G_all_answers hr (by rfl) (xa_cons (de_v 0) (xa_cons (de_v 2) xa_nil))))
  (dss_one (ds_ret (xcB (cd_all rfl) (by rfl) y_all (by decide +kernel) (xa_cons (xe_fr (df_lc (own := [("place", 5)]) rfl sc_is_within.nd (xi_range1 (by rfl) y_range (xa_cons (xcB cd_len (by rfl) y_len (by decide +kernel) (xa_cons (de_v 3) xa_nil)) xa_nil)) (blkOk_by (by kernel_rfl)) (fun _ _ _ _ _ => (dg_name 5 sc_is_within.nd rfl (by first | exact Or.inl rfl | exact Or.inr rfl))) (fun _ _ _ _ _ => (dts_one (xt_tru (xe_ix (de_v 3) (de_v 5) (fun _ _ => rfl))))) (fun _ _ _ _ _ => (xe_ix (de_v 4) (de_v 5) (fun _ _ => rfl))))) xa_nil))))))
theorem t_is_within {P : Program} {w : World} {K : PySem.W.Frag} {mg : Str → Option Value} {base : Heap} {f : Addr} {fd : FuncData} {k : Nat} (F : Fun K "is_within" "is_within" s_is_within f fd) (hb : Binds K fd ["sizes", "one", "other"] []) (hm : mg "is_within" = some (.ref f))
    (y_all : mg "all" = none)
    (y_len : mg "len" = none)
    (y_range : mg "range" = none)
    (G_all_answers : Has P w K mg base k "all_answers" ["sizes", "form"] (spD K g_all_answers)) : Has P w K mg base (k + 1) "is_within" ["sizes", "one", "other"] (spD K g_is_within) := ⟨f, fd, f_is_within F hb hm y_all y_len y_range G_all_answers, hb, hm, F.kp⟩
abbrev s_within : Stmt := top 55
theorem sc_within : FnScope ["sizes", "one", "other"] ["sizes", "one", "other"] (defScope s_within) := ⟨rfl, rfl, rfl, by decide +kernel, rfl, by decide +kernel, by decide +kernel⟩
theorem f_within {P : Program} {w : World} {K : PySem.W.Frag} {mg : Str → Option Value} {base : Heap} {f : Addr} {fd : FuncData} {k : Nat} (F : Fun K "within" "within" s_within f fd) (hb : Binds K fd ["sizes", "one", "other"] []) (hm : mg "within" = some (.ref f))
    (G_is_within : Has P w K mg base k "is_within" ["sizes", "one", "other"] (spD K g_is_within))
    (G_p_check_both : Has P w K mg base k "_check_both" ["sizes", "one", "other"] (spD K g_p_check_both)) : FnOk P w K mg base CX0 (k + 1) f fd ["sizes", "one", "other"] (spD K g_within) := fn_d F sc_within fun cdv A outer s H E hr =>
  (dss_cons (ds_expr (xc G_p_check_both hr (by rfl) (xa_cons (de_v 0) (xa_cons (de_v 1) (xa_cons (de_v 2) xa_nil)))))
  (dss_one (ds_ret (xc G_is_within hr (by rfl) (xa_cons (de_v 0) (xa_cons (de_v 1) (xa_cons (de_v 2) xa_nil)))))))
theorem t_within {P : Program} {w : World} {K : PySem.W.Frag} {mg : Str → Option Value} {base : Heap} {f : Addr} {fd : FuncData} {k : Nat} (F : Fun K "within" "within" s_within f fd) (hb : Binds K fd ["sizes", "one", "other"] []) (hm : mg "within" = some (.ref f))
    (G_is_within : Has P w K mg base k "is_within" ["sizes", "one", "other"] (spD K g_is_within))
    (G_p_check_both : Has P w K mg base k "_check_both" ["sizes", "one", "other"] (spD K g_p_check_both)) : Has P w K mg base (k + 1) "within" ["sizes", "one", "other"] (spD K g_within) := ⟨f, fd, f_within F hb hm G_is_within G_p_check_both, hb, hm, F.kp⟩
abbrev s_case_of_place : Stmt := top 20
theorem sc_case_of_place : FnScope ["sizes", "place", "case", "rest", "at"] ["sizes", "place"] (defScope s_case_of_place) := ⟨rfl, rfl, rfl, by decide +kernel, rfl, by decide +kernel, by decide +kernel⟩
theorem f_case_of_place {P : Program} {w : World} {K : PySem.W.Frag} {mg : Str → Option Value} {base : Heap} {f : Addr} {fd : FuncData} {k : Nat} (F : Fun K "case_of_place" "case_of_place" s_case_of_place f fd) (hb : Binds K fd ["sizes", "place"] []) (hm : mg "case_of_place" = some (.ref f))
    (y_len : mg "len" = none)
    (y_range : mg "range" = none)
    (y_reversed : mg "reversed" = none) : FnOk P w K mg base CX0 (k + 1) f fd ["sizes", "place"] (spD K g_case_of_place) := fn_d F sc_case_of_place fun cdv A outer s H E hr =>
  (dss_cons (ds_own (i := 2) sc_case_of_place.nd rfl (by first | exact Or.inl rfl | exact Or.inr rfl) (xf_rep (xf_lst (xa_cons de_int xa_nil)) (xcB cd_len (by rfl) y_len (by decide +kernel) (xa_cons (de_v 0) xa_nil))))
  (dss_cons (ds_set (i := 3) sc_case_of_place.nd rfl (by first | exact Or.inl rfl | exact Or.inr rfl) (de_v 1))
  (dss_cons (ds_for PassesOwn.never rfl (xi_rev1 (by rfl) y_reversed (by rfl) y_range (xcB cd_len (by rfl) y_len (by decide +kernel) (xa_cons (de_v 0) xa_nil))) (dg_name 4 sc_case_of_place.nd rfl (by first | exact Or.inl rfl | exact Or.inr rfl))
    (dss_cons (ds_putIx 2 (xe_op opd_mod (de_v 3) (xe_ix (de_v 0) (de_v 4) (fun _ _ => rfl))) (de_v 4))
  (dss_one (ds_set (i := 3) sc_case_of_place.nd rfl (by first | exact Or.inl rfl | exact Or.inr rfl) (xe_op opd_div (de_v 3) (xe_ix (de_v 0) (de_v 4) (fun _ _ => rfl)))))))
  (dss_one (ds_frz 2 (ds_ret (de_v 2)))))))
theorem t_case_of_place {P : Program} {w : World} {K : PySem.W.Frag} {mg : Str → Option Value} {base : Heap} {f : Addr} {fd : FuncData} {k : Nat} (F : Fun K "case_of_place" "case_of_place" s_case_of_place f fd) (hb : Binds K fd ["sizes", "place"] []) (hm : mg "case_of_place" = some (.ref f))
    (y_len : mg "len" = none)
    (y_range : mg "range" = none)
    (y_reversed : mg "reversed" = none) : Has P w K mg base (k + 1) "case_of_place" ["sizes", "place"] (spD K g_case_of_place) := ⟨f, fd, f_case_of_place F hb hm y_len y_range y_reversed, hb, hm, F.kp⟩
abbrev s_p_parted_places : Stmt := top 61
theorem sc_p_parted_places : FnScope ["sizes", "one", "other", "first", "second", "place"] ["sizes", "one", "other"] (defScope s_p_parted_places) := ⟨rfl, rfl, rfl, by decide +kernel, rfl, by decide +kernel, by decide +kernel⟩
theorem f_p_parted_places {P : Program} {w : World} {K : PySem.W.Frag} {mg : Str → Option Value} {base : Heap} {f : Addr} {fd : FuncData} {k : Nat} (F : Fun K "_parted_places" "_parted_places" s_p_parted_places f fd) (hb : Binds K fd ["sizes", "one", "other"] []) (hm : mg "_parted_places" = some (.ref f))
    (y_len : mg "len" = none)
    (y_range : mg "range" = none)
    (G_all_answers : Has P w K mg base k "all_answers" ["sizes", "form"] (spD K g_all_answers)) : FnOk P w K mg base CX0 (k + 1) f fd ["sizes", "one", "other"] (spD K g_p_parted_places) := fn_d F sc_p_parted_places fun cdv A outer s H E hr =>
  (dss_cons (ds_set (i := 3) sc_p_parted_places.nd rfl (by first | exact Or.inl rfl | exact Or.inr rfl) (xc G_all_answers hr (by rfl) (xa_cons (de_v 0) (xa_cons (de_v 1) xa_nil))))
  (dss_cons (ds_set (i := 4) sc_p_parted_places.nd rfl (by first | exact Or.inl rfl | exact Or.inr rfl) (xc G_all_answers hr (by rfl) (xa_cons (de_v 0) (xa_cons (de_v 2) xa_nil))))
  (dss_one (ds_ret (xe_fr (df_lc (own := [("place", 5)]) rfl sc_p_parted_places.nd (xi_range1 (by rfl) y_range (xa_cons (xcB cd_len (by rfl) y_len (by decide +kernel) (xa_cons (de_v 3) xa_nil)) xa_nil)) (blkOk_by (by kernel_rfl)) (fun _ _ _ _ _ => (dg_name 5 sc_p_parted_places.nd rfl (by first | exact Or.inl rfl | exact Or.inr rfl))) (fun _ _ _ _ _ => (dts_one (xt_cmp (opd_ne hr) (xe_ix (de_v 3) (de_v 5) (fun _ _ => rfl)) (xe_ix (de_v 4) (de_v 5) (fun _ _ => rfl)) (nomark _)))) (fun _ _ _ _ _ => (de_v 5))))))))
theorem t_p_parted_places {P : Program} {w : World} {K : PySem.W.Frag} {mg : Str → Option Value} {base : Heap} {f : Addr} {fd : FuncData} {k : Nat} (F : Fun K "_parted_places" "_parted_places" s_p_parted_places f fd) (hb : Binds K fd ["sizes", "one", "other"] []) (hm : mg "_parted_places" = some (.ref f))
    (y_len : mg "len" = none)
    (y_range : mg "range" = none)
    (G_all_answers : Has P w K mg base k "all_answers" ["sizes", "form"] (spD K g_all_answers)) : Has P w K mg base (k + 1) "_parted_places" ["sizes", "one", "other"] (spD K g_p_parted_places) := ⟨f, fd, f_p_parted_places F hb hm y_len y_range G_all_answers, hb, hm, F.kp⟩
abbrev s_parting_case : Stmt := top 56
theorem sc_parting_case : FnScope ["sizes", "one", "other", "places"] ["sizes", "one", "other"] (defScope s_parting_case) := ⟨rfl, rfl, rfl, by decide +kernel, rfl, by decide +kernel, by decide +kernel⟩
theorem f_parting_case {P : Program} {w : World} {K : PySem.W.Frag} {mg : Str → Option Value} {base : Heap} {f : Addr} {fd : FuncData} {k : Nat} (F : Fun K "parting_case" "parting_case" s_parting_case f fd) (hb : Binds K fd ["sizes", "one", "other"] []) (hm : mg "parting_case" = some (.ref f))
    (G_case_of_place : Has P w K mg base k "case_of_place" ["sizes", "place"] (spD K g_case_of_place))
    (G_p_check_both : Has P w K mg base k "_check_both" ["sizes", "one", "other"] (spD K g_p_check_both))
    (G_p_parted_places : Has P w K mg base k "_parted_places" ["sizes", "one", "other"] (spD K g_p_parted_places)) : FnOk P w K mg base CX0 (k + 1) f fd ["sizes", "one", "other"] (spD K g_parting_case) := fn_d F sc_parting_case fun cdv A outer s H E hr =>
  (dss_cons (ds_expr (xc G_p_check_both hr (by rfl) (xa_cons (de_v 0) (xa_cons (de_v 1) (xa_cons (de_v 2) xa_nil)))))
  (dss_cons (ds_set (i := 3) sc_parting_case.nd rfl (by first | exact Or.inl rfl | exact Or.inr rfl) (xc G_p_parted_places hr (by rfl) (xa_cons (de_v 0) (xa_cons (de_v 1) (xa_cons (de_v 2) xa_nil)))))
  (dss_one (ds_ret (de_if (xt_cmp (opd_ne hr) (de_v 3) (xe_fr (xf_lst xa_nil)) (nomark _)) (xc G_case_of_place hr (by rfl) (xa_cons (de_v 0) (xa_cons (xe_ix (de_v 3) de_int (fun _ _ => rfl)) xa_nil))) de_non)))))
theorem t_parting_case {P : Program} {w : World} {K : PySem.W.Frag} {mg : Str → Option Value} {base : Heap} {f : Addr} {fd : FuncData} {k : Nat} (F : Fun K "parting_case" "parting_case" s_parting_case f fd) (hb : Binds K fd ["sizes", "one", "other"] []) (hm : mg "parting_case" = some (.ref f))
    (G_case_of_place : Has P w K mg base k "case_of_place" ["sizes", "place"] (spD K g_case_of_place))
    (G_p_check_both : Has P w K mg base k "_check_both" ["sizes", "one", "other"] (spD K g_p_check_both))
    (G_p_parted_places : Has P w K mg base k "_parted_places" ["sizes", "one", "other"] (spD K g_p_parted_places)) : Has P w K mg base (k + 1) "parting_case" ["sizes", "one", "other"] (spD K g_parting_case) := ⟨f, fd, f_parting_case F hb hm G_case_of_place G_p_check_both G_p_parted_places, hb, hm, F.kp⟩
theorem t_q_case_of_place {P : Program} {w : World} {K : PySem.W.Frag} {mg : Str → Option Value} {base : Heap} {f : Addr} {fd : FuncData} {k : Nat} (F : Fun K "case_of_place" "case_of_place" s_case_of_place f fd) (hb : Binds K fd ["sizes", "place"] []) (hm : mg "case_of_place" = some (.ref f))
    (y_len : mg "len" = none)
    (y_range : mg "range" = none)
    (y_reversed : mg "reversed" = none) : Has P w K mg base (k + 1) "case_of_place" ["sizes", "place"] (spQ K g_q_case_of_place) := def_q F sc_case_of_place hb hm fun cdv A outer s H E hr =>
  (dss_cons (ds_own (i := 2) sc_case_of_place.nd rfl (by first | exact Or.inl rfl | exact Or.inr rfl) (xf_rep (xf_lst (xa_cons de_int xa_nil)) (xcB cd_len (by rfl) y_len (by decide +kernel) (xa_cons (de_v 0) xa_nil))))
  (dss_cons (ds_set (i := 3) sc_case_of_place.nd rfl (by first | exact Or.inl rfl | exact Or.inr rfl) (de_v 1))
  (dss_cons (ds_for PassesOwn.never rfl (xi_rev1 (by rfl) y_reversed (by rfl) y_range (xcB cd_len (by rfl) y_len (by decide +kernel) (xa_cons (de_v 0) xa_nil))) (dg_name 4 sc_case_of_place.nd rfl (by first | exact Or.inl rfl | exact Or.inr rfl))
    (dss_cons (ds_putIx 2 (xe_op opd_mod (de_v 3) (xe_ix (de_v 0) (de_v 4) (fun _ _ => rfl))) (de_v 4))
  (dss_one (ds_set (i := 3) sc_case_of_place.nd rfl (by first | exact Or.inl rfl | exact Or.inr rfl) (xe_op opd_div (de_v 3) (xe_ix (de_v 0) (de_v 4) (fun _ _ => rfl)))))))
  (dss_one (ds_retO 2)))))
theorem t_q_parting_case {P : Program} {w : World} {K : PySem.W.Frag} {mg : Str → Option Value} {base : Heap} {f : Addr} {fd : FuncData} {k : Nat} (F : Fun K "parting_case" "parting_case" s_parting_case f fd) (hb : Binds K fd ["sizes", "one", "other"] []) (hm : mg "parting_case" = some (.ref f))
    (G_q_case_of_place : Has P w K mg base k "case_of_place" ["sizes", "place"] (spQ K g_q_case_of_place))
    (G_p_check_both : Has P w K mg base k "_check_both" ["sizes", "one", "other"] (spD K g_p_check_both))
    (G_p_parted_places : Has P w K mg base k "_parted_places" ["sizes", "one", "other"] (spD K g_p_parted_places)) : Has P w K mg base (k + 1) "parting_case" ["sizes", "one", "other"] (spQ K g_q_parting_case) := def_q F sc_parting_case hb hm fun cdv A outer s H E hr =>
  (dss_cons (ds_expr (xc G_p_check_both hr (by rfl) (xa_cons (de_v 0) (xa_cons (de_v 1) (xa_cons (de_v 2) xa_nil)))))
  (dss_cons (ds_set (i := 3) sc_parting_case.nd rfl (by first | exact Or.inl rfl | exact Or.inr rfl) (xc G_p_parted_places hr (by rfl) (xa_cons (de_v 0) (xa_cons (de_v 1) (xa_cons (de_v 2) xa_nil)))))
  (dss_one (ds_retQ (dq_if (xt_cmp (opd_ne hr) (de_v 3) (xe_fr (xf_lst xa_nil)) (nomark _)) (dcQ G_q_case_of_place hr (by rfl) (xa_cons (de_v 0) (xa_cons (xe_ix (de_v 3) de_int (fun _ _ => rfl)) xa_nil))) (dq_d de_non))))))
abbrev s_count_parted : Stmt := top 57
theorem sc_count_parted : FnScope ["sizes", "one", "other"] ["sizes", "one", "other"] (defScope s_count_parted) := ⟨rfl, rfl, rfl, by decide +kernel, rfl, by decide +kernel, by decide +kernel⟩
theorem f_count_parted {P : Program} {w : World} {K : PySem.W.Frag} {mg : Str → Option Value} {base : Heap} {f : Addr} {fd : FuncData} {k : Nat} (F : Fun K "count_parted" "count_parted" s_count_parted f fd) (hb : Binds K fd ["sizes", "one", "other"] []) (hm : mg "count_parted" = some (.ref f))
    (y_len : mg "len" = none)
    (G_p_check_both : Has P w K mg base k "_check_both" ["sizes", "one", "other"] (spD K g_p_check_both))
    (G_p_parted_places : Has P w K mg base k "_parted_places" ["sizes", "one", "other"] (spD K g_p_parted_places)) : FnOk P w K mg base CX0 (k + 1) f fd ["sizes", "one", "other"] (spD K g_count_parted) := fn_d F sc_count_parted fun cdv A outer s H E hr =>
  (dss_cons (ds_expr (xc G_p_check_both hr (by rfl) (xa_cons (de_v 0) (xa_cons (de_v 1) (xa_cons (de_v 2) xa_nil)))))
  (dss_one (ds_ret (xcB cd_len (by rfl) y_len (by decide +kernel) (xa_cons (xc G_p_parted_places hr (by rfl) (xa_cons (de_v 0) (xa_cons (de_v 1) (xa_cons (de_v 2) xa_nil)))) xa_nil)))))
theorem t_count_parted {P : Program} {w : World} {K : PySem.W.Frag} {mg : Str → Option Value} {base : Heap} {f : Addr} {fd : FuncData} {k : Nat} (F : Fun K "count_parted" "count_parted" s_count_parted f fd) (hb : Binds K fd ["sizes", "one", "other"] []) (hm : mg "count_parted" = some (.ref f))
    (y_len : mg "len" = none)
    (G_p_check_both : Has P w K mg base k "_check_both" ["sizes", "one", "other"] (spD K g_p_check_both))
    (G_p_parted_places : Has P w K mg base k "_parted_places" ["sizes", "one", "other"] (spD K g_p_parted_places)) : Has P w K mg base (k + 1) "count_parted" ["sizes", "one", "other"] (spD K g_count_parted) := ⟨f, fd, f_count_parted F hb hm y_len G_p_check_both G_p_parted_places, hb, hm, F.kp⟩
abbrev s_law_integer_55dc8 : Stmt := top 74
theorem sc_law_integer_55dc8 : FnScope ["found"] ["found"] (defScope s_law_integer_55dc8) := ⟨rfl, rfl, rfl, by decide +kernel, rfl, by decide +kernel, by decide +kernel⟩
theorem f_law_integer_55dc8 {P : Program} {w : World} {K : PySem.W.Frag} {mg : Str → Option Value} {base : Heap} {f : Addr} {fd : FuncData} {k : Nat} (F : Fun K "_law_integer" "_law_integer" s_law_integer_55dc8 f fd) (hb : Binds K fd ["found"] []) (hm : mg "_law_integer" = some (.ref f))
    (y_bool : mg "bool" = none)
    (y_int : mg "int" = none)
    (y_isinstance : mg "isinstance" = none) : FnOk P w K mg base CX0 (k + 1) f fd ["found"] (spD K g_law_integer_55dc8) := fn_d F sc_law_integer_55dc8 fun cdv A outer s H E hr =>
  (dss_one (ds_ret (de_and (xe_isi (n := "int") (by decide) (by rfl) y_isinstance (by rfl) y_int (by decide +kernel) (de_v 0)) (de_one (xe_not (xe_isi (n := "bool") (by decide) (by rfl) y_isinstance (by rfl) y_bool (by decide +kernel) (de_v 0)))))))
theorem t_law_integer_55dc8 {P : Program} {w : World} {K : PySem.W.Frag} {mg : Str → Option Value} {base : Heap} {f : Addr} {fd : FuncData} {k : Nat} (F : Fun K "_law_integer" "_law_integer" s_law_integer_55dc8 f fd) (hb : Binds K fd ["found"] []) (hm : mg "_law_integer" = some (.ref f))
    (y_bool : mg "bool" = none)
    (y_int : mg "int" = none)
    (y_isinstance : mg "isinstance" = none) : Has P w K mg base (k + 1) "_law_integer" ["found"] (spD K g_law_integer_55dc8) := ⟨f, fd, f_law_integer_55dc8 F hb hm y_bool y_int y_isinstance, hb, hm, F.kp⟩
abbrev s_law_case_is_da430 : Stmt := top 77
theorem sc_law_case_is_da430 : FnScope ["found", "due", "part"] ["found", "due"] (defScope s_law_case_is_da430) := ⟨rfl, rfl, rfl, by decide +kernel, rfl, by decide +kernel, by decide +kernel⟩
theorem f_law_case_is_da430 {P : Program} {w : World} {K : PySem.W.Frag} {mg : Str → Option Value} {base : Heap} {f : Addr} {fd : FuncData} {k : Nat} (F : Fun K "_law_case_is" "_law_case_is" s_law_case_is_da430 f fd) (hb : Binds K fd ["found", "due"] []) (hm : mg "_law_case_is" = some (.ref f))
    (y_all : mg "all" = none)
    (y_isinstance : mg "isinstance" = none)
    (y_list : mg "list" = none)
    (G_law_integer_55dc8 : Has P w K mg base k "_law_integer" ["found"] (spD K g_law_integer_55dc8)) : FnOk P w K mg base CX0 (k + 1) f fd ["found", "due"] (spD K g_law_case_is_da430) := fn_d F sc_law_case_is_da430 fun cdv A outer s H E hr =>
  (dss_cons (ds_if (xt_cmp opd_is (de_v 1) de_non (nomark _))
    (dss_one (ds_ret (xe_cmp opd_is (de_v 0) de_non (nomark _))))
    dss_nil)
  (dss_one (ds_ret (de_and (xe_isi (n := "list") (by decide) (by rfl) y_isinstance (by rfl) y_list (by decide +kernel) (de_v 0)) (de_and (xcB (cd_all rfl) (by rfl) y_all (by decide +kernel) (xa_cons (xe_fr (df_lc (own := [("part", 2)]) rfl sc_law_case_is_da430.nd (xi_seq (de_v 0)) (blkOk_by (by kernel_rfl)) (fun _ _ _ _ _ => (dg_name 2 sc_law_case_is_da430.nd rfl (by first | exact Or.inl rfl | exact Or.inr rfl))) (fun _ _ _ _ _ => dts_nil) (fun _ _ _ _ _ => (xc G_law_integer_55dc8 hr (by rfl) (xa_cons (de_v 2) xa_nil))))) xa_nil)) (de_one (xe_cmp (opd_eq hr) (de_v 0) (de_v 1) (nomark _))))))))
theorem t_law_case_is_da430 {P : Program} {w : World} {K : PySem.W.Frag} {mg : Str → Option Value} {base : Heap} {f : Addr} {fd : FuncData} {k : Nat} (F : Fun K "_law_case_is" "_law_case_is" s_law_case_is_da430 f fd) (hb : Binds K fd ["found", "due"] []) (hm : mg "_law_case_is" = some (.ref f))
    (y_all : mg "all" = none)
    (y_isinstance : mg "isinstance" = none)
    (y_list : mg "list" = none)
    (G_law_integer_55dc8 : Has P w K mg base k "_law_integer" ["found"] (spD K g_law_integer_55dc8)) : Has P w K mg base (k + 1) "_law_case_is" ["found", "due"] (spD K g_law_case_is_da430) := ⟨f, fd, f_law_case_is_da430 F hb hm y_all y_isinstance y_list G_law_integer_55dc8, hb, hm, F.kp⟩
abbrev s_law_truth_badf5 : Stmt := top 78
theorem sc_law_truth_badf5 : FnScope ["found", "due"] ["found", "due"] (defScope s_law_truth_badf5) := ⟨rfl, rfl, rfl, by decide +kernel, rfl, by decide +kernel, by decide +kernel⟩
theorem f_law_truth_badf5 {P : Program} {w : World} {K : PySem.W.Frag} {mg : Str → Option Value} {base : Heap} {f : Addr} {fd : FuncData} {k : Nat} (F : Fun K "_law_truth" "_law_truth" s_law_truth_badf5 f fd) (hb : Binds K fd ["found", "due"] []) (hm : mg "_law_truth" = some (.ref f))
    (y_bool : mg "bool" = none)
    (y_isinstance : mg "isinstance" = none) : FnOk P w K mg base CX0 (k + 1) f fd ["found", "due"] (spD K g_law_truth_badf5) := fn_d F sc_law_truth_badf5 fun cdv A outer s H E hr =>
  (dss_one (ds_ret (de_and (xe_isi (n := "bool") (by decide) (by rfl) y_isinstance (by rfl) y_bool (by decide +kernel) (de_v 0)) (de_one (xe_cmp (opd_eq hr) (de_v 0) (de_v 1) (nomark _))))))
theorem t_law_truth_badf5 {P : Program} {w : World} {K : PySem.W.Frag} {mg : Str → Option Value} {base : Heap} {f : Addr} {fd : FuncData} {k : Nat} (F : Fun K "_law_truth" "_law_truth" s_law_truth_badf5 f fd) (hb : Binds K fd ["found", "due"] []) (hm : mg "_law_truth" = some (.ref f))
    (y_bool : mg "bool" = none)
    (y_isinstance : mg "isinstance" = none) : Has P w K mg base (k + 1) "_law_truth" ["found", "due"] (spD K g_law_truth_badf5) := ⟨f, fd, f_law_truth_badf5 F hb hm y_bool y_isinstance, hb, hm, F.kp⟩
abbrev s_law_asked_5fd05 : Stmt := top 79
theorem sc_law_asked_5fd05 : FnScope ["sizes", "one", "other", "ours", "theirs", "cases", "word", "due", "places", "found", "k"] ["sizes", "one", "other", "ours", "theirs", "cases", "word"] (defScope s_law_asked_5fd05) := ⟨rfl, rfl, rfl, by decide +kernel, rfl, by decide +kernel, by decide +kernel⟩
theorem f_law_asked_5fd05 {P : Program} {w : World} {K : PySem.W.Frag} {mg : Str → Option Value} {base : Heap} {f : Addr} {fd : FuncData} {k : Nat} (F : Fun K "_law_asked" "_law_asked" s_law_asked_5fd05 f fd) (hb : Binds K fd ["sizes", "one", "other", "ours", "theirs", "cases", "word"] []) (hm : mg "_law_asked" = some (.ref f))
    (y_all : mg "all" = none)
    (y_len : mg "len" = none)
    (y_list : mg "list" = none)
    (y_range : mg "range" = none)
    (G_alike : Has P w K mg base k "alike" ["sizes", "one", "other"] (spD K g_alike))
    (G_within : Has P w K mg base k "within" ["sizes", "one", "other"] (spD K g_within))
    (G_parting_case : Has P w K mg base k "parting_case" ["sizes", "one", "other"] (spD K g_parting_case))
    (G_q_parting_case : Has P w K mg base k "parting_case" ["sizes", "one", "other"] (spQ K g_q_parting_case))
    (G_count_parted : Has P w K mg base k "count_parted" ["sizes", "one", "other"] (spD K g_count_parted))
    (G_law_integer_55dc8 : Has P w K mg base k "_law_integer" ["found"] (spD K g_law_integer_55dc8))
    (G_law_case_is_da430 : Has P w K mg base k "_law_case_is" ["found", "due"] (spD K g_law_case_is_da430))
    (G_law_truth_badf5 : Has P w K mg base k "_law_truth" ["found", "due"] (spD K g_law_truth_badf5)) : FnOk P w K mg base CX0 (k + 1) f fd ["sizes", "one", "other", "ours", "theirs", "cases", "word"] (spD K g_law_asked_5fd05) := fn_d F sc_law_asked_5fd05 fun cdv A outer s H E hr =>
  (dss_cons (ds_if (xt_cmp (opd_eq hr) (de_v 6) de_int (nomark _))
    (dss_one (ds_ret (xc G_law_truth_badf5 hr (by rfl) (xa_cons (xc G_alike hr (by rfl) (xa_cons (xe_fr (xcTF cf_list (by rfl) y_list (by decide +kernel) (xa_cons (de_v 0) xa_nil))) (xa_cons (de_v 1) (xa_cons (de_v 2) xa_nil)))) (xa_cons (xe_cmp (opd_eq hr) (de_v 3) (de_v 4) (nomark _)) xa_nil)))))
    dss_nil)
  (dss_cons (ds_if (xt_cmp (opd_eq hr) (de_v 6) de_int (nomark _))
    (dss_cons (ds_set (i := 7) sc_law_asked_5fd05.nd rfl (by first | exact Or.inl rfl | exact Or.inr rfl) (xcB (cd_all rfl) (by rfl) y_all (by decide +kernel) (xa_cons (xe_fr (df_lc (own := [("k", 10)]) rfl sc_law_asked_5fd05.nd (xi_range1 (by rfl) y_range (xa_cons (xcB cd_len (by rfl) y_len (by decide +kernel) (xa_cons (de_v 3) xa_nil)) xa_nil)) (blkOk_by (by kernel_rfl)) (fun _ _ _ _ _ => (dg_name 10 sc_law_asked_5fd05.nd rfl (by first | exact Or.inl rfl | exact Or.inr rfl))) (fun _ _ _ _ _ => (dts_one (xt_tru (xe_ix (de_v 3) (de_v 10) (fun _ _ => rfl))))) (fun _ _ _ _ _ => (xe_ix (de_v 4) (de_v 10) (fun _ _ => rfl))))) xa_nil)))
  (dss_one (ds_ret (xc G_law_truth_badf5 hr (by rfl) (xa_cons (xc G_within hr (by rfl) (xa_cons (xe_fr (xcTF cf_list (by rfl) y_list (by decide +kernel) (xa_cons (de_v 0) xa_nil))) (xa_cons (de_v 1) (xa_cons (de_v 2) xa_nil)))) (xa_cons (de_v 7) xa_nil))))))
    dss_nil)
  (dss_cons (ds_setLc (i := 8) (own := [("k", 10)]) rfl sc_law_asked_5fd05.nd rfl rfl (sw_true rfl rfl rfl (by decide +kernel)) (xi_range1 (by rfl) y_range (xa_cons (xcB cd_len (by rfl) y_len (by decide +kernel) (xa_cons (de_v 3) xa_nil)) xa_nil)) (blkOk_by (by kernel_rfl)) (fun _ _ _ _ _ => (dg_name 10 sc_law_asked_5fd05.nd rfl (by first | exact Or.inl rfl | exact Or.inr rfl))) (fun _ _ _ _ _ => (dts_one (xt_cmp (opd_ne hr) (xe_ix (de_v 3) (de_v 10) (fun _ _ => rfl)) (xe_ix (de_v 4) (de_v 10) (fun _ _ => rfl)) (nomark _)))) (fun _ _ _ _ _ => (de_v 10)))
  (dss_cons (ds_if (xt_cmp (opd_eq hr) (de_v 6) de_int (nomark _))
    (dss_cons (ds_set (i := 9) sc_law_asked_5fd05.nd rfl (by first | exact Or.inl rfl | exact Or.inr rfl) (xc G_count_parted hr (by rfl) (xa_cons (xe_fr (xcTF cf_list (by rfl) y_list (by decide +kernel) (xa_cons (de_v 0) xa_nil))) (xa_cons (de_v 1) (xa_cons (de_v 2) xa_nil)))))
  (dss_one (ds_frz 9 (ds_ret (de_and (xc G_law_integer_55dc8 hr (by rfl) (xa_cons (de_v 9) xa_nil)) (de_one (xe_cmp (opd_eq hr) (de_v 9) (xcB cd_len (by rfl) y_len (by decide +kernel) (xa_cons (de_v 8) xa_nil)) (nomark _))))))))
    dss_nil)
  (dss_cons (ds_set (i := 7) sc_law_asked_5fd05.nd rfl (by first | exact Or.inl rfl | exact Or.inr rfl) (xe_ix (xe_op opd_add (xe_fr (df_lc (own := [("k", 10)]) rfl sc_law_asked_5fd05.nd (xi_seq (de_v 8)) (blkOk_by (by kernel_rfl)) (fun _ _ _ _ _ => (dg_name 10 sc_law_asked_5fd05.nd rfl (by first | exact Or.inl rfl | exact Or.inr rfl))) (fun _ _ _ _ _ => dts_nil) (fun _ _ _ _ _ => (xe_ix (de_v 5) (de_v 10) (fun _ _ => rfl))))) (xe_fr (xf_lst (xa_cons de_non xa_nil)))) de_int (fun _ _ => rfl)))
  (dss_cons (ds_setQ (i := 9) sc_law_asked_5fd05.nd rfl (by first | exact Or.inl rfl | exact Or.inr rfl) (dcQ G_q_parting_case hr (by rfl) (xa_cons (xe_fr (xcTF cf_list (by rfl) y_list (by decide +kernel) (xa_cons (de_v 0) xa_nil))) (xa_cons (de_v 1) (xa_cons (de_v 2) xa_nil)))))
  (dss_cons (ds_if (dt_peek (xt_not (xt_tru (xc G_law_case_is_da430 hr (by rfl) (xa_cons (de_v 9) (xa_cons (de_v 7) xa_nil))))))
    (dss_one (ds_ret de_bl))
    dss_nil)
  (dss_cons (ds_if (dt_peek (xt_cmp opd_isNot (de_v 9) de_non (nomark _)))
    (dss_one (ds_app 9 (te := _) (fun _ _ _ _ h => h) (ps_expr (pe_bm PySem.F.plainAttrs_list PySem.F.slot_list_append PySem.F.type_list_append mt_append (pv 9) (pa_cons ((show DE _ _ _ _ _ from de_int).pe rfl) pa_nil)))))
    dss_nil)
  (dss_one (ds_ret (xc G_law_case_is_da430 hr (by rfl) (xa_cons (xc G_parting_case hr (by rfl) (xa_cons (xe_fr (xcTF cf_list (by rfl) y_list (by decide +kernel) (xa_cons (de_v 0) xa_nil))) (xa_cons (de_v 1) (xa_cons (de_v 2) xa_nil)))) (xa_cons (de_v 7) xa_nil)))))))))))))
theorem t_law_asked_5fd05 {P : Program} {w : World} {K : PySem.W.Frag} {mg : Str → Option Value} {base : Heap} {f : Addr} {fd : FuncData} {k : Nat} (F : Fun K "_law_asked" "_law_asked" s_law_asked_5fd05 f fd) (hb : Binds K fd ["sizes", "one", "other", "ours", "theirs", "cases", "word"] []) (hm : mg "_law_asked" = some (.ref f))
    (y_all : mg "all" = none)
    (y_len : mg "len" = none)
    (y_list : mg "list" = none)
    (y_range : mg "range" = none)
    (G_alike : Has P w K mg base k "alike" ["sizes", "one", "other"] (spD K g_alike))
    (G_within : Has P w K mg base k "within" ["sizes", "one", "other"] (spD K g_within))
    (G_parting_case : Has P w K mg base k "parting_case" ["sizes", "one", "other"] (spD K g_parting_case))
    (G_q_parting_case : Has P w K mg base k "parting_case" ["sizes", "one", "other"] (spQ K g_q_parting_case))
    (G_count_parted : Has P w K mg base k "count_parted" ["sizes", "one", "other"] (spD K g_count_parted))
    (G_law_integer_55dc8 : Has P w K mg base k "_law_integer" ["found"] (spD K g_law_integer_55dc8))
    (G_law_case_is_da430 : Has P w K mg base k "_law_case_is" ["found", "due"] (spD K g_law_case_is_da430))
    (G_law_truth_badf5 : Has P w K mg base k "_law_truth" ["found", "due"] (spD K g_law_truth_badf5)) : Has P w K mg base (k + 1) "_law_asked" ["sizes", "one", "other", "ours", "theirs", "cases", "word"] (spD K g_law_asked_5fd05) := ⟨f, fd, f_law_asked_5fd05 F hb hm y_all y_len y_list y_range G_alike G_within G_parting_case G_q_parting_case G_count_parted G_law_integer_55dc8 G_law_case_is_da430 G_law_truth_badf5, hb, hm, F.kp⟩
abbrev s_law_k61 : Stmt := top 80
theorem sc_law_k61 : FnScope ["script", "cell", "most", "sizes", "cases", "one", "ours", "other", "theirs", "start", "k", "tree", "case"] ["script"] (defScope s_law_k61) := ⟨rfl, rfl, rfl, by decide +kernel, rfl, by decide +kernel, by decide +kernel⟩
theorem f_law_k61 {P : Program} {w : World} {K : PySem.W.Frag} {mg : Str → Option Value} {base : Heap} {f : Addr} {fd : FuncData} {k : Nat} (F : Fun K "law" "law" s_law_k61 f fd) (hb : Binds K fd ["script"] []) (hm : mg "law" = some (.ref f))
    (y_int : mg "int" = none)
    (y_list : mg "list" = none)
    (y_range : mg "range" = none)
    (G_ordered_tree : Has P w K mg base k "ordered_tree" ["sizes", "form"] (spD K g_ordered_tree))
    (G_law_cell_98eb9 : Has P w K mg base k "_law_cell" ["script", "k"] (spD K g_law_cell_98eb9))
    (G_law_draw_48e0b : Has P w K mg base k "_law_draw" ["cell", "k", "limit"] (spD K g_law_draw_48e0b))
    (G_law_sizes_48d55 : Has P w K mg base k "_law_sizes" ["cell", "more", "most"] (spD K g_law_sizes_48d55))
    (G_law_cases_72b18 : Has P w K mg base k "_law_cases" ["sizes"] (spD K g_law_cases_72b18))
    (G_law_part_518aa : Has P w K mg base k "_law_part" ["sizes", "cell"] (spD K g_law_part_518aa))
    (G_law_form_06328 : Has P w K mg base k "_law_form" ["sizes", "cells"] (spD K g_law_form_06328))
    (G_law_said_e4d74 : Has P w K mg base k "_law_said" ["sizes", "form", "case"] (spD K (g_law_said_e4d74 FU)))
    (G_law_second_9359c : Has P w K mg base k "_law_second" ["sizes", "form", "results", "cells"] (spD K g_law_second_9359c))
    (G_law_asked_5fd05 : Has P w K mg base k "_law_asked" ["sizes", "one", "other", "ours", "theirs", "cases", "word"] (spD K g_law_asked_5fd05)) : FnOk P w K mg base CX0 (k + 1) f fd ["script"] (spD K g_law_k61) := fn_d F sc_law_k61 fun cdv A outer s H E hr =>
  (dss_cons (ds_set (i := 1) sc_law_k61.nd rfl (by first | exact Or.inl rfl | exact Or.inr rfl) (xc G_law_cell_98eb9 hr (by rfl) (xa_cons (de_v 0) (xa_cons de_int xa_nil))))
  (dss_cons (ds_set (i := 2) sc_law_k61.nd rfl (by first | exact Or.inl rfl | exact Or.inr rfl) de_int)
  (dss_cons (ds_if (xt_cmp (opd_eq hr) (xc G_law_draw_48e0b hr (by rfl) (xa_cons (de_v 1) (xa_cons de_int (xa_cons de_int xa_nil)))) de_int (nomark _))
    (dss_one (ds_set (i := 2) sc_law_k61.nd rfl (by first | exact Or.inl rfl | exact Or.inr rfl) de_int))
    dss_nil)
  (dss_cons (ds_set (i := 3) sc_law_k61.nd rfl (by first | exact Or.inl rfl | exact Or.inr rfl) (xc G_law_sizes_48d55 hr (by rfl) (xa_cons (de_v 1) (xa_cons de_int (xa_cons (de_v 2) xa_nil)))))
  (dss_cons (ds_set (i := 4) sc_law_k61.nd rfl (by first | exact Or.inl rfl | exact Or.inr rfl) (xc G_law_cases_72b18 hr (by rfl) (xa_cons (de_v 3) xa_nil)))
  (dss_cons (ds_set (i := 5) sc_law_k61.nd rfl (by first | exact Or.inl rfl | exact Or.inr rfl) (xc G_law_form_06328 hr (by rfl) (xa_cons (de_v 3) (xa_cons (xe_fr (xf_slice (de_v 0) (xo_some de_int) (xo_some de_int))) xa_nil))))
  (dss_cons (ds_if (xt_cmp opd_gt (de_v 2) de_int (nomark _))
    (dss_one (ds_set (i := 5) sc_law_k61.nd rfl (by first | exact Or.inl rfl | exact Or.inr rfl) (xc G_law_part_518aa hr (by rfl) (xa_cons (de_v 3) (xa_cons (xc G_law_cell_98eb9 hr (by rfl) (xa_cons (de_v 0) (xa_cons de_int xa_nil))) xa_nil)))))
    dss_nil)
  (dss_cons (ds_setLc (i := 6) (own := [("case", 12)]) rfl sc_law_k61.nd rfl rfl (sw_true rfl rfl rfl (by decide +kernel)) (xi_seq (de_v 4)) (blkOk_by (by kernel_rfl)) (fun _ _ _ _ _ => (dg_name 12 sc_law_k61.nd rfl (by first | exact Or.inl rfl | exact Or.inr rfl))) (fun _ _ _ _ _ => dts_nil) (fun _ _ _ _ _ => (xc G_law_said_e4d74 hr (by rfl) (xa_cons (de_v 3) (xa_cons (de_v 5) (xa_cons (de_v 12) xa_nil))))))
  (dss_cons (ds_set (i := 7) sc_law_k61.nd rfl (by first | exact Or.inl rfl | exact Or.inr rfl) (xc G_law_second_9359c hr (by rfl) (xa_cons (de_v 3) (xa_cons (de_v 5) (xa_cons (de_v 6) (xa_cons (xe_fr (xf_slice (de_v 0) (xo_some de_int) (xo_some (xe_op opd_add de_int (xe_op opd_div (xe_op opd_mul de_int de_int) (de_v 2)))))) xa_nil))))))
  (dss_cons (ds_if (DW.pt (dw_and (xt_cmp opd_gt (de_v 2) de_int (nomark _)) (dw_and1 (xt_cmp (opd_eq hr) (xc G_law_draw_48e0b hr (by rfl) (xa_cons (de_v 1) (xa_cons de_int (xa_cons de_int xa_nil)))) de_int (nomark _)))))
    (dss_one (ds_set (i := 7) sc_law_k61.nd rfl (by first | exact Or.inl rfl | exact Or.inr rfl) (xc G_law_part_518aa hr (by rfl) (xa_cons (de_v 3) (xa_cons (xc G_law_cell_98eb9 hr (by rfl) (xa_cons (de_v 0) (xa_cons de_int xa_nil))) xa_nil)))))
    dss_nil)
  (dss_cons (ds_setLc (i := 8) (own := [("case", 12)]) rfl sc_law_k61.nd rfl rfl (sw_true rfl rfl rfl (by decide +kernel)) (xi_seq (de_v 4)) (blkOk_by (by kernel_rfl)) (fun _ _ _ _ _ => (dg_name 12 sc_law_k61.nd rfl (by first | exact Or.inl rfl | exact Or.inr rfl))) (fun _ _ _ _ _ => dts_nil) (fun _ _ _ _ _ => (xc G_law_said_e4d74 hr (by rfl) (xa_cons (de_v 3) (xa_cons (de_v 7) (xa_cons (de_v 12) xa_nil))))))
  (dss_cons (ds_if (xt_cmp (opd_eq hr) (xc G_law_draw_48e0b hr (by rfl) (xa_cons (de_v 1) (xa_cons de_int (xa_cons de_int xa_nil)))) de_int (nomark _))
    (dss_one (xs_asg (xe_tup (xa_cons (de_v 7) (xa_cons (de_v 5) (xa_cons (de_v 8) (xa_cons (de_v 6) xa_nil))))) (dg_tup (n := 4) rfl (dgs_cons (dg_name 5 sc_law_k61.nd rfl (by first | exact Or.inl rfl | exact Or.inr rfl)) (dgs_cons (dg_name 7 sc_law_k61.nd rfl (by first | exact Or.inl rfl | exact Or.inr rfl)) (dgs_cons (dg_name 6 sc_law_k61.nd rfl (by first | exact Or.inl rfl | exact Or.inr rfl)) (dgs_cons (dg_name 8 sc_law_k61.nd rfl (by first | exact Or.inl rfl | exact Or.inr rfl)) dgs_nil)))))))
    dss_nil)
  (dss_cons (ds_set (i := 9) sc_law_k61.nd rfl (by first | exact Or.inl rfl | exact Or.inr rfl) (xc G_law_draw_48e0b hr (by rfl) (xa_cons (de_v 1) (xa_cons de_int (xa_cons de_int xa_nil)))))
  (dss_cons (ds_for PassesOwn.never rfl (xi_range1 (by rfl) y_range (xa_cons de_int xa_nil)) (dg_name 10 sc_law_k61.nd rfl (by first | exact Or.inl rfl | exact Or.inr rfl))
    (dss_cons (ds_if (xt_not (xt_tru (xc G_law_asked_5fd05 hr (by rfl) (xa_cons (de_v 3) (xa_cons (de_v 5) (xa_cons (de_v 7) (xa_cons (de_v 6) (xa_cons (de_v 8) (xa_cons (de_v 4) (xa_cons (xe_op opd_mod (xcT cd_int (by rfl) y_int (by decide +kernel) (xa_cons (xe_op opd_add (de_v 9) (de_v 10)) xa_nil)) de_int) xa_nil))))))))))
    (dss_one (ds_ret de_bl))
    dss_nil)
  (dss_one (ds_if (xt_not (xt_tru (xc G_law_asked_5fd05 hr (by rfl) (xa_cons (de_v 3) (xa_cons (de_v 7) (xa_cons (de_v 5) (xa_cons (de_v 8) (xa_cons (de_v 6) (xa_cons (de_v 4) (xa_cons (xe_op opd_mod (xcT cd_int (by rfl) y_int (by decide +kernel) (xa_cons (xe_op opd_add (de_v 9) (xe_op opd_mul de_int (de_v 10))) xa_nil)) de_int) xa_nil))))))))))
    (dss_one (ds_ret de_bl))
    dss_nil))))
  (dss_cons (ds_if (xt_cmp opd_gt (de_v 2) de_int (nomark _))
    (dss_cons (ds_set (i := 11) sc_law_k61.nd rfl (by first | exact Or.inl rfl | exact Or.inr rfl) (xc G_ordered_tree hr (by rfl) (xa_cons (xe_fr (xcTF cf_list (by rfl) y_list (by decide +kernel) (xa_cons (de_v 3) xa_nil))) (xa_cons (de_v 5) xa_nil))))
  (dss_cons (ds_if (xt_not (xt_tru (xc G_law_asked_5fd05 hr (by rfl) (xa_cons (de_v 3) (xa_cons (de_v 11) (xa_cons (de_v 7) (xa_cons (de_v 6) (xa_cons (de_v 8) (xa_cons (de_v 4) (xa_cons (de_v 9) xa_nil))))))))))
    (dss_one (ds_ret de_bl))
    dss_nil)
  (dss_one (ds_ret (xc G_law_asked_5fd05 hr (by rfl) (xa_cons (de_v 3) (xa_cons (de_v 5) (xa_cons (de_v 11) (xa_cons (de_v 6) (xa_cons (de_v 6) (xa_cons (de_v 4) (xa_cons (xe_op opd_mod (xcT cd_int (by rfl) y_int (by decide +kernel) (xa_cons (xe_op opd_add (de_v 9) de_int) xa_nil)) de_int) xa_nil))))))))))))
    dss_nil)
  (dss_one (ds_ret (xc G_law_asked_5fd05 hr (by rfl) (xa_cons (de_v 3) (xa_cons (de_v 5) (xa_cons (de_v 5) (xa_cons (de_v 6) (xa_cons (de_v 6) (xa_cons (de_v 4) (xa_cons (de_v 9) xa_nil)))))))))))))))))))))))))
theorem t_law_k61 {P : Program} {w : World} {K : PySem.W.Frag} {mg : Str → Option Value} {base : Heap} {f : Addr} {fd : FuncData} {k : Nat} (F : Fun K "law" "law" s_law_k61 f fd) (hb : Binds K fd ["script"] []) (hm : mg "law" = some (.ref f))
    (y_int : mg "int" = none)
    (y_list : mg "list" = none)
    (y_range : mg "range" = none)
    (G_ordered_tree : Has P w K mg base k "ordered_tree" ["sizes", "form"] (spD K g_ordered_tree))
    (G_law_cell_98eb9 : Has P w K mg base k "_law_cell" ["script", "k"] (spD K g_law_cell_98eb9))
    (G_law_draw_48e0b : Has P w K mg base k "_law_draw" ["cell", "k", "limit"] (spD K g_law_draw_48e0b))
    (G_law_sizes_48d55 : Has P w K mg base k "_law_sizes" ["cell", "more", "most"] (spD K g_law_sizes_48d55))
    (G_law_cases_72b18 : Has P w K mg base k "_law_cases" ["sizes"] (spD K g_law_cases_72b18))
    (G_law_part_518aa : Has P w K mg base k "_law_part" ["sizes", "cell"] (spD K g_law_part_518aa))
    (G_law_form_06328 : Has P w K mg base k "_law_form" ["sizes", "cells"] (spD K g_law_form_06328))
    (G_law_said_e4d74 : Has P w K mg base k "_law_said" ["sizes", "form", "case"] (spD K (g_law_said_e4d74 FU)))
    (G_law_second_9359c : Has P w K mg base k "_law_second" ["sizes", "form", "results", "cells"] (spD K g_law_second_9359c))
    (G_law_asked_5fd05 : Has P w K mg base k "_law_asked" ["sizes", "one", "other", "ours", "theirs", "cases", "word"] (spD K g_law_asked_5fd05)) : Has P w K mg base (k + 1) "law" ["script"] (spD K g_law_k61) := ⟨f, fd, f_law_k61 F hb hm y_int y_list y_range G_ordered_tree G_law_cell_98eb9 G_law_draw_48e0b G_law_sizes_48d55 G_law_cases_72b18 G_law_part_518aa G_law_form_06328 G_law_said_e4d74 G_law_second_9359c G_law_asked_5fd05, hb, hm, F.kp⟩
end DL
namespace DL
open PySem PySem.Spec PyProof.Rows L2 Lk
/-! ## reckoning with readings -/
section
variable {α β : Type} {r r' : En} {m : M α} {k : α → M β} {a : α} {d e z : PyData} {ds es : List PyData} {i : Nat} {ma mb mc : M PyData} {ml : M (List PyData)} {mt mu : M Bool}
@[simp] theorem e_bind : M.bind m k r = (match m r with
  | some (.ok a r') => k a r'
  | some (.ex c p) => some (.ex c p)
  | none => none) := rfl
@[simp] theorem e_ret : (M.ret a : M α) r = some (.ok a r) := rfl
@[simp] theorem e_lift_some : (M.lift (some a) : M α) r = some (.ok a r) := rfl
@[simp] theorem e_lift_none : (M.lift none : M α) r = none := rfl
@[simp] theorem e_map {f : α → β} : M.map f m r = M.bind m (fun a => M.ret (f a)) r := rfl
@[simp] theorem e_V : mV i r = (match r[i]? with
  | some (.pl d) => some (.ok d r)
  | _ => none) := rfl
@[simp] theorem e_op2 {g : PyData → PyData → Option PyData} : mOp2 g ma mb r = M.bind ma (fun d => mb.bind fun e => M.lift (g d e)) r := rfl
@[simp] theorem e_opT {g : PyData → PyData → Option PyData} : mOpT g ma mb r = M.bind ma (fun d => mb.bind fun e => M.lift ((g d e).bind asBool)) r := rfl
@[simp] theorem e_cons : mCons ma ml r = M.bind ma (fun d => ml.bind fun ds => M.ret (d :: ds)) r := rfl
@[simp] theorem e_nil : mNil r = some (.ok [] r) := rfl
@[simp] theorem e_call {g : List PyData → Option PyData} : mCall g ml r = M.bind ml (fun ds => M.lift (g ds)) r := rfl
@[simp] theorem e_callK {gD : List PyData → List PyData} {g : List PyData → Option PyData} : mCallK gD g ml r = M.bind ml (fun ds => M.lift (g (gD ds))) r := rfl
@[simp] theorem e_callF {g : List PyData → Option (List PyData)} : mCallF g ml r = M.bind ml (fun ds => M.lift (g ds)) r := rfl
@[simp] theorem e_tup : mTup ml r = M.bind ml (fun ds => M.lift (tupM ds)) r := rfl
@[simp] theorem e_lst : mLst ml r = M.bind ml (fun ds => M.lift (lstM ds)) r := rfl
@[simp] theorem e_new : mNew ml r = M.bind ml (fun ds => M.ret (.list ds)) r := rfl
@[simp] theorem e_val : mVal ma r = M.bind ma (fun d => M.lift (asBool d)) r := rfl
@[simp] theorem e_tru : mTru ma r = M.bind ma (fun d => M.lift (truD d)) r := rfl
@[simp] theorem e_notT : mNotT mt r = M.bind mt (fun b => M.ret (!b)) r := rfl
@[simp] theorem e_notV : mNotV ma r = M.bind ma (fun d => (M.lift (asBool d)).bind fun b => M.ret (.bool (!b))) r := rfl
@[simp] theorem e_isi {n : String} : mIsi n ma r = M.bind ma (fun d => M.ret (.bool (isTy n d))) r := rfl
@[simp] theorem e_neg : mNeg ma r = M.bind ma (fun d => M.lift (negM d)) r := rfl
@[simp] theorem e_seqI : mSeq ma r = M.bind ma (fun d => M.lift (asSeq d)) r := rfl
@[simp] theorem e_rng1 : mRng1 ml r = (match ml r with
  | some (.ok [d] r') => M.lift (rngM [d]) r'
  | some (.ok _ _) => none
  | some (.ex c p) => some (.ex c p)
  | none => none) := by
  unfold mRng1 M.bind
  cases ml r with
  | none => rfl
  | some o =>
    cases o with
    | ex c p => rfl
    | ok ds r' =>
      dsimp only
      match ds with
      | [] => rfl
      | [d] => rw [if_pos (show [d].length = 1 from rfl)]
      | _ :: _ :: _ => rw [if_neg (by simp)]; rfl
@[simp] theorem e_rng2 : mRng2 ml r = (match ml r with
  | some (.ok [d, e] r') => M.lift (rngM [d, e]) r'
  | some (.ok _ _) => none
  | some (.ex c p) => some (.ex c p)
  | none => none) := by
  unfold mRng2 M.bind
  cases ml r with
  | none => rfl
  | some o =>
    cases o with
    | ex c p => rfl
    | ok ds r' =>
      dsimp only
      match ds with
      | [] => rfl
      | [_] => rw [if_neg (by simp)]; rfl
      | [d, e] => rw [if_pos (show [d, e].length = 2 from rfl)]
      | _ :: _ :: _ :: _ => rw [if_neg (by simp)]; rfl
@[simp] theorem e_part : mPart ma r = M.bind ma (fun d => M.lift ((asInt d).map some)) r := rfl
@[simp] theorem e_nopart : mNoPart r = some (.ok none r) := rfl
@[simp] theorem e_slice {mlo mhi : M (Option Int)} : mSlice ma mlo mhi r = M.bind ma (fun d => mlo.bind fun l => mhi.bind fun h => M.lift ((asList d).map fun ds => cutD ds l h)) r := rfl
@[simp] theorem e_star : mStar ma ml r = M.bind ma (fun d => (M.lift (asSeq d)).bind fun xs => ml.bind fun ds => M.ret (xs ++ ds)) r := rfl
@[simp] theorem e_rep : mRep ml mb r = M.bind ml (fun xs => mb.bind fun d => M.lift (repM xs d)) r := rfl
@[simp] theorem e_and : mAnd mt mu r = M.bind mt (fun b => if b then mu else M.ret false) r := rfl
@[simp] theorem e_or : mOr mt mu r = M.bind mt (fun b => if b then M.ret true else mu) r := rfl
@[simp] theorem e_andV : mAndV ma mb r = M.bind ma (fun d => (M.lift (asBool d)).bind fun b => if b then mb else M.ret (.bool false)) r := rfl
@[simp] theorem e_orV : mOrV ma mb r = M.bind ma (fun d => (M.lift (asBool d)).bind fun b => if b then M.ret (.bool true) else mb) r := rfl
@[simp] theorem e_if {m n : M α} : mIf mt m n r = M.bind mt (fun b => if b then m else n) r := rfl
@[simp] theorem e_chain {f g : PyData → PyData → Option PyData} : mChain f g ma mb mc r = M.bind ma (fun d => mb.bind fun e => (M.lift ((f d e).bind asBool)).bind fun k => if k then mc.bind fun h => M.lift ((g e h).bind fun z => (asBool z).map PyData.bool) else M.ret (.bool false)) r := rfl
@[simp] theorem e_mt {T : String} {g : PyData → List PyData → Option PyData} : mMt T g ma ml r = M.bind ma (fun d => if hasT T d then ml.bind fun ds => M.lift (g d ds) else fun _ => none) r := rfl
@[simp] theorem e_lrng1 : mLRng1 ma r = M.bind ma (fun d => M.lift ((asInt d).bind fun n => if n.natAbs ≤ 1000000 then some (rngL 0 n.toNat) else none)) r := rfl
@[simp] theorem e_lenO : mLenO i r = (match ownOf r[i]? with
  | some ds => some (.ok (.int ds.length) r)
  | none => none) := rfl
@[simp] theorem e_ixO : mIxO i ma r = if (ownOf r[i]?).isSome then (ma.bind fun d r => match ownOf r[i]?, asInt d with
  | some ds, some j => (atI ds j).map fun z => .ok z r
  | _, _ => none) r else none := rfl
@[simp] theorem e_truO : mTruO i r = (match ownOf r[i]? with
  | some ds => some (.ok (!ds.isEmpty) r)
  | none => none) := rfl
@[simp] theorem e_pop : mPop i r = (match ownOf r[i]? with
  | some ds => (ds[ds.length - 1]?).map fun z => .ok z (upO i ds.dropLast r)
  | none => none) := rfl
@[simp] theorem e_own_ow : ownOf (some (.ow ds)) = some ds := rfl
@[simp] theorem e_own_io : ownOf (some (.io ds)) = some ds := rfl
@[simp] theorem e_asBool {b : Bool} : asBool (.bool b) = some b := rfl
@[simp] theorem e_asInt {b : Int} : asInt (.int b) = some b := rfl
@[simp] theorem e_asList : asList (.list ds) = some ds := rfl
@[simp] theorem e_asTup : asTup (.tuple ds) = some ds := rfl
@[simp] theorem e_asSeqL : asSeq (.list ds) = some ds := rfl
@[simp] theorem e_asSeqT : asSeq (.tuple ds) = some ds := rfl
@[simp] theorem e_truB {b : Bool} : truD (.bool b) = some b := rfl
@[simp] theorem e_truL : truD (.list ds) = some (!ds.isEmpty) := rfl
@[simp] theorem e_truT : truD (.tuple ds) = some (!ds.isEmpty) := rfl
@[simp] theorem e_addI {a b : Int} : addM (.int a) (.int b) = some (.int (a + b)) := rfl
@[simp] theorem e_subI {a b : Int} : subM (.int a) (.int b) = some (.int (a - b)) := rfl
@[simp] theorem e_ltI {a b : Int} : ltM (.int a) (.int b) = some (.bool (decide (a < b))) := rfl
@[simp] theorem e_leI {a b : Int} : leM (.int a) (.int b) = some (.bool (decide (a ≤ b))) := rfl
@[simp] theorem e_gtI {a b : Int} : gtM (.int a) (.int b) = some (.bool (decide (b < a))) := rfl
@[simp] theorem e_geI {a b : Int} : geM (.int a) (.int b) = some (.bool (decide (b ≤ a))) := rfl
@[simp] theorem e_eqI {a b : Int} : eqM (.int a) (.int b) = some (.bool (a == b)) := rfl
@[simp] theorem e_neI {a b : Int} : neM (.int a) (.int b) = some (.bool (!(a == b))) := rfl
@[simp] theorem e_eqB {a b : Bool} : eqM (.bool a) (.bool b) = some (.bool (a == b)) := rfl
@[simp] theorem e_neB {a b : Bool} : neM (.bool a) (.bool b) = some (.bool (!(a == b))) := rfl
@[simp] theorem e_isN : isM d .none = some (.bool (isNone d)) := rfl
@[simp] theorem e_isNotN : isNotM d .none = some (.bool (!isNone d)) := rfl
@[simp] theorem e_isNone : isNone .none = true := rfl
@[simp] theorem e_isNoneI {a : Int} : isNone (.int a) = false := rfl
@[simp] theorem e_isNoneB {a : Bool} : isNone (.bool a) = false := rfl
@[simp] theorem e_isNoneT : isNone (.tuple ds) = false := rfl
@[simp] theorem e_isNoneL : isNone (.list ds) = false := rfl
@[simp] theorem e_lenL : lenM [.list ds] = some (.int ds.length) := rfl
@[simp] theorem e_lenT : lenM [.tuple ds] = some (.int ds.length) := rfl
@[simp] theorem e_intI {a : Int} : intM [.int a] = some (.int a) := rfl
@[simp] theorem e_intB {b : Bool} : intM [.bool b] = some (.int (if b then 1 else 0)) := rfl
@[simp] theorem e_tupleL : tupleM [.list ds] = some (.tuple ds) := rfl
@[simp] theorem e_tupleT : tupleM [.tuple ds] = some (.tuple ds) := rfl
@[simp] theorem e_listL : listM [.list ds] = some ds := rfl
@[simp] theorem e_listT : listM [.tuple ds] = some ds := rfl
@[simp] theorem e_negI {a : Int} : negM (.int a) = some (.int (-a)) := rfl
@[simp] theorem e_tup0 : tupM [] = some (.tuple []) := rfl
@[simp] theorem e_tup1 : tupM [d] = some (.tuple [d]) := rfl
@[simp] theorem e_tup2 : tupM [d, e] = some (.tuple [d, e]) := rfl
@[simp] theorem e_tup3 : tupM [d, e, z] = some (.tuple [d, e, z]) := rfl
@[simp] theorem e_tup4 {y : PyData} : tupM [d, e, z, y] = some (.tuple [d, e, z, y]) := rfl
@[simp] theorem e_lst0 : lstM [] = some [] := rfl
@[simp] theorem e_lst1 : lstM [d] = some [d] := rfl
@[simp] theorem e_lst2 : lstM [d, e] = some [d, e] := rfl
@[simp] theorem e_lst3 : lstM [d, e, z] = some [d, e, z] := rfl
@[simp] theorem e_ixL {j : Int} : ixM (.list ds) (.int j) = atI ds j := rfl
@[simp] theorem e_ixT {j : Int} : ixM (.tuple ds) (.int j) = atI ds j := rfl
@[simp] theorem e_isTyInt {a : Int} : isTy "int" (.int a) = true := rfl
@[simp] theorem e_isTyIntB {a : Bool} : isTy "int" (.bool a) = true := rfl
@[simp] theorem e_isTyBoolI {a : Int} : isTy "bool" (.int a) = false := rfl
@[simp] theorem e_isTyBool {a : Bool} : isTy "bool" (.bool a) = true := rfl
@[simp] theorem e_isTyList : isTy "list" (.list ds) = true := rfl
@[simp] theorem e_isTyListT : isTy "list" (.tuple ds) = false := rfl
@[simp] theorem e_isTyTuple : isTy "tuple" (.tuple ds) = true := rfl
@[simp] theorem e_isTyStr {x : Str} : isTy "str" (.str x) = true := rfl
@[simp] theorem e_isTyIntN : isTy "int" .none = false := rfl
@[simp] theorem e_isTyBoolN : isTy "bool" .none = false := rfl
@[simp] theorem e_hasTL : hasT "list" (.list ds) = true := rfl
@[simp] theorem e_asBoolMap {b : Bool} : (asBool (.bool b)).map PyData.bool = some (.bool b) := rfl
theorem e_mulI {a b : Int} (ha : a.natAbs < 2 ^ 1000) (hb : b.natAbs < 2 ^ 1000) : mulM (.int a) (.int b) = some (.int (a * b)) := by
  have h1 := PySem.Flt.log2_lt_of (by decide : 0 < 1000) ha
  have h2 := PySem.Flt.log2_lt_of (by decide : 0 < 1000) hb
  show (if _ then _ else _) = _
  rw [if_pos (by omega)]
theorem e_divI {a b : Int} (h : 0 < b) (hb : b.natAbs < 2 ^ 1000) : divM (.int a) (.int b) = some (.int (a / b)) := by
  have h2 := PySem.Flt.log2_lt_of (by decide : 0 < 1000) hb
  show (if _ then _ else _) = _
  rw [if_pos ⟨h, by omega⟩]
theorem e_modI {a b : Int} (h : 0 < b) : modM (.int a) (.int b) = some (.int (a % b)) := by
  show (if _ then _ else _) = _
  rw [if_pos h]
theorem e_shrI {a b : Int} (h : 0 ≤ b) : shrM (.int a) (.int b) = some (.int (a / 2 ^ b.toNat)) := by
  show (if _ then _ else _) = _
  rw [if_pos h]
theorem e_addL (h : ds.length + es.length ≤ 1000000) : addM (.list ds) (.list es) = some (.list (ds ++ es)) := by
  show (if _ then _ else _) = _
  rw [if_pos h]
theorem e_addT (h : ds.length + es.length ≤ 1000000) (hn : ds ≠ []) : addM (.tuple ds) (.tuple es) = some (.tuple (ds ++ es)) := by
  show (if _ then _ else (if _ then _ else _)) = _
  rw [if_neg (by cases ds; exact absurd rfl hn; exact Bool.false_ne_true), if_pos h]
theorem e_at {xs : List α} {j : Nat} {v : α} (h : xs[j]? = some v) : atI xs (j : Int) = some v := atI_nat h
@[simp] theorem e_at0 {x : α} {xs : List α} : atI (x :: xs) 0 = some x := atI_nat (j := 0) rfl
@[simp] theorem e_at1 {x y : α} {xs : List α} : atI (x :: y :: xs) 1 = some y := atI_nat (j := 1) rfl
@[simp] theorem e_at2 {x y w : α} {xs : List α} : atI (x :: y :: w :: xs) 2 = some w := atI_nat (j := 2) rfl
@[simp] theorem e_asum {ns : List Int} : sumM [.list (ns.map PyData.int)] = some (.int ns.sum) := by
  show (intsOf _).map _ = _
  rw [intsOf_map]
  rfl
@[simp] theorem e_all {bs : List Bool} : allM [.list (bs.map PyData.bool)] = some (.bool (bs.all id)) := by
  show (boolsOf _).map _ = _
  rw [boolsOf_map]
  rfl
@[simp] theorem e_any {bs : List Bool} : anyM [.list (bs.map PyData.bool)] = some (.bool (bs.any id)) := by
  show (boolsOf _).map _ = _
  rw [boolsOf_map]
  rfl
end
/-! ### statements -/
section
variable {α : Type} {r r' : En} {m : M α} {k : α → SM} {a b : SM} {mc : M Bool} {ma mb : M PyData} {ml : M (List PyData)} {i j : Nat} {d : PyData} {ds : List PyData}
@[simp] theorem s_bind : sBind m k r = (match m r with
  | some (.ok a r') => k a r'
  | some (.ex c p) => some (.ex c p)
  | none => none) := rfl
@[simp] theorem s_nil : sNil r = some (.nx r) := rfl
@[simp] theorem s_seq : sSeq a b r = (match a r with
  | some (.nx r') => b r'
  | o => o) := rfl
@[simp] theorem s_expr : sExpr ma r = sBind ma (fun _ => sNil) r := rfl
@[simp] theorem s_ret : sRet ma r = sBind ma (fun d r => some (.rt d r)) r := rfl
@[simp] theorem s_retN : sRetN r = some (.rt .none r) := rfl
@[simp] theorem s_if : sIf mc a b r = sBind mc (fun k => if k then a else b) r := rfl
@[simp] theorem s_put : sPut i d r = (match r[i]? with
  | some (.io _) => none
  | some _ => some (.nx (r.set i (.pl d)))
  | none => none) := rfl
@[simp] theorem s_set : sSet i ma r = sBind ma (sPut i) r := rfl
@[simp] theorem s_putO : sPutO i ds r = (match r[i]? with
  | some (.io _) => none
  | some _ => some (.nx (r.set i (.ow ds)))
  | none => none) := rfl
@[simp] theorem s_own : sOwn i ml r = sBind ml (sPutO i) r := rfl
@[simp] theorem s_frz : sFrz i a r = (match r[i]? with
  | some (.ow ds) => a (r.set i (.pl (.list ds)))
  | _ => a r) := rfl
@[simp] theorem s_app : sApp i ma r = if (ownOf r[i]?).isSome then sBind ma (fun d r => match ownOf r[i]? with
  | some ds => if ds.length ≤ 1000000 then some (.nx (upO i (ds ++ [d]) r)) else none
  | none => none) r else none := rfl
@[simp] theorem s_putIx : sPutIx i ma mb r = sBind mb (fun d r1 => if (ownOf r1[i]?).isSome then sBind ma (fun j r => match ownOf r[i]?, asInt j with
  | some ds, some j => (ixN ds.length j).map fun n => .nx (upO i (ds.set n d) r)
  | _, _ => none) r1 else none) r := rfl
@[simp] theorem s_par : sPar i j ml r = sBind ml (fun ds r => match ds with
  | [d, e] => sSeq (sPut i d) (sPut j e) r
  | _ => none) r := rfl
@[simp] theorem s_asg {g : PyData → En → Option En} : sAsg ma g r = sBind ma (fun d r => (g d r).map .nx) r := rfl
@[simp] theorem s_ext : sExt i ma r = if (ownOf r[i]?).isSome then sBind ma (fun d r => match ownOf r[i]?, asTup d with
  | some ds, some es => if ds.length + es.length ≤ 1000000 then some (.nx (upO i (ds ++ es) r)) else none
  | _, _ => none) r else none := rfl
@[simp] theorem s_no : sNo r = none := rfl
@[simp] theorem s_brk : sBrk r = some (.bk r) := rfl
@[simp] theorem s_cont : sCont r = some (.ct r) := rfl
@[simp] theorem s_upO : upO i ds r = (match r[i]? with
  | some c => r.set i (reOwn ds c)
  | none => r) := rfl
@[simp] theorem s_re_ow {es : List PyData} : reOwn ds (.ow es) = .ow ds := rfl
@[simp] theorem s_re_io {es : List PyData} : reOwn ds (.io es) = .io ds := rfl
@[simp] theorem o_rt : outD (some (.rt d r)) = some d := rfl
@[simp] theorem o_nx : outD (some (.nx r)) = some .none := rfl
@[simp] theorem s_gN : gN i d r = (match r[i]? with
  | some c => if c.own then none else some (r.set i (.pl d))
  | none => none) := rfl
@[simp] theorem s_ownU : Cel.own .un = false := rfl
@[simp] theorem s_ownP : Cel.own (.pl d) = false := rfl
@[simp] theorem s_gTup {n : Nat} {g : List PyData → En → Option En} {es : List PyData} : gTupD n g (.tuple es) r = if es.length = n then g es r else none := rfl
@[simp] theorem s_gCons {g : PyData → En → Option En} {h : List PyData → En → Option En} {es : List PyData} : gConsD g h (d :: es) r = (g d r).bind (h es) := rfl
@[simp] theorem s_gNil : gNilD [] r = some r := rfl
@[simp] theorem s_wipe0 : wipeE r [] = r := rfl
@[simp] theorem s_wipeS {vs : List Nat} : wipeE r (i :: vs) = (wipeE r vs).set i .un := rfl
end
/-! ## comprehensions -/
theorem restE_wipe {r : En} : ∀ {vs : List Nat} {r' : En}, r'.length = r.length → (∀ j, j ∉ vs → r'[j]? = r[j]?) → restE r r' vs = r
  | [], r', hl, h => List.ext_getElem? fun j => h j (by simp)
  | v :: vs, r', hl, h => by
    show (restE r (r'.set v .un) vs).set v ((r[v]?).getD .un) = r
    by_cases hv : v < r.length
    · have e : r[v]? = some r[v] := List.getElem?_eq_getElem hv
      -- the slot v first restored, then the others
      have key : ∀ {vs : List Nat} {r' : En}, r'.length = r.length → (∀ j, j ∉ vs → j ≠ v → r'[j]? = r[j]?) → (restE r r' vs).set v r[v] = r := by
        intro vs
        induction vs with
        | nil =>
          intro r' hl h
          show r'.set v r[v] = r
          refine List.ext_getElem? fun j => ?_
          by_cases z : v = j
          · subst z
            rw [List.getElem?_set_self (by omega), e]
          · rw [List.getElem?_set_ne z]
            exact h j (by simp) (Ne.symm z)
        | cons w ws ih =>
          intro r' hl h
          show ((restE r (r'.set w .un) ws).set w ((r[w]?).getD .un)).set v r[v] = r
          have step : (restE r (r'.set w .un) ws).set v r[v] = r ∨ w ∉ ws := by
            by_cases hw : w ∈ ws
            · exact .inl (ih (by rw [List.length_set]; exact hl) fun j hj hjv => by
                rw [List.getElem?_set_ne fun z => hj (by rw [← z]; exact hw)]
                exact h j (by
                  rw [List.mem_cons, not_or]
                  exact ⟨fun z => hj (by rw [z]; exact hw), hj⟩) hjv)
            · exact .inr hw
          have lenR : ∀ {vs : List Nat} {r' : En}, (restE r r' vs).length = r'.length := by
            intro vs
            induction vs with
            | nil => intro r'; rfl
            | cons a l ih => intro r'; show ((restE r (r'.set a .un) l).set a _).length = _; rw [List.length_set, ih, List.length_set]
          have outR : ∀ {vs : List Nat} {r' : En} {j : Nat}, j ∉ vs → (restE r r' vs)[j]? = r'[j]? := by
            intro vs
            induction vs with
            | nil => intro r' j _; rfl
            | cons a l ih =>
              intro r' j hj
              rw [List.mem_cons, not_or] at hj
              show ((restE r (r'.set a .un) l).set a _)[j]? = _
              rw [List.getElem?_set_ne (Ne.symm hj.1), ih hj.2, List.getElem?_set_ne (Ne.symm hj.1)]
          have inR : ∀ {vs : List Nat} {r' : En} {j : Nat}, r'.length = r.length → j ∈ vs → (restE r r' vs)[j]? = r[j]? := by
            intro vs
            induction vs with
            | nil => intro r' j _ hj; cases hj
            | cons a l ih =>
              intro r' j hl hj
              show ((restE r (r'.set a .un) l).set a ((r[a]?).getD .un))[j]? = _
              by_cases z : a = j
              · subst z
                by_cases hb : a < r.length
                · rw [List.getElem?_set_self (by rw [lenR, List.length_set, hl]; exact hb), List.getElem?_eq_getElem hb]
                  rfl
                · rw [List.getElem?_eq_none (by rw [List.length_set, lenR, List.length_set, hl]; omega), List.getElem?_eq_none (by omega)]
              · rw [List.getElem?_set_ne z]
                exact ih (by rw [List.length_set]; exact hl) ((List.mem_cons.mp hj).resolve_left (Ne.symm z))
          refine List.ext_getElem? fun j => ?_
          by_cases z : v = j
          · subst z
            rw [List.getElem?_set_self (by rw [List.length_set, lenR, List.length_set, hl]; exact hv), e]
          · rw [List.getElem?_set_ne z]
            by_cases hj : j ∈ w :: ws
            · exact inR (vs := w :: ws) hl hj
            · show (restE r r' (w :: ws))[j]? = _
              rw [outR hj]
              exact h j hj (Ne.symm z)
      rw [e]
      exact key (by rw [List.length_set]; exact hl) fun j hj hjv => by
        rw [List.getElem?_set_ne (Ne.symm hjv)]
        exact h j (by rw [List.mem_cons, not_or]; exact ⟨hjv, hj⟩)
    · rw [List.set_eq_of_length_le]
      · have hv' : r'.set v .un = r' := List.set_eq_of_length_le (by omega)
        rw [hv']
        refine restE_wipe hl fun j hj => ?_
        by_cases z : j = v
        · subst z
          rw [List.getElem?_eq_none (by omega), List.getElem?_eq_none (by omega)]
        · exact h j (by rw [List.mem_cons, not_or]; exact ⟨z, hj⟩)
      · have lenR : ∀ {vs : List Nat} {r' : En}, (restE r r' vs).length = r'.length := by
          intro vs
          induction vs with
          | nil => intro r'; rfl
          | cons a l ih => intro r'; show ((restE r (r'.set a .un) l).set a _).length = _; rw [List.length_set, ih, List.length_set]
        rw [lenR, List.length_set]
        omega
theorem wipeE_length {r : En} : ∀ {vs : List Nat}, (wipeE r vs).length = r.length
  | [] => rfl
  | v :: vs => by rw [s_wipeS, List.length_set, wipeE_length]
theorem wipeE_out {r : En} {j : Nat} : ∀ {vs : List Nat}, j ∉ vs → (wipeE r vs)[j]? = r[j]?
  | [], _ => rfl
  | v :: vs, h => by
    rw [List.mem_cons, not_or] at h
    rw [s_wipeS, List.getElem?_set_ne (Ne.symm h.1), wipeE_out h.2]
theorem lcGo_pure {vs : List Nat} {g : PyData → En → Option En} {mt : M Bool} {me : M PyData} {p : PyData → Bool} {f : PyData → PyData} {e : PyData → En} : ∀ {items : List PyData} {r : En}, (∀ x ∈ items, g x (wipeE r vs) = some (e x)) → (∀ x ∈ items, wipeE (e x) vs = wipeE r vs) →
    (∀ x ∈ items, mt (e x) = some (.ok (p x) (e x))) → (∀ x ∈ items, p x = true → me (e x) = some (.ok (f x) (e x))) → lcGo vs g mt me items r = some ((items.filter p).map f, wipeE r vs)
  | [], _, _, _, _, _ => rfl
  | x :: xs, r, hg, hw, ht, he => by
    have h1 := hg x (List.mem_cons_self ..)
    have h2 := ht x (List.mem_cons_self ..)
    have h3 := hw x (List.mem_cons_self ..)
    have ih := lcGo_pure (vs := vs) (g := g) (mt := mt) (me := me) (p := p) (f := f) (e := e) (items := xs) (r := e x) (fun y hy => by rw [h3]; exact hg y (List.mem_cons_of_mem _ hy)) (fun y hy => by rw [h3]; exact hw y (List.mem_cons_of_mem _ hy))
      (fun y hy => ht y (List.mem_cons_of_mem _ hy)) fun y hy => he y (List.mem_cons_of_mem _ hy)
    show (g x (wipeE r vs)).bind _ = _
    rw [h1]
    show (match mt (e x) with
      | some (.ok true r2) => (match me r2 with
        | some (.ok d r3) => (lcGo vs g mt me xs r3).map fun (z : List PyData × En) => (d :: z.1, z.2)
        | _ => none)
      | some (.ok false r2) => lcGo vs g mt me xs r2
      | _ => none) = _
    rw [h2]
    cases hp : p x with
    | false =>
      show lcGo vs g mt me xs (e x) = _
      rw [ih, h3, List.filter_cons, if_neg (by rw [hp]; exact Bool.false_ne_true)]
    | true =>
      have h4 := he x (List.mem_cons_self ..) hp
      show (match me (e x) with
        | some (.ok d r3) => (lcGo vs g mt me xs r3).map fun (z : List PyData × En) => (d :: z.1, z.2)
        | _ => none) = _
      rw [h4]
      show (lcGo vs g mt me xs (e x)).map (fun (z : List PyData × En) => (f x :: z.1, z.2)) = _
      rw [ih, h3, List.filter_cons, if_pos hp]
      rfl
/-- [f x for x in items if p x], the names as they were -/
theorem lc_pure {vs : List Nat} {mi : M (List PyData)} {g : PyData → En → Option En} {mt : M Bool} {me : M PyData} {r0 r : En} {items : List PyData} (p : PyData → Bool) (f : PyData → PyData) (e : PyData → En) (hi : mi r0 = some (.ok items r)) (hf : freeAt r vs = true) (hl : items.length ≤ 1000000)
    (hg : ∀ x ∈ items, g x (wipeE r vs) = some (e x)) (hw : ∀ x ∈ items, wipeE (e x) vs = wipeE r vs) (ht : ∀ x ∈ items, mt (e x) = some (.ok (p x) (e x))) (he : ∀ x ∈ items, p x = true → me (e x) = some (.ok (f x) (e x))) :
    mLc vs mi g mt me r0 = some (.ok ((items.filter p).map f) r) := by
  unfold mLc M.bind
  rw [hi]
  dsimp only
  rw [hf, decide_eq_true hl, lcGo_pure hg hw ht he]
  show some (Out.ok _ (restE r (wipeE r vs) vs)) = _
  rw [restE_wipe wipeE_length fun j hj => wipeE_out hj]
theorem filter_true {α : Type} {l : List α} : l.filter (fun _ => true) = l := List.filter_eq_self.mpr fun _ _ => rfl
theorem lc_map {vs : List Nat} {mi : M (List PyData)} {g : PyData → En → Option En} {me : M PyData} {r0 r : En} {items : List PyData} (f : PyData → PyData) (e : PyData → En) (hi : mi r0 = some (.ok items r)) (hf : freeAt r vs = true) (hl : items.length ≤ 1000000)
    (hg : ∀ x ∈ items, g x (wipeE r vs) = some (e x)) (hw : ∀ x ∈ items, wipeE (e x) vs = wipeE r vs) (he : ∀ x ∈ items, me (e x) = some (.ok (f x) (e x))) :
    mLc vs mi g mYes me r0 = some (.ok (items.map f) r) := by
  have := lc_pure (vs := vs) (mi := mi) (g := g) (mt := mYes) (me := me) (fun _ => true) f e hi hf hl hg hw (fun _ _ => rfl) fun x hx _ => he x hx
  rw [filter_true] at this
  exact this
/-! ## loops -/
theorem forGo_nil {g : PyData → En → Option En} {b : SM} {r : En} : forGo g b [] r = some (.nx r) := rfl
theorem forGo_cons {g : PyData → En → Option En} {b : SM} {r : En} {x : PyData} {xs : List PyData} : forGo g b (x :: xs) r = (g x r).bind fun r1 => match b r1 with
    | some (.nx r2) => forGo g b xs r2
    | some (.ct r2) => forGo g b xs r2
    | some (.bk r2) => some (.nx r2)
    | o => o := rfl
/-- a loop without a way out: a state that is carried along -/
theorem forGo_fold {β : Type} {g : PyData → En → Option En} {b : SM} (enc : β → En) (step : β → PyData → β) (I : β → List PyData → Prop) : ∀ {items : List PyData} {s : β}, I s items → (∀ s x xs, I s (x :: xs) → ∃ r1, g x (enc s) = some r1 ∧ b r1 = some (.nx (enc (step s x))) ∧ I (step s x) xs) →
    forGo g b items (enc s) = some (.nx (enc (items.foldl step s)))
  | [], _, _, _ => rfl
  | x :: xs, s, h0, h => by
    obtain ⟨r1, h1, h2, h3⟩ := h s x xs h0
    rw [forGo_cons, h1]
    show (match b r1 with
      | some (.nx r2) => forGo g b xs r2
      | some (.ct r2) => forGo g b xs r2
      | some (.bk r2) => some (.nx r2)
      | o => o) = _
    rw [h2]
    exact forGo_fold enc step I h3 h
/-- a loop by an invariant: what it leaves, or what it returns -/
theorem forGo_inv {g : PyData → En → Option En} {b : SM} (I : List PyData → En → Prop) (Q : Option Fl → Prop) : ∀ {items : List PyData} {r : En}, I items r → (∀ r, I [] r → Q (some (.nx r))) →
    (∀ x xs r, I (x :: xs) r → ∃ r1, g x r = some r1 ∧ ((∃ r2, (b r1 = some (.nx r2) ∨ b r1 = some (.ct r2)) ∧ I xs r2) ∨ (∃ r2, b r1 = some (.bk r2) ∧ Q (some (.nx r2))) ∨ ∃ d r2, b r1 = some (.rt d r2) ∧ Q (some (.rt d r2)))) → Q (forGo g b items r)
  | [], r, h0, hn, _ => hn r h0
  | x :: xs, r, h0, hn, h => by
    obtain ⟨r1, h1, h2⟩ := h x xs r h0
    rw [forGo_cons, h1]
    show Q (match b r1 with
      | some (.nx r2) => forGo g b xs r2
      | some (.ct r2) => forGo g b xs r2
      | some (.bk r2) => some (.nx r2)
      | o => o)
    rcases h2 with ⟨r2, h2 | h2, h3⟩ | ⟨r2, h2, h3⟩ | ⟨d, r2, h2, h3⟩
    · rw [h2]; exact forGo_inv I Q h3 hn h
    · rw [h2]; exact forGo_inv I Q h3 hn h
    · rw [h2]; exact h3
    · rw [h2]; exact h3
theorem whGo_step {c : M Bool} {b : SM} {n : Nat} {r r1 : En} {k : Bool} (h : c r = some (.ok k r1)) : whGo c b (n + 1) r = if k then (match b r1 with
    | some (.nx r2) => whGo c b n r2
    | some (.ct r2) => whGo c b n r2
    | some (.bk r2) => some (.nx r2)
    | o => o) else some (.nx r1) := by
  rw [whGo, sBind, h]
  cases k <;> rfl
@[simp] theorem s_for {mi : M (List PyData)} {g : PyData → En → Option En} {b : SM} {r : En} : sFor mi g b r = sBind mi (fun items => forGo g b items) r := rfl
end DL
namespace DL
open PySem PySem.Spec PyProof.Rows L2 Lk
/-! ## the same over lists of anything -/
section
variable {α β : Type} {vs : List Nat} {mi : M (List PyData)} {g : PyData → En → Option En} {mt : M Bool} {me : M PyData} {r0 r : En}
theorem lcGo_m {f : α → PyData} {p : α → Bool} {F : α → PyData} {e : α → En} : ∀ {xs : List α} {r : En}, (∀ x ∈ xs, g (f x) (wipeE r vs) = some (e x)) → (∀ x ∈ xs, wipeE (e x) vs = wipeE r vs) →
    (∀ x ∈ xs, mt (e x) = some (.ok (p x) (e x))) → (∀ x ∈ xs, p x = true → me (e x) = some (.ok (F x) (e x))) → lcGo vs g mt me (xs.map f) r = some ((xs.filter p).map F, wipeE r vs)
  | [], _, _, _, _, _ => rfl
  | x :: xs, r, hg, hw, ht, he => by
    have h1 := hg x (List.mem_cons_self ..)
    have h2 := ht x (List.mem_cons_self ..)
    have h3 := hw x (List.mem_cons_self ..)
    have ih := lcGo_m (f := f) (p := p) (F := F) (e := e) (xs := xs) (r := e x) (fun y hy => by rw [h3]; exact hg y (List.mem_cons_of_mem _ hy)) (fun y hy => by rw [h3]; exact hw y (List.mem_cons_of_mem _ hy))
      (fun y hy => ht y (List.mem_cons_of_mem _ hy)) fun y hy => he y (List.mem_cons_of_mem _ hy)
    rw [List.map_cons, lcGo, h1]
    dsimp only [Option.bind]
    rw [h2]
    cases hp : p x with
    | false =>
      dsimp only
      rw [ih, h3, List.filter_cons, if_neg (by rw [hp]; exact Bool.false_ne_true)]
    | true =>
      have h4 := he x (List.mem_cons_self ..) hp
      dsimp only
      rw [h4]
      dsimp only
      rw [ih, h3, List.filter_cons, if_pos hp]
      rfl
/-- [F x for x in xs if p x], the names as they were -/
theorem lc_m (f : α → PyData) (p : α → Bool) (F : α → PyData) (e : α → En) {xs : List α} (hi : mi r0 = some (.ok (xs.map f) r)) (hf : freeAt r vs = true) (hl : xs.length ≤ 1000000)
    (hg : ∀ x ∈ xs, g (f x) (wipeE r vs) = some (e x)) (hw : ∀ x ∈ xs, wipeE (e x) vs = wipeE r vs) (ht : ∀ x ∈ xs, mt (e x) = some (.ok (p x) (e x))) (he : ∀ x ∈ xs, p x = true → me (e x) = some (.ok (F x) (e x))) :
    mLc vs mi g mt me r0 = some (.ok ((xs.filter p).map F) r) := by
  unfold mLc M.bind
  rw [hi]
  dsimp only
  rw [hf, decide_eq_true (by rw [List.length_map]; exact hl), lcGo_m hg hw ht he]
  show some (Out.ok _ (restE r (wipeE r vs) vs)) = _
  rw [restE_wipe wipeE_length fun j hj => wipeE_out hj]
/-- [F x for x in xs] -/
theorem lc_y (f : α → PyData) (F : α → PyData) (e : α → En) {xs : List α} (hi : mi r0 = some (.ok (xs.map f) r)) (hf : freeAt r vs = true) (hl : xs.length ≤ 1000000)
    (hg : ∀ x ∈ xs, g (f x) (wipeE r vs) = some (e x)) (hw : ∀ x ∈ xs, wipeE (e x) vs = wipeE r vs) (he : ∀ x ∈ xs, me (e x) = some (.ok (F x) (e x))) :
    mLc vs mi g mYes me r0 = some (.ok (xs.map F) r) := by
  have := lc_m (mt := mYes) f (fun _ => true) F e hi hf hl hg hw (fun _ _ => rfl) fun x hx _ => he x hx
  rw [filter_true] at this
  exact this
theorem for_m {b : SM} (f : α → PyData) (enc : β → En) (step : β → α → β) (I : β → List α → Prop) : ∀ {xs : List α} {s : β}, I s xs → (∀ s x xs, I s (x :: xs) → ∃ r1, g (f x) (enc s) = some r1 ∧ (b r1 = some (.nx (enc (step s x))) ∨ b r1 = some (.ct (enc (step s x)))) ∧ I (step s x) xs) →
    forGo g b (xs.map f) (enc s) = some (.nx (enc (xs.foldl step s)))
  | [], _, _, _ => rfl
  | x :: xs, s, h0, h => by
    obtain ⟨r1, h1, h2, h3⟩ := h s x xs h0
    rw [List.map_cons, forGo_cons, h1]
    dsimp only [Option.bind]
    rcases h2 with h2 | h2
    · rw [h2]
      exact for_m f enc step I h3 h
    · rw [h2]
      exact for_m f enc step I h3 h
/-- for x in xs: if p x: return F x -/
theorem for_find {b : SM} (f : α → PyData) (enc : Option α → En) (p : α → Bool) (F : α → PyData) : ∀ {xs : List α} {o : Option α}, (∀ o, ∀ x ∈ xs, ∃ r1 r2, g (f x) (enc o) = some r1 ∧ b r1 = if p x then some (.rt (F x) r2) else some (.nx (enc (some x)))) →
    ∃ r2, forGo g b (xs.map f) (enc o) = match xs.find? p with
      | some x => some (.rt (F x) r2)
      | none => some (.nx r2)
  | [], o, _ => ⟨_, rfl⟩
  | x :: xs, o, h => by
    obtain ⟨r1, r2, h1, h2⟩ := h o x (List.mem_cons_self ..)
    rw [List.map_cons, forGo_cons, h1]
    dsimp only [Option.bind]
    cases hp : p x with
    | true =>
      rw [hp, if_pos rfl] at h2
      rw [h2, List.find?_cons, hp]
      exact ⟨r2, rfl⟩
    | false =>
      rw [hp, if_neg Bool.false_ne_true] at h2
      rw [h2, List.find?_cons, hp]
      exact for_find f enc p F (xs := xs) (o := some x) fun o y hy => h o y (List.mem_cons_of_mem _ hy)
end
/-! ## comprehensions of two clauses: [F x y for x in xs for y in ys x] -/
theorem lc2Go_m {α β : Type} {vs vs1 : List Nat} {g g1 : PyData → En → Option En} {mt mt1 : M Bool} {mi1 : M (List PyData)} {me : M PyData} {f : α → PyData} {f1 : β → PyData} {ys : α → List β} {F : α → β → PyData} {e : α → En} {e1 : α → β → En} {p : α → Bool} {p1 : α → β → Bool} : ∀ {xs : List α} {r : En},
    (∀ x ∈ xs, g (f x) (wipeE r vs) = some (e x)) → (∀ x ∈ xs, mt (e x) = some (.ok (p x) (e x))) → (∀ x ∈ xs, p x = true → mi1 (e x) = some (.ok ((ys x).map f1) (e x))) →
    (∀ x ∈ xs, p x = true → ∀ y ∈ ys x, g1 (f1 y) (wipeE (e x) vs1) = some (e1 x y)) → (∀ x ∈ xs, p x = true → ∀ y ∈ ys x, wipeE (e1 x y) vs1 = wipeE (e x) vs1) → (∀ x ∈ xs, p x = true → ∀ y ∈ ys x, mt1 (e1 x y) = some (.ok (p1 x y) (e1 x y))) →
    (∀ x ∈ xs, p x = true → ∀ y ∈ ys x, p1 x y = true → me (e1 x y) = some (.ok (F x y) (e1 x y))) → (∀ x ∈ xs, wipeE (e x) vs = wipeE r vs) → (∀ x ∈ xs, wipeE (wipeE (e x) vs1) vs = wipeE r vs) →
    lc2Go vs vs1 g mt mi1 g1 mt1 me (xs.map f) r = some ((xs.filter p).flatMap (fun x => ((ys x).filter (p1 x)).map (F x)), wipeE r vs)
  | [], _, _, _, _, _, _, _, _, _, _ => rfl
  | x :: xs, r, h1, h2, h3, h4, h5, h6, h7, h8, h9 => by
    have m0 : x ∈ x :: xs := List.mem_cons_self ..
    rw [List.map_cons, lc2Go, h1 x m0]
    dsimp only [Option.bind]
    rw [h2 x m0]
    cases hp : p x with
    | false =>
      dsimp only
      have ih := lc2Go_m (vs := vs) (vs1 := vs1) (g := g) (g1 := g1) (mt := mt) (mt1 := mt1) (mi1 := mi1) (me := me) (f := f) (f1 := f1) (ys := ys) (F := F) (e := e) (e1 := e1) (p := p) (p1 := p1) (xs := xs) (r := e x)
        (fun y hy => by rw [h8 x m0]; exact h1 y (List.mem_cons_of_mem _ hy)) (fun y hy => h2 y (List.mem_cons_of_mem _ hy)) (fun y hy => h3 y (List.mem_cons_of_mem _ hy)) (fun y hy => h4 y (List.mem_cons_of_mem _ hy)) (fun y hy => h5 y (List.mem_cons_of_mem _ hy)) (fun y hy => h6 y (List.mem_cons_of_mem _ hy)) (fun y hy => h7 y (List.mem_cons_of_mem _ hy))
        (fun y hy => by rw [h8 x m0]; exact h8 y (List.mem_cons_of_mem _ hy)) fun y hy => by rw [h8 x m0]; exact h9 y (List.mem_cons_of_mem _ hy)
      rw [ih, h8 x m0, List.filter_cons, if_neg (by rw [hp]; exact Bool.false_ne_true)]
    | true =>
      dsimp only
      rw [h3 x m0 hp]
      dsimp only
      rw [lcGo_m (h4 x m0 hp) (h5 x m0 hp) (h6 x m0 hp) (h7 x m0 hp)]
      dsimp only
      have w := h9 x m0
      have ih := lc2Go_m (vs := vs) (vs1 := vs1) (g := g) (g1 := g1) (mt := mt) (mt1 := mt1) (mi1 := mi1) (me := me) (f := f) (f1 := f1) (ys := ys) (F := F) (e := e) (e1 := e1) (p := p) (p1 := p1) (xs := xs) (r := wipeE (e x) vs1)
        (fun y hy => by rw [w]; exact h1 y (List.mem_cons_of_mem _ hy)) (fun y hy => h2 y (List.mem_cons_of_mem _ hy)) (fun y hy => h3 y (List.mem_cons_of_mem _ hy)) (fun y hy => h4 y (List.mem_cons_of_mem _ hy)) (fun y hy => h5 y (List.mem_cons_of_mem _ hy)) (fun y hy => h6 y (List.mem_cons_of_mem _ hy)) (fun y hy => h7 y (List.mem_cons_of_mem _ hy))
        (fun y hy => by rw [w]; exact h8 y (List.mem_cons_of_mem _ hy)) fun y hy => by rw [w]; exact h9 y (List.mem_cons_of_mem _ hy)
      rw [ih, w, List.filter_cons, if_pos hp, List.flatMap_cons]
      rfl
theorem lc2_m {α β : Type} {vs vs1 : List Nat} {mi : M (List PyData)} {g g1 : PyData → En → Option En} {mt mt1 : M Bool} {mi1 : M (List PyData)} {me : M PyData} {r0 r : En} (f : α → PyData) (f1 : β → PyData) (ys : α → List β) (p : α → Bool) (p1 : α → β → Bool) (F : α → β → PyData) (e : α → En) (e1 : α → β → En) {xs : List α}
    (hi : mi r0 = some (.ok (xs.map f) r)) (hf : freeAt r vs = true) (hl : ((xs.filter p).flatMap (fun x => ((ys x).filter (p1 x)).map (F x))).length ≤ 1000000)
    (h1 : ∀ x ∈ xs, g (f x) (wipeE r vs) = some (e x)) (h2 : ∀ x ∈ xs, mt (e x) = some (.ok (p x) (e x))) (h3 : ∀ x ∈ xs, p x = true → mi1 (e x) = some (.ok ((ys x).map f1) (e x)))
    (h4 : ∀ x ∈ xs, p x = true → ∀ y ∈ ys x, g1 (f1 y) (wipeE (e x) vs1) = some (e1 x y)) (h5 : ∀ x ∈ xs, p x = true → ∀ y ∈ ys x, wipeE (e1 x y) vs1 = wipeE (e x) vs1) (h6 : ∀ x ∈ xs, p x = true → ∀ y ∈ ys x, mt1 (e1 x y) = some (.ok (p1 x y) (e1 x y)))
    (h7 : ∀ x ∈ xs, p x = true → ∀ y ∈ ys x, p1 x y = true → me (e1 x y) = some (.ok (F x y) (e1 x y))) (h8 : ∀ x ∈ xs, wipeE (e x) vs = wipeE r vs) (h9 : ∀ x ∈ xs, wipeE (wipeE (e x) vs1) vs = wipeE r vs) :
    mLc2 vs vs1 mi g mt mi1 g1 mt1 me r0 = some (.ok ((xs.filter p).flatMap (fun x => ((ys x).filter (p1 x)).map (F x))) r) := by
  unfold mLc2 M.bind
  rw [hi]
  dsimp only
  rw [hf, lc2Go_m h1 h2 h3 h4 h5 h6 h7 h8 h9]
  dsimp only [Option.bind]
  rw [if_pos rfl, if_pos hl, restE_wipe wipeE_length fun j hj => wipeE_out hj]
theorem for_i {α : Type} {g : PyData → En → Option En} {b : SM} (f : α → PyData) (I : List α → En → Prop) : ∀ {xs : List α} {r : En}, I xs r → (∀ x xs r, I (x :: xs) r → ∃ r1 r2, g (f x) r = some r1 ∧ b r1 = some (.nx r2) ∧ I xs r2) →
    ∃ r2, forGo g b (xs.map f) r = some (.nx r2) ∧ I [] r2
  | [], r, h0, _ => ⟨r, rfl, h0⟩
  | x :: xs, r, h0, h => by
    obtain ⟨r1, r2, h1, h2, h3⟩ := h x xs r h0
    rw [List.map_cons, forGo_cons, h1]
    dsimp only [Option.bind]
    rw [h2]
    exact for_i f I h3 h
end DL
namespace DL
open PySem PySem.Spec PyProof.Rows L2 Lk
def nD (n : Nat) : PyData := .int (n : Int)
abbrev nsD (ns : List Nat) : PyData := .list (ns.map nD)
abbrev isD (ns : List Int) : PyData := .list (ns.map PyData.int)
@[simp] theorem e_lt_n {a b : Nat} : ltM (nD a) (nD b) = some (.bool (decide (a < b))) := by
  show some (PyData.bool (decide ((a : Int) < b))) = _
  simp
@[simp] theorem e_eq_n {a b : Nat} : eqM (nD a) (nD b) = some (.bool (a == b)) := by
  show some (PyData.bool ((a : Int) == b)) = _
  have : ((a : Int) == b) = (a == b) := by rw [Bool.eq_iff_iff, beq_iff_eq, beq_iff_eq]; omega
  rw [this]
@[simp] theorem e_ne_n {a b : Nat} : neM (nD a) (nD b) = some (.bool (!(a == b))) := by
  show some (PyData.bool (!((a : Int) == b))) = _
  have : ((a : Int) == b) = (a == b) := by rw [Bool.eq_iff_iff, beq_iff_eq, beq_iff_eq]; omega
  rw [this]
theorem nD0 : PyData.int 0 = nD 0 := rfl
theorem nD_succ (n : Nat) : PyData.int ((n : Int) + 1) = nD (n + 1) := rfl
@[simp] theorem e_isNone_n {a : Nat} : isNone (nD a) = false := rfl
theorem g_is_integer_int (i : Int) : g_is_integer [.int i] = some (.bool true) := by
  rw [r_is_integer]; simp [v_is_integer]
theorem g_is_integer_bool (b : Bool) : g_is_integer [.bool b] = some (.bool false) := by
  rw [r_is_integer]; simp [v_is_integer]
theorem g_is_integer_n (n : Nat) : g_is_integer [nD n] = some (.bool true) := g_is_integer_int _
theorem g_below (i l : Int) : g_is_integer_below [.int i, .int l] = some (.bool (decide (0 ≤ i ∧ i < l))) := by
  rw [r_is_integer_below]
  by_cases h : 0 ≤ i <;> simp [v_is_integer_below, g_is_integer_int, h]
theorem g_below_n (i l : Nat) : g_is_integer_below [nD i, nD l] = some (.bool (decide (i < l))) := by
  have := g_below i l
  simpa [nD] using this
/-! ## ascending -/
def AscFrom : Nat → Nat → List Nat → Prop
  | _, _, [] => True
  | lo, lim, v :: vs => lo ≤ v ∧ v < lim ∧ AscFrom (v + 1) lim vs
theorem g_asc {d : PyData} {vs : List Nat} {lim : Nat} (hd : asSeq d = some (vs.map nD)) (h : AscFrom 0 lim vs) : g_are_ascending_below [d, nD lim] = some (.bool true) := by
  rw [r_are_ascending_below]
  have L := for_m (b := sSeq (sIf (mOr (mNotT (mTru (mCall g_is_integer_below (mCons (mV 3) (mCons (mV 1) mNil))))) (mOpT ltM (mV 3) (mV 2))) (sRet (M.ret (.bool false))) sNil) (sSet 2 (mOp2 addM (mV 3) (M.ret (.int 1)))))
    (g := gN 3) nD (fun (s : Nat × Cel) => [.pl d, .pl (nD lim), .pl (nD s.1), s.2]) (fun s v => (v + 1, .pl (nD v))) (fun s xs => AscFrom s.1 lim xs ∧ s.2.own = false) (xs := vs) (s := (0, .un)) ⟨h, rfl⟩
    (by
      rintro ⟨lo, c⟩ v xs ⟨⟨h1, h2, h3⟩, hc⟩
      have nlt : ¬ v < lo := by omega
      simp only at hc h1
      refine ⟨[.pl d, .pl (nD lim), .pl (nD lo), .pl (nD v)], by simp [hc], .inl ?_, h3, rfl⟩
      simp [g_below_n, h2, nlt]
      rfl)
  simp only [nD0] at *
  simp [v_are_ascending_below, hd, nD0]
  rw [L]
  rfl
/-! ## sheets -/
def Sz (ns : List Nat) : Prop := ns.length ≤ 24 ∧ ∀ n ∈ ns, 2 ≤ n ∧ n ≤ 6
theorem g_is_sizes_ok {ns : List Nat} (h : Sz ns) : g_is_sizes [nsD ns] = some (.bool true) := by
  rw [r_is_sizes]
  have lc := lc_y (vs := [1]) (mi := mSeq (mV 0)) (g := gN 1) (me := mAndV (mCall g_is_integer (mCons (mV 1) mNil)) (mChain leM leM (M.ret (.int 2)) (mV 1) (M.ret (.int 6)))) (r0 := [.pl (nsD ns), .un]) (r := [.pl (nsD ns), .un]) nD (fun _ => .bool true) (fun x => [.pl (nsD ns), .pl (nD x)]) (xs := ns)
    (by simp) (by simp [freeAt]) (by have := h.1; omega) (by simp) (by simp) (by
      intro x hx
      have := h.2 x hx
      have a1 : (2 : Int) ≤ x := by omega
      have a2 : (x : Int) ≤ 6 := by omega
      simp [g_is_integer_int, nD, a1, a2])
  have hl : ¬ (24 : Int) < (ns.length : Int) := by have := h.1; omega
  simp [v_is_sizes, hl, lc]
  have := e_all (bs := ns.map fun _ => true)
  rw [List.map_map] at this
  rw [show (List.map (fun _ => PyData.bool true) ns) = List.map (PyData.bool ∘ fun _ => true) ns from rfl, this]
  simp
theorem g_check_sizes_ok {ns : List Nat} (h : Sz ns) : g_check_sizes [nsD ns] = some .none := by
  rw [r_check_sizes]
  simp [v_check_sizes, g_is_sizes_ok h]
def prod : List Nat → Nat
  | [] => 1
  | n :: ns => n * prod ns
theorem foldl_mul : ∀ (ns : List Nat) (a : Nat), ns.foldl (· * ·) a = a * prod ns
  | [], a => by show a = a * 1; omega
  | n :: ns, a => by
    show ns.foldl (· * ·) (a * n) = _
    rw [foldl_mul ns, prod, Nat.mul_assoc]
theorem prod_le : ∀ {ns : List Nat}, (∀ n ∈ ns, n ≤ 6) → prod ns ≤ 6 ^ ns.length
  | [], _ => by decide
  | n :: ns, h => by
    have h1 := h n (List.mem_cons_self ..)
    have h2 := prod_le (ns := ns) fun m hm => h m (List.mem_cons_of_mem _ hm)
    rw [prod, List.length_cons, Nat.pow_succ, Nat.mul_comm (6 ^ _)]
    exact Nat.mul_le_mul h1 h2
theorem prod_small {ns : List Nat} (h : Sz ns) : prod ns ≤ 6 ^ 24 := Nat.le_trans (prod_le fun n hn => (h.2 n hn).2) (Nat.pow_le_pow_right (by decide) h.1)
theorem prod_pos : ∀ {ns : List Nat}, (∀ n ∈ ns, 0 < n) → 0 < prod ns
  | [], _ => by decide
  | n :: ns, h => Nat.mul_pos (h n (List.mem_cons_self ..)) (prod_pos fun m hm => h m (List.mem_cons_of_mem _ hm))
theorem e_mul_n {a b : Nat} (ha : a < 2 ^ 1000) (hb : b < 2 ^ 1000) : mulM (nD a) (nD b) = some (nD (a * b)) := by
  have := e_mulI (a := a) (b := b) (by simpa using ha) (by simpa using hb)
  unfold nD
  rw [this, Int.natCast_mul]
theorem lt_big {a k : Nat} (h : a ≤ k) (hk : k < 2 ^ 1000 := by decide) : a < 2 ^ 1000 := Nat.lt_of_le_of_lt h hk
theorem g_number_ok {ns : List Nat} (h : Sz ns) : g_number_of_cases [nsD ns] = some (nD (prod ns)) := by
  rw [r_number_of_cases]
  have L := for_m (b := sSet 1 (mOp2 mulM (mV 1) (mV 2))) (g := gN 2) nD (fun (s : Nat × Cel) => [.pl (nsD ns), .pl (nD s.1), s.2]) (fun s v => (s.1 * v, .pl (nD v))) (fun s xs => s.1 * prod xs ≤ 6 ^ 24 ∧ (∀ x ∈ xs, 2 ≤ x ∧ x ≤ 6) ∧ s.2.own = false) (xs := ns) (s := (1, .un))
    ⟨by have := prod_small h; omega, h.2, rfl⟩ (by
      rintro ⟨a, c⟩ v xs ⟨h1, h2, hc⟩
      simp only at hc h1
      have b := h2 v (List.mem_cons_self ..)
      have pp : 0 < prod xs := prod_pos fun m hm => by have := h2 m (List.mem_cons_of_mem _ hm); omega
      rw [prod, ← Nat.mul_assoc] at h1
      have a1 : a * v ≤ 6 ^ 24 := Nat.le_trans (Nat.le_mul_of_pos_right _ pp) h1
      have a2 : a ≤ 6 ^ 24 := Nat.le_trans (Nat.le_mul_of_pos_right _ (by omega)) a1
      refine ⟨[.pl (nsD ns), .pl (nD a), .pl (nD v)], by simp [hc], .inl ?_, h1, fun x hx => h2 x (List.mem_cons_of_mem _ hx), rfl⟩
      simp [e_mul_n (lt_big a2) (lt_big b.2)])
  have e1 : PyData.int 1 = nD 1 := rfl
  simp [v_number_of_cases, e1]
  rw [L]
  have key : ∀ (xs : List Nat) (s : Nat × Cel), (xs.foldl (fun (s : Nat × Cel) (v : Nat) => (s.1 * v, Cel.pl (nD v))) s).1 = xs.foldl (· * ·) s.1 := fun xs => by
    induction xs with
    | nil => intro s; rfl
    | cons x xs ih => intro s; exact ih _
  simp [key, foldl_mul]
theorem g_is_small_ok {ns : List Nat} (h : Sz ns) : g_is_small_sheet [nsD ns] = some (.bool (decide (prod ns ≤ 1024))) := by
  rw [r_is_small_sheet]
  simp [v_is_small_sheet, g_number_ok h, nD]
  omega
theorem g_check_small_ok {ns : List Nat} (h : Sz ns) (hs : prod ns ≤ 1024) : g_check_small [nsD ns] = some .none := by
  rw [r_check_small]
  simp [v_check_small, g_is_small_ok h, hs]
end DL
namespace DL
open PySem PySem.Spec PyProof.Rows L2 Lk
def oD : Option Nat → PyData
  | none => .none
  | some v => nD v
abbrev halfD (hs : List (Option Nat)) : PyData := .list (hs.map oD)
def Half (ns : List Nat) (hs : List (Option Nat)) : Prop := hs.length = ns.length ∧ ∀ (i n v : Nat), ns[i]? = some n → hs[i]? = some (some v) → v < n
def Case (ns cs : List Nat) : Prop := cs.length = ns.length ∧ ∀ (i n c : Nat), ns[i]? = some n → cs[i]? = some c → c < n
theorem rng_nat (n : Nat) : rngL 0 n = (List.range n).map nD := by
  unfold rngL nD
  refine List.map_congr_left fun i _ => ?_
  rw [Int.zero_add]
theorem at_n {α : Type} {xs : List α} {i : Nat} {v : α} (h : xs[i]? = some v) : atI xs (i : Int) = some v := atI_nat h
@[simp] theorem e_ix_n {f : Nat → PyData} {xs : List Nat} {i : Nat} : ixM (.list (xs.map f)) (nD i) = (xs[i]?).map f := by
  show atI _ _ = _
  cases h : xs[i]? with
  | none =>
    have : xs.length ≤ i := List.getElem?_eq_none_iff.mp h
    unfold atI ixN
    rw [List.length_map]
    rw [if_pos (by omega), if_neg (by omega)]
    rfl
  | some v => exact at_n (by rw [List.getElem?_map, h]; rfl)
theorem e_ix_l {α : Type} {f : α → PyData} {xs : List α} {i : Nat} : ixM (.list (xs.map f)) (nD i) = (xs[i]?).map f := by
  show atI _ _ = _
  cases h : xs[i]? with
  | none =>
    have : xs.length ≤ i := List.getElem?_eq_none_iff.mp h
    unfold atI ixN
    rw [List.length_map]
    rw [if_pos (by omega), if_neg (by omega)]
    rfl
  | some v => exact at_n (by rw [List.getElem?_map, h]; rfl)
theorem e_ix_t {α : Type} {f : α → PyData} {xs : List α} {i : Nat} : ixM (.tuple (xs.map f)) (nD i) = (xs[i]?).map f := by
  show atI _ _ = _
  cases h : xs[i]? with
  | none =>
    have : xs.length ≤ i := List.getElem?_eq_none_iff.mp h
    unfold atI ixN
    rw [List.length_map]
    rw [if_pos (by omega), if_neg (by omega)]
    rfl
  | some v => exact at_n (by rw [List.getElem?_map, h]; rfl)
/-- range(n) as it is walked -/
theorem e_rng (n : Nat) (h : n ≤ 1000000) : rngM [.int (n : Int)] = some ((List.range n).map nD) := by
  have : rngM [.int (n : Int)] = if (n : Int).natAbs ≤ 1000000 then some (rngL 0 (n : Int).toNat) else none := by rw [rngM]
  rw [this, if_pos (by omega), Int.toNat_natCast, rng_nat]
theorem lstM_ok {ds : List PyData} (h : ds.length ≤ 1000000) : lstM ds = some ds := by
  unfold lstM
  rw [if_pos h]
theorem tupM_ok {ds : List PyData} (h : ds.length ≤ 1000000) : tupM ds = some (.tuple ds) := by
  unfold tupM
  rw [if_pos h]
@[simp] theorem asInt_n {n : Nat} : asInt (nD n) = some (n : Int) := rfl
theorem e_rng_n (n : Nat) (h : n ≤ 1000000) : rngM [nD n] = some ((List.range n).map nD) := e_rng n h
theorem e_allT {α : Type} {xs : List α} {f : α → Bool} : allM [.list (xs.map fun x => PyData.bool (f x))] = some (.bool (xs.all f)) := by
  have := e_all (bs := xs.map f)
  rw [List.map_map] at this
  rw [show List.map (fun x => PyData.bool (f x)) xs = List.map (PyData.bool ∘ f) xs from rfl, this, List.all_map]
  rfl
@[simp] theorem isNone_oD {o : Option Nat} : isNone (oD o) = o.isNone := by cases o <;> rfl
theorem g_is_half_ok {ns : List Nat} {hs : List (Option Nat)} (hn : Sz ns) (h : Half ns hs) : g_is_half_case [nsD ns, halfD hs] = some (.bool true) := by
  rw [r_is_half_case]
  have l24 := hn.1
  have lc := lc_y (vs := [2]) (mi := mRng1 (mCons (mCall lenM (mCons (mV 0) mNil)) mNil)) (g := gN 2) (me := mOrV (mOp2 isM (mOp2 ixM (mV 1) (mV 2)) (M.ret .none)) (mCall g_is_integer_below (mCons (mOp2 ixM (mV 1) (mV 2)) (mCons (mOp2 ixM (mV 0) (mV 2)) mNil))))
    (r0 := [.pl (nsD ns), .pl (halfD hs), .un]) (r := [.pl (nsD ns), .pl (halfD hs), .un]) nD (fun _ => .bool true) (fun x => [.pl (nsD ns), .pl (halfD hs), .pl (nD x)]) (xs := List.range ns.length)
    (by simp [e_rng ns.length (by omega)]) (by simp [freeAt]) (by simp; omega) (by simp) (by simp) (by
      intro i hi
      have li := List.mem_range.mp hi
      have e1 := List.getElem?_eq_getElem li
      have li2 : i < hs.length := by rw [h.1]; exact li
      have e2 : hs[i]? = some hs[i] := List.getElem?_eq_getElem li2
      cases e3 : hs[i] with
      | none =>
        rw [e3] at e2
        simp [e_ix_l, e2]
      | some v =>
        rw [e3] at e2
        have := h.2 i _ v e1 e2
        simp [e_ix_l, e1, e2, oD, g_below_n, this])
  have hl : hs.length = ns.length := h.1
  simp [v_is_half_case, lc, hl]
  have := e_allT (xs := List.range ns.length) (f := fun _ => true)
  rw [this]
  simp
theorem g_check_half_ok {ns : List Nat} {hs : List (Option Nat)} (hn : Sz ns) (h : Half ns hs) : g_check_half [nsD ns, halfD hs] = some .none := by
  rw [r_check_half]
  simp [v_check_half, g_is_half_ok hn h]
/-! ## all cases -/
def cart : List (List Nat) → List (List Nat)
  | [] => [[]]
  | c :: cs => c.flatMap fun v => (cart cs).map (v :: ·)
def grow (acc : List (List Nat)) (ch : List Nat) : List (List Nat) := acc.flatMap fun b => ch.map fun v => b ++ [v]
theorem fold_grow : ∀ (chs : List (List Nat)) (acc : List (List Nat)), chs.foldl grow acc = acc.flatMap fun b => (cart chs).map (b ++ ·)
  | [], acc => by
    show acc = acc.flatMap fun b => [b ++ []]
    induction acc with
    | nil => rfl
    | cons a l ih => rw [List.flatMap_cons, ← ih, List.append_nil]; rfl
  | c :: cs, acc => by
    show cs.foldl grow (grow acc c) = _
    rw [fold_grow cs, grow, List.flatMap_assoc]
    congr 1
    funext b
    rw [cart, List.map_flatMap, List.flatMap_map]
    congr 1
    funext v
    rw [List.map_map]
    refine List.map_congr_left fun x _ => ?_
    show (b ++ [v]) ++ x = b ++ (v :: x)
    rw [List.append_assoc]
    rfl
theorem fold_grow1 (chs : List (List Nat)) : chs.foldl grow [[]] = cart chs := by
  rw [fold_grow]
  show ((cart chs).map ([] ++ ·)) ++ [] = _
  rw [List.append_nil]
  exact List.map_id' _
theorem grow_length {acc : List (List Nat)} {ch : List Nat} : (grow acc ch).length = acc.length * ch.length := by
  unfold grow
  induction acc with
  | nil => rw [List.flatMap_nil, List.length_nil, Nat.zero_mul]
  | cons a l ih => rw [List.flatMap_cons, List.length_append, ih, List.length_map, List.length_cons, Nat.succ_mul, Nat.add_comm]
def choice (n : Nat) : Option Nat → List Nat
  | none => List.range n
  | some v => [v]
def choices : List Nat → List (Option Nat) → List (List Nat)
  | n :: ns, h :: hs => choice n h :: choices ns hs
  | _, _ => []
theorem choices_at : ∀ {ns : List Nat} {hs : List (Option Nat)} {i : Nat} {n : Nat} {h : Option Nat}, ns[i]? = some n → hs[i]? = some h → (choices ns hs)[i]? = some (choice n h)
  | [], _, _, _, _, e, _ => by simp at e
  | _ :: _, [], _, _, _, _, e => by simp at e
  | n :: ns, h :: hs, 0, _, _, e, e' => by cases e; cases e'; rfl
  | n :: ns, h :: hs, i + 1, _, _, e, e' => by
    show (choices ns hs)[i]? = _
    exact choices_at (by simpa using e) (by simpa using e')
theorem choices_length : ∀ {ns : List Nat} {hs : List (Option Nat)}, hs.length = ns.length → (choices ns hs).length = ns.length
  | [], [], _ => rfl
  | _ :: _, _ :: _, h => by
    show (choices _ _).length + 1 = _
    rw [choices_length (by simpa using h)]
    rfl
  | [], _ :: _, h => by simp at h
  | _ :: _, [], h => by simp at h
/-- the cases that complete a half case -/
def compl (ns : List Nat) (hs : List (Option Nat)) : List (List Nat) := cart (choices ns hs)
def lenP (chs : List (List Nat)) : Nat := prod (chs.map List.length)
theorem choices_prod : ∀ {ns : List Nat} {hs : List (Option Nat)}, (∀ n ∈ ns, 0 < n) → hs.length = ns.length → lenP (choices ns hs) ≤ prod ns
  | [], [], _, _ => Nat.le_refl _
  | n :: ns, h :: hs, hp, hl => by
    have ih := choices_prod (ns := ns) (hs := hs) (fun m hm => hp m (List.mem_cons_of_mem _ hm)) (by simpa using hl)
    have h1 := hp n (List.mem_cons_self ..)
    show (choice n h).length * lenP (choices ns hs) ≤ n * prod ns
    refine Nat.mul_le_mul ?_ ih
    cases h with
    | none => show (List.range n).length ≤ n; rw [List.length_range]; exact Nat.le_refl _
    | some v => exact h1
  | [], _ :: _, _, h => by simp at h
  | _ :: _, [], _, h => by simp at h
theorem foldl_range_at {α β : Type} (f : β → α → β) : ∀ (chs : List α) (s : β) (g : Nat → β → β), (∀ i c, chs[i]? = some c → ∀ s, g i s = f s c) → (List.range chs.length).foldl (fun s i => g i s) s = chs.foldl f s := fun chs => by
  induction chs with
  | nil => intro s g _; rfl
  | cons c cs ih =>
    intro s g h
    rw [List.length_cons, List.range_succ_eq_map, List.foldl_cons, List.foldl_map, List.foldl_cons, h 0 c rfl s]
    exact ih (f s c) (fun i s => g (i + 1) s) fun i d hd s => h (i + 1) d (by simpa using hd) s
abbrev casesD (l : List (List Nat)) : PyData := .list (l.map nsD)
theorem part_le {chs : List (List Nat)} (hne : ∀ c ∈ chs, 0 < c.length) (i : Nat) : ((chs.take i).foldl grow [[]]).length ≤ lenP chs := by
  have len : ∀ (l : List (List Nat)) (acc : List (List Nat)), (l.foldl grow acc).length = acc.length * lenP l := fun l => by
    induction l with
    | nil => intro acc; show acc.length = acc.length * 1; omega
    | cons c l ih =>
      intro acc
      rw [List.foldl_cons, ih, grow_length, Nat.mul_assoc]
      rfl
  rw [len]
  have split : ∀ (l : List (List Nat)) (i : Nat), (∀ c ∈ l, 0 < c.length) → lenP (l.take i) ≤ lenP l := fun l => by
    induction l with
    | nil => intro i _; simp
    | cons c l ih =>
      intro i h
      cases i with
      | zero =>
        show 1 ≤ _
        exact prod_pos fun n hn => by
          obtain ⟨c, hc, rfl⟩ := List.mem_map.mp hn
          exact h c hc
      | succ i =>
        show c.length * lenP (l.take i) ≤ c.length * lenP l
        exact Nat.mul_le_mul_left _ (ih i fun d hd => h d (List.mem_cons_of_mem _ hd))
  have := split chs i hne
  simpa using this
theorem choices_ne {ns : List Nat} {hs : List (Option Nat)} (hp : ∀ n ∈ ns, 0 < n) : ∀ c ∈ choices ns hs, 0 < c.length := by
  induction ns generalizing hs with
  | nil => intro c hc; cases hs <;> cases hc
  | cons n ns ih =>
    intro c hc
    cases hs with
    | nil => cases hc
    | cons h hs =>
      rcases List.mem_cons.mp hc with rfl | hc
      · cases h with
        | none => show 0 < (List.range n).length; rw [List.length_range]; exact hp n (List.mem_cons_self ..)
        | some v => exact Nat.one_pos
      · exact ih (fun m hm => hp m (List.mem_cons_of_mem _ hm)) c hc
theorem g_list_completing_ok {ns : List Nat} {hs : List (Option Nat)} (hn : Sz ns) (hsm : prod ns ≤ 1000000) (h : hs.length = ns.length) : g_list_completing [nsD ns, halfD hs] = some (casesD (compl ns hs)) := by
  rw [r_list_completing]
  have l24 := hn.1
  have hp : ∀ n ∈ ns, 0 < n := fun n hm => by have := hn.2 n hm; omega
  have hne := choices_ne (hs := hs) hp
  have hle := Nat.le_trans (choices_prod hp h) hsm
  have hcl := choices_length h
  have L := for_m (b := (sSeq (sSet 4 (mIf (mOpT isM (mOp2 ixM (mV 1) (mV 3)) (M.ret .none)) (mNew (mLRng1 (mOp2 ixM (mV 0) (mV 3)))) (mNew (mLst (mCons (mOp2 ixM (mV 1) (mV 3)) mNil)))))
  (sSet 2 (mNew (mLc2 [5, 6] [6] (mSeq (mV 2)) (gN 5) mYes (mSeq (mV 4)) (gN 6) mYes (mNew (mLst (mStar (mV 5) (mCons (mV 6) mNil)))))))))
    (g := gN 3) nD (fun (s : List (List Nat) × Cel × Cel) => [.pl (nsD ns), .pl (halfD hs), .pl (casesD s.1), s.2.1, s.2.2, .un, .un]) (fun s i => (grow s.1 ((choices ns hs).getD i []), .pl (nD i), .pl (nsD ((choices ns hs).getD i []))))
    (fun s xs => s.2.1.own = false ∧ s.2.2.own = false ∧ ∃ i, xs = (List.range ns.length).drop i ∧ s.1 = ((choices ns hs).take i).foldl grow [[]] ∧ ∀ b ∈ s.1, b.length = i) (xs := List.range ns.length) (s := ([[]], .un, .un))
    ⟨rfl, rfl, 0, rfl, rfl, by simp⟩ (by
      rintro ⟨acc, c3, c4⟩ i xs ⟨h3, h4, j, hj, hacc, hb⟩
      simp only at h3 h4 hacc hb
      have lj : j < ns.length := by
        have e := congrArg List.length hj
        rw [List.length_drop, List.length_range, List.length_cons] at e
        omega
      have hd : (List.range ns.length).drop j = j :: (List.range ns.length).drop (j + 1) := by
        rw [List.drop_eq_getElem_cons (by rw [List.length_range]; exact lj), List.getElem_range]
      rw [hd] at hj
      obtain ⟨rfl, rfl⟩ := List.cons.inj hj
      have e1 := List.getElem?_eq_getElem lj
      have lh : i < hs.length := by rw [h]; exact lj
      have e2 : hs[i]? = some hs[i] := List.getElem?_eq_getElem lh
      have ec := choices_at e1 e2
      have eg : (choices ns hs).getD i [] = choice ns[i] hs[i] := by rw [List.getD_eq_getElem?_getD, ec]; rfl
      rw [eg]
      have b6 := (hn.2 _ (List.getElem_mem lj)).2
      have stepacc : grow acc (choice ns[i] hs[i]) = ((choices ns hs).take (i + 1)).foldl grow [[]] := by
        rw [List.take_add_one, ec, List.foldl_append, ← hacc]
        rfl
      have lacc : (grow acc (choice ns[i] hs[i])).length ≤ 1000000 := by
        rw [stepacc]
        exact Nat.le_trans (part_le hne _) hle
      have lc := lc2_m (vs := [5, 6]) (vs1 := [6]) (mi := mSeq (mV 2)) (g := gN 5) (g1 := gN 6) (mt := mYes) (mt1 := mYes) (mi1 := mSeq (mV 4)) (me := mNew (mLst (mStar (mV 5) (mCons (mV 6) mNil))))
        (r0 := [.pl (nsD ns), .pl (halfD hs), .pl (casesD acc), .pl (nD i), .pl (nsD (choice ns[i] hs[i])), .un, .un]) (r := [.pl (nsD ns), .pl (halfD hs), .pl (casesD acc), .pl (nD i), .pl (nsD (choice ns[i] hs[i])), .un, .un])
        nsD nD (fun _ => choice ns[i] hs[i]) (fun _ => true) (fun _ _ => true) (fun b v => nsD (b ++ [v]))
        (fun b => [.pl (nsD ns), .pl (halfD hs), .pl (casesD acc), .pl (nD i), .pl (nsD (choice ns[i] hs[i])), .pl (nsD b), .un])
        (fun b v => [.pl (nsD ns), .pl (halfD hs), .pl (casesD acc), .pl (nD i), .pl (nsD (choice ns[i] hs[i])), .pl (nsD b), .pl (nD v)]) (xs := acc)
        (by simp) (by simp [freeAt]) (by
          rw [filter_true]
          simp only [filter_true]
          have := lacc
          unfold grow at this
          simpa [List.length_flatMap, Function.comp_def] using this)
        (by simp) (by simp) (by simp) (by simp) (by simp) (by simp) (by
          intro b hb' _ v _ _
          have lb : b.length ≤ 24 := by rw [hb b hb']; omega
          have e9 : lstM (b.map nD ++ [nD v]) = some (b.map nD ++ [nD v]) := lstM_ok (by simp; omega)
          simp [e9]) (by simp) (by simp)
      have lc' : mLc2 [5, 6] [6] (mSeq (mV 2)) (gN 5) mYes (mSeq (mV 4)) (gN 6) mYes (mNew (mLst (mStar (mV 5) (mCons (mV 6) mNil)))) [.pl (nsD ns), .pl (halfD hs), .pl (casesD acc), .pl (nD i), .pl (nsD (choice ns[i] hs[i])), .un, .un]
          = some (.ok ((grow acc (choice ns[i] hs[i])).map nsD) [.pl (nsD ns), .pl (halfD hs), .pl (casesD acc), .pl (nD i), .pl (nsD (choice ns[i] hs[i])), .un, .un]) := by
        rw [lc, filter_true]
        simp only [filter_true]
        unfold grow
        rw [List.map_flatMap]
        simp only [List.map_map]
        rfl
      refine ⟨[.pl (nsD ns), .pl (halfD hs), .pl (casesD acc), .pl (nD i), c4, .un, .un], by simp [h3], .inl ?_, rfl, rfl, i + 1, rfl, stepacc, ?_⟩
      · have s4 : sSet 4 (mIf (mOpT isM (mOp2 ixM (mV 1) (mV 3)) (M.ret .none)) (mNew (mLRng1 (mOp2 ixM (mV 0) (mV 3)))) (mNew (mLst (mCons (mOp2 ixM (mV 1) (mV 3)) mNil)))) [.pl (nsD ns), .pl (halfD hs), .pl (casesD acc), .pl (nD i), c4, .un, .un]
            = some (.nx [.pl (nsD ns), .pl (halfD hs), .pl (casesD acc), .pl (nD i), .pl (nsD (choice ns[i] hs[i])), .un, .un]) := by
          cases e3 : hs[i] with
          | none =>
            rw [e3] at e2
            have z : ns[i] ≤ 1000000 := by omega
            cases c4 with
            | un => simp [e_ix_l, e1, e2, z, rng_nat, choice]
            | pl d => simp [e_ix_l, e1, e2, z, rng_nat, choice]
            | ow d => cases h4
            | io d => cases h4
          | some v =>
            rw [e3] at e2
            cases c4 with
            | un => simp [e_ix_l, e1, e2, oD, choice]
            | pl d => simp [e_ix_l, e1, e2, oD, choice]
            | ow d => cases h4
            | io d => cases h4
        rw [s_seq, s4]
        dsimp only
        rw [s_set, s_bind, e_new, e_bind, lc']
        rfl
      · intro b hb'
        unfold grow at hb'
        obtain ⟨a, ha, hb'⟩ := List.mem_flatMap.mp hb'
        obtain ⟨v, _, rfl⟩ := List.mem_map.mp hb'
        rw [List.length_append, hb a ha]
        rfl)
  obtain ⟨o1, o2, e⟩ : ∃ c3 c4, ((List.range ns.length).foldl (fun (s : List (List Nat) × Cel × Cel) i => (grow s.1 ((choices ns hs).getD i []), Cel.pl (nD i), Cel.pl (nsD ((choices ns hs).getD i [])))) ([[]], Cel.un, Cel.un)) = (compl ns hs, c3, c4) := by
    have key : ∀ (xs : List Nat) (s : List (List Nat) × Cel × Cel), (xs.foldl (fun (s : List (List Nat) × Cel × Cel) i => (grow s.1 ((choices ns hs).getD i []), Cel.pl (nD i), Cel.pl (nsD ((choices ns hs).getD i [])))) s).1 = xs.foldl (fun a i => grow a ((choices ns hs).getD i [])) s.1 := fun xs => by
      induction xs with
      | nil => intro s; rfl
      | cons x xs ih => intro s; exact ih _
    refine ⟨_, _, Prod.ext ?_ (Prod.ext rfl rfl)⟩
    rw [key, ← hcl, foldl_range_at grow (choices ns hs) [[]] (fun i a => grow a ((choices ns hs).getD i [])) fun i c hc s => by rw [List.getD_eq_getElem?_getD, hc]; rfl, fold_grow1]
    rfl
  have e0 : PyData.list [PyData.list []] = casesD [[]] := rfl
  have er := e_rng ns.length (by omega)
  simp [v_list_completing, er]
  rw [e0, L, e]
  rfl
end DL
namespace DL
open PySem PySem.Spec PyProof.Rows L2 Lk
/-! ## words -/
theorem shaped_of {d : PyData} (h1 : d.canLay0 = true) (h2 : d.depth ≤ 64) : SeqAt.shaped d = true := by
  unfold SeqAt.shaped
  rw [h1, decide_eq_true h2]
  rfl
theorem e_eqD {d e : PyData} (h1 : SeqAt.shaped d = true) (h2 : SeqAt.shaped e = true) : eqM d e = some (.bool (PyData.eqv d e)) := by
  unfold eqM
  rw [h1, h2]
  rfl
theorem e_neD {d e : PyData} (h1 : SeqAt.shaped d = true) (h2 : SeqAt.shaped e = true) : neM d e = some (.bool (!PyData.eqv d e)) := by
  unfold neM
  rw [h1, h2]
  rfl
theorem sh_str {a : Str} (h : PyData.strOk a = true) : SeqAt.shaped (.str a) = true := shaped_of (by rw [PyData.canLay0]; exact h) (by rw [PyData.depth]; omega)
theorem e_eqS {a b : Str} (ha : PyData.strOk a = true) (hb : PyData.strOk b = true) : eqM (.str a) (.str b) = some (.bool (a == b)) := by
  rw [e_eqD (sh_str ha) (sh_str hb), PyData.eqv]
theorem in_join {w : Str} : inM (.str w) c_JOINING_WORDS = some (.bool ((("and" : Str) == w) || ((("or" : Str) == w) || (("odd" : Str) == w)))) := by
  simp [inM, c_JOINING_WORDS, flatD, memD, PyData.eqv]
@[simp] theorem ws0 : eqM (.str "say") (.str "say") = some (.bool true) := (e_eqS (by decide +kernel) (by decide +kernel)).trans (congrArg (fun b => some (PyData.bool b)) (by decide +kernel))
@[simp] theorem ws1 : eqM (.str "say") (.str "is") = some (.bool false) := (e_eqS (by decide +kernel) (by decide +kernel)).trans (congrArg (fun b => some (PyData.bool b)) (by decide +kernel))
@[simp] theorem ws2 : eqM (.str "say") (.str "tree") = some (.bool false) := (e_eqS (by decide +kernel) (by decide +kernel)).trans (congrArg (fun b => some (PyData.bool b)) (by decide +kernel))
@[simp] theorem ws3 : eqM (.str "say") (.str "rules") = some (.bool false) := (e_eqS (by decide +kernel) (by decide +kernel)).trans (congrArg (fun b => some (PyData.bool b)) (by decide +kernel))
@[simp] theorem ws4 : eqM (.str "say") (.str "card") = some (.bool false) := (e_eqS (by decide +kernel) (by decide +kernel)).trans (congrArg (fun b => some (PyData.bool b)) (by decide +kernel))
@[simp] theorem ws5 : eqM (.str "say") (.str "table") = some (.bool false) := (e_eqS (by decide +kernel) (by decide +kernel)).trans (congrArg (fun b => some (PyData.bool b)) (by decide +kernel))
@[simp] theorem ws6 : eqM (.str "say") (.str "not") = some (.bool false) := (e_eqS (by decide +kernel) (by decide +kernel)).trans (congrArg (fun b => some (PyData.bool b)) (by decide +kernel))
@[simp] theorem ws7 : eqM (.str "say") (.str "and") = some (.bool false) := (e_eqS (by decide +kernel) (by decide +kernel)).trans (congrArg (fun b => some (PyData.bool b)) (by decide +kernel))
@[simp] theorem ws8 : eqM (.str "say") (.str "or") = some (.bool false) := (e_eqS (by decide +kernel) (by decide +kernel)).trans (congrArg (fun b => some (PyData.bool b)) (by decide +kernel))
@[simp] theorem ws9 : eqM (.str "say") (.str "odd") = some (.bool false) := (e_eqS (by decide +kernel) (by decide +kernel)).trans (congrArg (fun b => some (PyData.bool b)) (by decide +kernel))
@[simp] theorem wj10 : inM (.str "say") c_JOINING_WORDS = some (.bool false) := in_join.trans (congrArg (fun b => some (PyData.bool b)) (by decide +kernel))
@[simp] theorem wi10 : isTy "str" (.str "say") = true := rfl
@[simp] theorem ws10 : eqM (.str "is") (.str "say") = some (.bool false) := (e_eqS (by decide +kernel) (by decide +kernel)).trans (congrArg (fun b => some (PyData.bool b)) (by decide +kernel))
@[simp] theorem ws11 : eqM (.str "is") (.str "is") = some (.bool true) := (e_eqS (by decide +kernel) (by decide +kernel)).trans (congrArg (fun b => some (PyData.bool b)) (by decide +kernel))
@[simp] theorem ws12 : eqM (.str "is") (.str "tree") = some (.bool false) := (e_eqS (by decide +kernel) (by decide +kernel)).trans (congrArg (fun b => some (PyData.bool b)) (by decide +kernel))
@[simp] theorem ws13 : eqM (.str "is") (.str "rules") = some (.bool false) := (e_eqS (by decide +kernel) (by decide +kernel)).trans (congrArg (fun b => some (PyData.bool b)) (by decide +kernel))
@[simp] theorem ws14 : eqM (.str "is") (.str "card") = some (.bool false) := (e_eqS (by decide +kernel) (by decide +kernel)).trans (congrArg (fun b => some (PyData.bool b)) (by decide +kernel))
@[simp] theorem ws15 : eqM (.str "is") (.str "table") = some (.bool false) := (e_eqS (by decide +kernel) (by decide +kernel)).trans (congrArg (fun b => some (PyData.bool b)) (by decide +kernel))
@[simp] theorem ws16 : eqM (.str "is") (.str "not") = some (.bool false) := (e_eqS (by decide +kernel) (by decide +kernel)).trans (congrArg (fun b => some (PyData.bool b)) (by decide +kernel))
@[simp] theorem ws17 : eqM (.str "is") (.str "and") = some (.bool false) := (e_eqS (by decide +kernel) (by decide +kernel)).trans (congrArg (fun b => some (PyData.bool b)) (by decide +kernel))
@[simp] theorem ws18 : eqM (.str "is") (.str "or") = some (.bool false) := (e_eqS (by decide +kernel) (by decide +kernel)).trans (congrArg (fun b => some (PyData.bool b)) (by decide +kernel))
@[simp] theorem ws19 : eqM (.str "is") (.str "odd") = some (.bool false) := (e_eqS (by decide +kernel) (by decide +kernel)).trans (congrArg (fun b => some (PyData.bool b)) (by decide +kernel))
@[simp] theorem wj20 : inM (.str "is") c_JOINING_WORDS = some (.bool false) := in_join.trans (congrArg (fun b => some (PyData.bool b)) (by decide +kernel))
@[simp] theorem wi20 : isTy "str" (.str "is") = true := rfl
@[simp] theorem ws20 : eqM (.str "tree") (.str "say") = some (.bool false) := (e_eqS (by decide +kernel) (by decide +kernel)).trans (congrArg (fun b => some (PyData.bool b)) (by decide +kernel))
@[simp] theorem ws21 : eqM (.str "tree") (.str "is") = some (.bool false) := (e_eqS (by decide +kernel) (by decide +kernel)).trans (congrArg (fun b => some (PyData.bool b)) (by decide +kernel))
@[simp] theorem ws22 : eqM (.str "tree") (.str "tree") = some (.bool true) := (e_eqS (by decide +kernel) (by decide +kernel)).trans (congrArg (fun b => some (PyData.bool b)) (by decide +kernel))
@[simp] theorem ws23 : eqM (.str "tree") (.str "rules") = some (.bool false) := (e_eqS (by decide +kernel) (by decide +kernel)).trans (congrArg (fun b => some (PyData.bool b)) (by decide +kernel))
@[simp] theorem ws24 : eqM (.str "tree") (.str "card") = some (.bool false) := (e_eqS (by decide +kernel) (by decide +kernel)).trans (congrArg (fun b => some (PyData.bool b)) (by decide +kernel))
@[simp] theorem ws25 : eqM (.str "tree") (.str "table") = some (.bool false) := (e_eqS (by decide +kernel) (by decide +kernel)).trans (congrArg (fun b => some (PyData.bool b)) (by decide +kernel))
@[simp] theorem ws26 : eqM (.str "tree") (.str "not") = some (.bool false) := (e_eqS (by decide +kernel) (by decide +kernel)).trans (congrArg (fun b => some (PyData.bool b)) (by decide +kernel))
@[simp] theorem ws27 : eqM (.str "tree") (.str "and") = some (.bool false) := (e_eqS (by decide +kernel) (by decide +kernel)).trans (congrArg (fun b => some (PyData.bool b)) (by decide +kernel))
@[simp] theorem ws28 : eqM (.str "tree") (.str "or") = some (.bool false) := (e_eqS (by decide +kernel) (by decide +kernel)).trans (congrArg (fun b => some (PyData.bool b)) (by decide +kernel))
@[simp] theorem ws29 : eqM (.str "tree") (.str "odd") = some (.bool false) := (e_eqS (by decide +kernel) (by decide +kernel)).trans (congrArg (fun b => some (PyData.bool b)) (by decide +kernel))
@[simp] theorem wj30 : inM (.str "tree") c_JOINING_WORDS = some (.bool false) := in_join.trans (congrArg (fun b => some (PyData.bool b)) (by decide +kernel))
@[simp] theorem wi30 : isTy "str" (.str "tree") = true := rfl
@[simp] theorem ws30 : eqM (.str "rules") (.str "say") = some (.bool false) := (e_eqS (by decide +kernel) (by decide +kernel)).trans (congrArg (fun b => some (PyData.bool b)) (by decide +kernel))
@[simp] theorem ws31 : eqM (.str "rules") (.str "is") = some (.bool false) := (e_eqS (by decide +kernel) (by decide +kernel)).trans (congrArg (fun b => some (PyData.bool b)) (by decide +kernel))
@[simp] theorem ws32 : eqM (.str "rules") (.str "tree") = some (.bool false) := (e_eqS (by decide +kernel) (by decide +kernel)).trans (congrArg (fun b => some (PyData.bool b)) (by decide +kernel))
@[simp] theorem ws33 : eqM (.str "rules") (.str "rules") = some (.bool true) := (e_eqS (by decide +kernel) (by decide +kernel)).trans (congrArg (fun b => some (PyData.bool b)) (by decide +kernel))
@[simp] theorem ws34 : eqM (.str "rules") (.str "card") = some (.bool false) := (e_eqS (by decide +kernel) (by decide +kernel)).trans (congrArg (fun b => some (PyData.bool b)) (by decide +kernel))
@[simp] theorem ws35 : eqM (.str "rules") (.str "table") = some (.bool false) := (e_eqS (by decide +kernel) (by decide +kernel)).trans (congrArg (fun b => some (PyData.bool b)) (by decide +kernel))
@[simp] theorem ws36 : eqM (.str "rules") (.str "not") = some (.bool false) := (e_eqS (by decide +kernel) (by decide +kernel)).trans (congrArg (fun b => some (PyData.bool b)) (by decide +kernel))
@[simp] theorem ws37 : eqM (.str "rules") (.str "and") = some (.bool false) := (e_eqS (by decide +kernel) (by decide +kernel)).trans (congrArg (fun b => some (PyData.bool b)) (by decide +kernel))
@[simp] theorem ws38 : eqM (.str "rules") (.str "or") = some (.bool false) := (e_eqS (by decide +kernel) (by decide +kernel)).trans (congrArg (fun b => some (PyData.bool b)) (by decide +kernel))
@[simp] theorem ws39 : eqM (.str "rules") (.str "odd") = some (.bool false) := (e_eqS (by decide +kernel) (by decide +kernel)).trans (congrArg (fun b => some (PyData.bool b)) (by decide +kernel))
@[simp] theorem wj40 : inM (.str "rules") c_JOINING_WORDS = some (.bool false) := in_join.trans (congrArg (fun b => some (PyData.bool b)) (by decide +kernel))
@[simp] theorem wi40 : isTy "str" (.str "rules") = true := rfl
@[simp] theorem ws40 : eqM (.str "card") (.str "say") = some (.bool false) := (e_eqS (by decide +kernel) (by decide +kernel)).trans (congrArg (fun b => some (PyData.bool b)) (by decide +kernel))
@[simp] theorem ws41 : eqM (.str "card") (.str "is") = some (.bool false) := (e_eqS (by decide +kernel) (by decide +kernel)).trans (congrArg (fun b => some (PyData.bool b)) (by decide +kernel))
@[simp] theorem ws42 : eqM (.str "card") (.str "tree") = some (.bool false) := (e_eqS (by decide +kernel) (by decide +kernel)).trans (congrArg (fun b => some (PyData.bool b)) (by decide +kernel))
@[simp] theorem ws43 : eqM (.str "card") (.str "rules") = some (.bool false) := (e_eqS (by decide +kernel) (by decide +kernel)).trans (congrArg (fun b => some (PyData.bool b)) (by decide +kernel))
@[simp] theorem ws44 : eqM (.str "card") (.str "card") = some (.bool true) := (e_eqS (by decide +kernel) (by decide +kernel)).trans (congrArg (fun b => some (PyData.bool b)) (by decide +kernel))
@[simp] theorem ws45 : eqM (.str "card") (.str "table") = some (.bool false) := (e_eqS (by decide +kernel) (by decide +kernel)).trans (congrArg (fun b => some (PyData.bool b)) (by decide +kernel))
@[simp] theorem ws46 : eqM (.str "card") (.str "not") = some (.bool false) := (e_eqS (by decide +kernel) (by decide +kernel)).trans (congrArg (fun b => some (PyData.bool b)) (by decide +kernel))
@[simp] theorem ws47 : eqM (.str "card") (.str "and") = some (.bool false) := (e_eqS (by decide +kernel) (by decide +kernel)).trans (congrArg (fun b => some (PyData.bool b)) (by decide +kernel))
@[simp] theorem ws48 : eqM (.str "card") (.str "or") = some (.bool false) := (e_eqS (by decide +kernel) (by decide +kernel)).trans (congrArg (fun b => some (PyData.bool b)) (by decide +kernel))
@[simp] theorem ws49 : eqM (.str "card") (.str "odd") = some (.bool false) := (e_eqS (by decide +kernel) (by decide +kernel)).trans (congrArg (fun b => some (PyData.bool b)) (by decide +kernel))
@[simp] theorem wj50 : inM (.str "card") c_JOINING_WORDS = some (.bool false) := in_join.trans (congrArg (fun b => some (PyData.bool b)) (by decide +kernel))
@[simp] theorem wi50 : isTy "str" (.str "card") = true := rfl
@[simp] theorem ws50 : eqM (.str "table") (.str "say") = some (.bool false) := (e_eqS (by decide +kernel) (by decide +kernel)).trans (congrArg (fun b => some (PyData.bool b)) (by decide +kernel))
@[simp] theorem ws51 : eqM (.str "table") (.str "is") = some (.bool false) := (e_eqS (by decide +kernel) (by decide +kernel)).trans (congrArg (fun b => some (PyData.bool b)) (by decide +kernel))
@[simp] theorem ws52 : eqM (.str "table") (.str "tree") = some (.bool false) := (e_eqS (by decide +kernel) (by decide +kernel)).trans (congrArg (fun b => some (PyData.bool b)) (by decide +kernel))
@[simp] theorem ws53 : eqM (.str "table") (.str "rules") = some (.bool false) := (e_eqS (by decide +kernel) (by decide +kernel)).trans (congrArg (fun b => some (PyData.bool b)) (by decide +kernel))
@[simp] theorem ws54 : eqM (.str "table") (.str "card") = some (.bool false) := (e_eqS (by decide +kernel) (by decide +kernel)).trans (congrArg (fun b => some (PyData.bool b)) (by decide +kernel))
@[simp] theorem ws55 : eqM (.str "table") (.str "table") = some (.bool true) := (e_eqS (by decide +kernel) (by decide +kernel)).trans (congrArg (fun b => some (PyData.bool b)) (by decide +kernel))
@[simp] theorem ws56 : eqM (.str "table") (.str "not") = some (.bool false) := (e_eqS (by decide +kernel) (by decide +kernel)).trans (congrArg (fun b => some (PyData.bool b)) (by decide +kernel))
@[simp] theorem ws57 : eqM (.str "table") (.str "and") = some (.bool false) := (e_eqS (by decide +kernel) (by decide +kernel)).trans (congrArg (fun b => some (PyData.bool b)) (by decide +kernel))
@[simp] theorem ws58 : eqM (.str "table") (.str "or") = some (.bool false) := (e_eqS (by decide +kernel) (by decide +kernel)).trans (congrArg (fun b => some (PyData.bool b)) (by decide +kernel))
@[simp] theorem ws59 : eqM (.str "table") (.str "odd") = some (.bool false) := (e_eqS (by decide +kernel) (by decide +kernel)).trans (congrArg (fun b => some (PyData.bool b)) (by decide +kernel))
@[simp] theorem wj60 : inM (.str "table") c_JOINING_WORDS = some (.bool false) := in_join.trans (congrArg (fun b => some (PyData.bool b)) (by decide +kernel))
@[simp] theorem wi60 : isTy "str" (.str "table") = true := rfl
@[simp] theorem ws60 : eqM (.str "not") (.str "say") = some (.bool false) := (e_eqS (by decide +kernel) (by decide +kernel)).trans (congrArg (fun b => some (PyData.bool b)) (by decide +kernel))
@[simp] theorem ws61 : eqM (.str "not") (.str "is") = some (.bool false) := (e_eqS (by decide +kernel) (by decide +kernel)).trans (congrArg (fun b => some (PyData.bool b)) (by decide +kernel))
@[simp] theorem ws62 : eqM (.str "not") (.str "tree") = some (.bool false) := (e_eqS (by decide +kernel) (by decide +kernel)).trans (congrArg (fun b => some (PyData.bool b)) (by decide +kernel))
@[simp] theorem ws63 : eqM (.str "not") (.str "rules") = some (.bool false) := (e_eqS (by decide +kernel) (by decide +kernel)).trans (congrArg (fun b => some (PyData.bool b)) (by decide +kernel))
@[simp] theorem ws64 : eqM (.str "not") (.str "card") = some (.bool false) := (e_eqS (by decide +kernel) (by decide +kernel)).trans (congrArg (fun b => some (PyData.bool b)) (by decide +kernel))
@[simp] theorem ws65 : eqM (.str "not") (.str "table") = some (.bool false) := (e_eqS (by decide +kernel) (by decide +kernel)).trans (congrArg (fun b => some (PyData.bool b)) (by decide +kernel))
@[simp] theorem ws66 : eqM (.str "not") (.str "not") = some (.bool true) := (e_eqS (by decide +kernel) (by decide +kernel)).trans (congrArg (fun b => some (PyData.bool b)) (by decide +kernel))
@[simp] theorem ws67 : eqM (.str "not") (.str "and") = some (.bool false) := (e_eqS (by decide +kernel) (by decide +kernel)).trans (congrArg (fun b => some (PyData.bool b)) (by decide +kernel))
@[simp] theorem ws68 : eqM (.str "not") (.str "or") = some (.bool false) := (e_eqS (by decide +kernel) (by decide +kernel)).trans (congrArg (fun b => some (PyData.bool b)) (by decide +kernel))
@[simp] theorem ws69 : eqM (.str "not") (.str "odd") = some (.bool false) := (e_eqS (by decide +kernel) (by decide +kernel)).trans (congrArg (fun b => some (PyData.bool b)) (by decide +kernel))
@[simp] theorem wj70 : inM (.str "not") c_JOINING_WORDS = some (.bool false) := in_join.trans (congrArg (fun b => some (PyData.bool b)) (by decide +kernel))
@[simp] theorem wi70 : isTy "str" (.str "not") = true := rfl
@[simp] theorem ws70 : eqM (.str "and") (.str "say") = some (.bool false) := (e_eqS (by decide +kernel) (by decide +kernel)).trans (congrArg (fun b => some (PyData.bool b)) (by decide +kernel))
@[simp] theorem ws71 : eqM (.str "and") (.str "is") = some (.bool false) := (e_eqS (by decide +kernel) (by decide +kernel)).trans (congrArg (fun b => some (PyData.bool b)) (by decide +kernel))
@[simp] theorem ws72 : eqM (.str "and") (.str "tree") = some (.bool false) := (e_eqS (by decide +kernel) (by decide +kernel)).trans (congrArg (fun b => some (PyData.bool b)) (by decide +kernel))
@[simp] theorem ws73 : eqM (.str "and") (.str "rules") = some (.bool false) := (e_eqS (by decide +kernel) (by decide +kernel)).trans (congrArg (fun b => some (PyData.bool b)) (by decide +kernel))
@[simp] theorem ws74 : eqM (.str "and") (.str "card") = some (.bool false) := (e_eqS (by decide +kernel) (by decide +kernel)).trans (congrArg (fun b => some (PyData.bool b)) (by decide +kernel))
@[simp] theorem ws75 : eqM (.str "and") (.str "table") = some (.bool false) := (e_eqS (by decide +kernel) (by decide +kernel)).trans (congrArg (fun b => some (PyData.bool b)) (by decide +kernel))
@[simp] theorem ws76 : eqM (.str "and") (.str "not") = some (.bool false) := (e_eqS (by decide +kernel) (by decide +kernel)).trans (congrArg (fun b => some (PyData.bool b)) (by decide +kernel))
@[simp] theorem ws77 : eqM (.str "and") (.str "and") = some (.bool true) := (e_eqS (by decide +kernel) (by decide +kernel)).trans (congrArg (fun b => some (PyData.bool b)) (by decide +kernel))
@[simp] theorem ws78 : eqM (.str "and") (.str "or") = some (.bool false) := (e_eqS (by decide +kernel) (by decide +kernel)).trans (congrArg (fun b => some (PyData.bool b)) (by decide +kernel))
@[simp] theorem ws79 : eqM (.str "and") (.str "odd") = some (.bool false) := (e_eqS (by decide +kernel) (by decide +kernel)).trans (congrArg (fun b => some (PyData.bool b)) (by decide +kernel))
@[simp] theorem wj80 : inM (.str "and") c_JOINING_WORDS = some (.bool true) := in_join.trans (congrArg (fun b => some (PyData.bool b)) (by decide +kernel))
@[simp] theorem wi80 : isTy "str" (.str "and") = true := rfl
@[simp] theorem ws80 : eqM (.str "or") (.str "say") = some (.bool false) := (e_eqS (by decide +kernel) (by decide +kernel)).trans (congrArg (fun b => some (PyData.bool b)) (by decide +kernel))
@[simp] theorem ws81 : eqM (.str "or") (.str "is") = some (.bool false) := (e_eqS (by decide +kernel) (by decide +kernel)).trans (congrArg (fun b => some (PyData.bool b)) (by decide +kernel))
@[simp] theorem ws82 : eqM (.str "or") (.str "tree") = some (.bool false) := (e_eqS (by decide +kernel) (by decide +kernel)).trans (congrArg (fun b => some (PyData.bool b)) (by decide +kernel))
@[simp] theorem ws83 : eqM (.str "or") (.str "rules") = some (.bool false) := (e_eqS (by decide +kernel) (by decide +kernel)).trans (congrArg (fun b => some (PyData.bool b)) (by decide +kernel))
@[simp] theorem ws84 : eqM (.str "or") (.str "card") = some (.bool false) := (e_eqS (by decide +kernel) (by decide +kernel)).trans (congrArg (fun b => some (PyData.bool b)) (by decide +kernel))
@[simp] theorem ws85 : eqM (.str "or") (.str "table") = some (.bool false) := (e_eqS (by decide +kernel) (by decide +kernel)).trans (congrArg (fun b => some (PyData.bool b)) (by decide +kernel))
@[simp] theorem ws86 : eqM (.str "or") (.str "not") = some (.bool false) := (e_eqS (by decide +kernel) (by decide +kernel)).trans (congrArg (fun b => some (PyData.bool b)) (by decide +kernel))
@[simp] theorem ws87 : eqM (.str "or") (.str "and") = some (.bool false) := (e_eqS (by decide +kernel) (by decide +kernel)).trans (congrArg (fun b => some (PyData.bool b)) (by decide +kernel))
@[simp] theorem ws88 : eqM (.str "or") (.str "or") = some (.bool true) := (e_eqS (by decide +kernel) (by decide +kernel)).trans (congrArg (fun b => some (PyData.bool b)) (by decide +kernel))
@[simp] theorem ws89 : eqM (.str "or") (.str "odd") = some (.bool false) := (e_eqS (by decide +kernel) (by decide +kernel)).trans (congrArg (fun b => some (PyData.bool b)) (by decide +kernel))
@[simp] theorem wj90 : inM (.str "or") c_JOINING_WORDS = some (.bool true) := in_join.trans (congrArg (fun b => some (PyData.bool b)) (by decide +kernel))
@[simp] theorem wi90 : isTy "str" (.str "or") = true := rfl
@[simp] theorem ws90 : eqM (.str "odd") (.str "say") = some (.bool false) := (e_eqS (by decide +kernel) (by decide +kernel)).trans (congrArg (fun b => some (PyData.bool b)) (by decide +kernel))
@[simp] theorem ws91 : eqM (.str "odd") (.str "is") = some (.bool false) := (e_eqS (by decide +kernel) (by decide +kernel)).trans (congrArg (fun b => some (PyData.bool b)) (by decide +kernel))
@[simp] theorem ws92 : eqM (.str "odd") (.str "tree") = some (.bool false) := (e_eqS (by decide +kernel) (by decide +kernel)).trans (congrArg (fun b => some (PyData.bool b)) (by decide +kernel))
@[simp] theorem ws93 : eqM (.str "odd") (.str "rules") = some (.bool false) := (e_eqS (by decide +kernel) (by decide +kernel)).trans (congrArg (fun b => some (PyData.bool b)) (by decide +kernel))
@[simp] theorem ws94 : eqM (.str "odd") (.str "card") = some (.bool false) := (e_eqS (by decide +kernel) (by decide +kernel)).trans (congrArg (fun b => some (PyData.bool b)) (by decide +kernel))
@[simp] theorem ws95 : eqM (.str "odd") (.str "table") = some (.bool false) := (e_eqS (by decide +kernel) (by decide +kernel)).trans (congrArg (fun b => some (PyData.bool b)) (by decide +kernel))
@[simp] theorem ws96 : eqM (.str "odd") (.str "not") = some (.bool false) := (e_eqS (by decide +kernel) (by decide +kernel)).trans (congrArg (fun b => some (PyData.bool b)) (by decide +kernel))
@[simp] theorem ws97 : eqM (.str "odd") (.str "and") = some (.bool false) := (e_eqS (by decide +kernel) (by decide +kernel)).trans (congrArg (fun b => some (PyData.bool b)) (by decide +kernel))
@[simp] theorem ws98 : eqM (.str "odd") (.str "or") = some (.bool false) := (e_eqS (by decide +kernel) (by decide +kernel)).trans (congrArg (fun b => some (PyData.bool b)) (by decide +kernel))
@[simp] theorem ws99 : eqM (.str "odd") (.str "odd") = some (.bool true) := (e_eqS (by decide +kernel) (by decide +kernel)).trans (congrArg (fun b => some (PyData.bool b)) (by decide +kernel))
@[simp] theorem wj100 : inM (.str "odd") c_JOINING_WORDS = some (.bool true) := in_join.trans (congrArg (fun b => some (PyData.bool b)) (by decide +kernel))
@[simp] theorem wi100 : isTy "str" (.str "odd") = true := rfl
/-! ## forms -/
inductive Jw where
  | and | or | odd
def Jw.str : Jw → Str
  | .and => "and"
  | .or => "or"
  | .odd => "odd"
def Jw.ev : Jw → List Bool → Bool
  | .and, bs => bs.all id
  | .or, bs => bs.any id
  | .odd, bs => bs.countP id % 2 == 1
abbrev Cond := Nat × List Nat
abbrev Rule := List Cond × Bool
inductive Frm where
  | say (b : Bool)
  | test (f : Nat) (vs : List Nat)
  | tree (f : Nat) (bs : List Frm)
  | rules (rs : List Rule) (l : Bool)
  | card (ws : List (List Int)) (t : Int)
  | table (rs : List Bool)
  | neg (x : Frm)
  | join (w : Jw) (xs : List Frm)
def condD (c : Cond) : PyData := .tuple [nD c.1, .tuple (c.2.map nD)]
abbrev condsD (cs : List Cond) : PyData := .tuple (cs.map condD)
def ruleD (r : Rule) : PyData := .tuple [condsD r.1, .bool r.2]
def rowD (w : List Int) : PyData := .tuple (w.map .int)
mutual
def Frm.D : Frm → PyData
  | .say b => .tuple [.str "say", .bool b]
  | .test f vs => .tuple [.str "is", nD f, .tuple (vs.map nD)]
  | .tree f bs => .tuple [.str "tree", nD f, .tuple (Frm.Ds bs)]
  | .rules rs l => .tuple [.str "rules", .tuple (rs.map ruleD), .bool l]
  | .card ws t => .tuple [.str "card", .tuple (ws.map rowD), .int t]
  | .table rs => .tuple [.str "table", .tuple (rs.map .bool)]
  | .neg x => .tuple [.str "not", x.D]
  | .join w xs => .tuple [.str w.str, .tuple (Frm.Ds xs)]
def Frm.Ds : List Frm → List PyData
  | [] => []
  | x :: xs => x.D :: Frm.Ds xs
end
theorem Frm.Ds_eq : ∀ xs : List Frm, Frm.Ds xs = xs.map Frm.D
  | [] => by rw [Frm.Ds]; rfl
  | x :: xs => by rw [Frm.Ds, Frm.Ds_eq xs]; rfl
def fitsB (cs : List Nat) (r : List Cond) : Bool := r.all fun c => c.2.contains (cs.getD c.1 0)
def plc : Nat → List Nat → List Nat → Nat
  | a, n :: ns, c :: cs => plc (a * n + c) ns cs
  | a, _, _ => a
def wsum : List (List Int) → List Nat → Int
  | w :: ws, c :: cs => w.getD c 0 + wsum ws cs
  | _, _ => 0
mutual
def Frm.ev (ns cs : List Nat) : Frm → Bool
  | .say b => b
  | .test f vs => vs.contains (cs.getD f 0)
  | .tree f bs => (Frm.evs ns cs bs).getD (cs.getD f 0) false
  | .rules rs l => match rs.find? fun r => fitsB cs r.1 with
    | some r => r.2
    | none => l
  | .card ws t => decide (t ≤ wsum ws cs)
  | .table rs => rs.getD (plc 0 ns cs) false
  | .neg x => !x.ev ns cs
  | .join w xs => w.ev (Frm.evs ns cs xs)
def Frm.evs (ns cs : List Nat) : List Frm → List Bool
  | [] => []
  | x :: xs => x.ev ns cs :: Frm.evs ns cs xs
end
theorem Frm.evs_eq {ns cs : List Nat} : ∀ xs : List Frm, Frm.evs ns cs xs = xs.map (Frm.ev ns cs)
  | [] => by rw [Frm.evs]; rfl
  | x :: xs => by rw [Frm.evs, Frm.evs_eq xs]; rfl
def TestOk (ns : List Nat) (c : Cond) : Prop := ∃ n, ns[c.1]? = some n ∧ AscFrom 0 n c.2
def CondsOk (ns : List Nat) (cs : List Cond) : Prop := AscFrom 0 ns.length (cs.map Prod.fst) ∧ ∀ c ∈ cs, TestOk ns c
mutual
def Frm.Ok (ns : List Nat) : Frm → Prop
  | .say _ => True
  | .test f vs => TestOk ns (f, vs)
  | .tree f bs => ns[f]? = some bs.length ∧ Frm.Oks ns bs
  | .rules rs _ => rs.length ≤ 1000 ∧ ∀ r ∈ rs, CondsOk ns r.1
  | .card ws _ => ws.length = ns.length ∧ ∀ (i n : Nat) (w : List Int), ns[i]? = some n → ws[i]? = some w → w.length = n
  | .table rs => prod ns ≤ 1024 ∧ rs.length = prod ns
  | .neg x => x.Ok ns
  | .join _ xs => xs.length ≤ 1000 ∧ Frm.Oks ns xs
def Frm.Oks (ns : List Nat) : List Frm → Prop
  | [] => True
  | x :: xs => x.Ok ns ∧ Frm.Oks ns xs
end
theorem Frm.Oks_iff {ns : List Nat} : ∀ {xs : List Frm}, Frm.Oks ns xs ↔ ∀ x ∈ xs, x.Ok ns
  | [] => by rw [Frm.Oks]; simp
  | x :: xs => by rw [Frm.Oks, Frm.Oks_iff (xs := xs)]; simp
mutual
def Frm.dp : Frm → Nat
  | .tree _ bs => 1 + Frm.dps bs
  | .neg x => 1 + x.dp
  | .join _ xs => 1 + Frm.dps xs
  | _ => 0
def Frm.dps : List Frm → Nat
  | [] => 0
  | x :: xs => max x.dp (Frm.dps xs)
end
theorem Frm.dps_le : ∀ {xs : List Frm} {x : Frm}, x ∈ xs → x.dp ≤ Frm.dps xs
  | y :: ys, x, h => by
    rw [Frm.dps]
    rcases List.mem_cons.mp h with rfl | h
    · omega
    · have := Frm.dps_le h
      omega
theorem Frm.dps_of {n : Nat} : ∀ {xs : List Frm}, (∀ x ∈ xs, x.dp ≤ n) → Frm.dps xs ≤ n
  | [], _ => by rw [Frm.dps]; omega
  | y :: ys, h => by
    rw [Frm.dps]
    have h1 := h y (List.mem_cons_self ..)
    have h2 := Frm.dps_of (xs := ys) fun x hx => h x (List.mem_cons_of_mem _ hx)
    omega
mutual
def Frm.sz : Frm → Nat
  | .tree _ bs => 1 + Frm.szs bs
  | .neg x => 1 + x.sz
  | .join _ xs => 1 + Frm.szs xs
  | _ => 1
def Frm.szs : List Frm → Nat
  | [] => 0
  | x :: xs => x.sz + Frm.szs xs
end
theorem Frm.ind {P : Frm → Prop} (say : ∀ b, P (.say b)) (test : ∀ f vs, P (.test f vs)) (tree : ∀ f bs, (∀ b ∈ bs, P b) → P (.tree f bs)) (rules : ∀ rs l, P (.rules rs l)) (card : ∀ ws t, P (.card ws t)) (table : ∀ rs, P (.table rs)) (neg : ∀ x, P x → P (.neg x)) (join : ∀ w xs, (∀ b ∈ xs, P b) → P (.join w xs)) (x : Frm) : P x :=
  Frm.rec (motive_1 := P) (motive_2 := fun bs => ∀ b ∈ bs, P b) say test tree rules card table neg join (fun _ h => nomatch h) (fun _ _ h1 h2 b hb => (List.mem_cons.mp hb).elim (fun e => e ▸ h1) (h2 b)) x
/-! ## comprehensions, found by their place in the goal -/
section
variable {α : Type} {vs : List Nat} {mi : M (List PyData)} {g : PyData → En → Option En} {mt : M Bool} {me : M PyData} {r : En}
theorem lcy (f : α → PyData) (F : α → PyData) (e : α → En) {xs : List α} (hi : mi r = some (.ok (xs.map f) r)) (hf : freeAt r vs = true) (hl : xs.length ≤ 1000000)
    (hg : ∀ x ∈ xs, g (f x) (wipeE r vs) = some (e x)) (hw : ∀ x ∈ xs, wipeE (e x) vs = wipeE r vs) (he : ∀ x ∈ xs, me (e x) = some (.ok (F x) (e x))) :
    mLc vs mi g mYes me r = some (.ok (xs.map F) r) := lc_y f F e hi hf hl hg hw he
theorem lcm (f : α → PyData) (p : α → Bool) (F : α → PyData) (e : α → En) {xs : List α} (hi : mi r = some (.ok (xs.map f) r)) (hf : freeAt r vs = true) (hl : xs.length ≤ 1000000)
    (hg : ∀ x ∈ xs, g (f x) (wipeE r vs) = some (e x)) (hw : ∀ x ∈ xs, wipeE (e x) vs = wipeE r vs) (ht : ∀ x ∈ xs, mt (e x) = some (.ok (p x) (e x))) (he : ∀ x ∈ xs, p x = true → me (e x) = some (.ok (F x) (e x))) :
    mLc vs mi g mt me r = some (.ok ((xs.filter p).map F) r) := lc_m f p F e hi hf hl hg hw ht he
end
theorem getD_of {α : Type} {xs : List α} {i : Nat} {v d : α} (h : xs[i]? = some v) : xs.getD i d = v := by rw [List.getD_eq_getElem?_getD, h]; rfl
end DL
namespace DL
open PySem PySem.Spec PyProof.Rows L2 Lk
theorem canLay_map {α : Type} {f : α → PyData} : ∀ {xs : List α}, (∀ x ∈ xs, (f x).canLay0 = true) → PyData.canLayAll0 (xs.map f) = true
  | [], _ => rfl
  | x :: xs, h => by
    rw [List.map_cons, PyData.canLayAll0, h x (List.mem_cons_self ..), canLay_map fun y hy => h y (List.mem_cons_of_mem _ hy)]
    rfl
theorem depth_map {α : Type} {f : α → PyData} {n : Nat} : ∀ {xs : List α}, (∀ x ∈ xs, (f x).depth ≤ n) → PyData.depthAll (xs.map f) ≤ n
  | [], _ => by rw [List.map_nil, PyData.depthAll]; omega
  | x :: xs, h => by
    have h1 := h x (List.mem_cons_self ..)
    have h2 := depth_map (xs := xs) fun y hy => h y (List.mem_cons_of_mem _ hy)
    rw [List.map_cons, PyData.depthAll]
    omega
/-- plain data: may be compared, n levels deep at most -/
def Sh (n : Nat) (d : PyData) : Prop := d.canLay0 = true ∧ d.depth ≤ n
theorem Sh.int {i : Int} : Sh 0 (.int i) := ⟨by rw [PyData.canLay0], by rw [PyData.depth]; omega⟩
theorem Sh.n {i : Nat} : Sh 0 (nD i) := Sh.int
theorem Sh.bool {b : Bool} : Sh 0 (.bool b) := ⟨by rw [PyData.canLay0], by rw [PyData.depth]; omega⟩
theorem Sh.none : Sh 0 .none := ⟨by rw [PyData.canLay0], by rw [PyData.depth]; omega⟩
theorem Sh.o {o : Option Nat} : Sh 0 (oD o) := by cases o; exact Sh.none; exact Sh.n
theorem Sh.list {α : Type} {f : α → PyData} {xs : List α} {n : Nat} (h : ∀ x ∈ xs, Sh n (f x)) : Sh (n + 1) (.list (xs.map f)) :=
  ⟨by rw [PyData.canLay0]; exact canLay_map fun x hx => (h x hx).1, by rw [PyData.depth]; have := depth_map fun x hx => (h x hx).2; omega⟩
theorem Sh.tup {α : Type} {f : α → PyData} {xs : List α} {n : Nat} (h : ∀ x ∈ xs, Sh n (f x)) : Sh (n + 1) (.tuple (xs.map f)) :=
  ⟨by rw [PyData.canLay0]; exact canLay_map fun x hx => (h x hx).1, by rw [PyData.depth]; have := depth_map fun x hx => (h x hx).2; omega⟩
theorem Sh.sh {n : Nat} {d : PyData} (h : Sh n d) (hn : n ≤ 64 := by decide) : SeqAt.shaped d = true := shaped_of h.1 (Nat.le_trans h.2 hn)
/-! ## the same of data -/
theorem eqv_n {a b : Nat} : PyData.eqv (nD a) (nD b) = (a == b) := by
  unfold nD
  rw [PyData.eqv, Bool.eq_iff_iff, beq_iff_eq, beq_iff_eq]
  omega
theorem memD_map {α : Type} {f : α → PyData} {xs : List α} {v : PyData} {p : α → Bool} (h : ∀ x ∈ xs, PyData.eqv (f x) v = p x) : memD v (xs.map f) = xs.any p := by
  unfold memD
  rw [List.any_map]
  induction xs with
  | nil => rfl
  | cons x xs ih =>
    rw [List.any_cons, List.any_cons, ih fun y hy => h y (List.mem_cons_of_mem _ hy)]
    congr 1
    exact h x (List.mem_cons_self ..)
theorem any_eq {xs : List Nat} {v : Nat} : (xs.any fun x => x == v) = xs.contains v := by
  induction xs with
  | nil => rfl
  | cons x xs ih =>
    rw [List.any_cons, ih, List.contains_cons, Bool.beq_comm]
theorem flat_n {xs : List Nat} : (xs.map nD).all flatD = true := by rw [List.all_map]; exact List.all_eq_true.mpr fun _ _ => rfl
@[simp] theorem e_in_tn {v : Nat} {xs : List Nat} : inM (nD v) (.tuple (xs.map nD)) = some (.bool (xs.contains v)) := by
  show (if flatD (nD v) && (xs.map nD).all flatD then _ else _) = _
  rw [flat_n]
  show some (PyData.bool (memD _ _)) = _
  rw [memD_map (p := fun x => x == v) fun x _ => eqv_n, any_eq]
theorem e_in_ln {v : Nat} {xs : List Nat} : inM (nD v) (nsD xs) = some (.bool (xs.contains v)) := by
  show (if SeqAt.shaped (nD v) && SeqAt.shaped (nsD xs) then _ else _) = _
  rw [(Sh.n).sh, (Sh.list fun _ _ => Sh.n).sh]
  show some (PyData.bool (memD _ _)) = _
  rw [memD_map (p := fun x => x == v) fun x _ => eqv_n, any_eq]
theorem sh_bools {bs : List Bool} : SeqAt.shaped (.list (bs.map PyData.bool)) = true := (Sh.list fun _ _ => Sh.bool).sh
theorem mem_bools {b : Bool} {bs : List Bool} : memD (.bool b) (bs.map PyData.bool) = bs.contains b := by
  rw [memD_map (p := fun x => x == b) fun x _ => by rw [PyData.eqv]]
  induction bs with
  | nil => rfl
  | cons x xs ih => rw [List.any_cons, ih, List.contains_cons, Bool.beq_comm]
@[simp] theorem e_in_b {b : Bool} {bs : List Bool} : inM (.bool b) (.list (bs.map PyData.bool)) = some (.bool (bs.contains b)) := by
  show (if SeqAt.shaped (.bool b) && SeqAt.shaped (.list (bs.map PyData.bool)) then _ else _) = _
  rw [sh_bools, (Sh.bool).sh, mem_bools]
  rfl
@[simp] theorem e_notIn_b {b : Bool} {bs : List Bool} : notInM (.bool b) (.list (bs.map PyData.bool)) = some (.bool (!bs.contains b)) := by
  show (if SeqAt.shaped (.bool b) && SeqAt.shaped (.list (bs.map PyData.bool)) then _ else _) = _
  rw [sh_bools, (Sh.bool).sh, mem_bools]
  rfl
theorem e_count_b {b : Bool} {bs : List Bool} : countM (.list (bs.map PyData.bool)) [.bool b] = some (nD (bs.count b)) := by
  show (if flatD (.bool b) && (bs.map PyData.bool).all flatD then _ else _) = _
  rw [show (bs.map PyData.bool).all flatD = true by rw [List.all_map]; exact List.all_eq_true.mpr fun _ _ => rfl]
  show some (PyData.int _) = some (PyData.int _)
  rw [List.countP_map, List.count]
  congr 3
theorem e_sumF {α : Type} {xs : List α} {f : α → Int} : sumM [.list (xs.map fun x => PyData.int (f x))] = some (.int (xs.map f).sum) := by
  have := e_asum (ns := xs.map f)
  rw [List.map_map] at this
  exact this
theorem for_fst {α : Type} {g : PyData → En → Option En} {b : SM} (f : α → PyData) (enc : Option α → En) (p : α → Bool) (F : α → PyData) : ∀ {xs : List α} {o : Option α}, (∀ o, ∀ x ∈ xs, ∃ r1 r2, g (f x) (enc o) = some r1 ∧ b r1 = if p x then some (.rt (F x) r2) else some (.nx (enc (some x)))) →
    (∃ x r2, xs.find? p = some x ∧ forGo g b (xs.map f) (enc o) = some (.rt (F x) r2)) ∨ (xs.find? p = none ∧ ∃ o', forGo g b (xs.map f) (enc o) = some (.nx (enc o')))
  | [], o, _ => .inr ⟨rfl, o, rfl⟩
  | x :: xs, o, h => by
    obtain ⟨r1, r2, h1, h2⟩ := h o x (List.mem_cons_self ..)
    rw [List.map_cons, forGo_cons, h1]
    dsimp only [Option.bind]
    cases hp : p x with
    | true =>
      rw [hp, if_pos rfl] at h2
      rw [h2, List.find?_cons, hp]
      exact .inl ⟨x, r2, rfl, rfl⟩
    | false =>
      rw [hp, if_neg Bool.false_ne_true] at h2
      rw [h2, List.find?_cons, hp]
      exact for_fst f enc p F (xs := xs) (o := some x) fun o y hy => h o y (List.mem_cons_of_mem _ hy)
@[simp] theorem e_eq_l {a n : Nat} : eqM (nD a) (.int (no_index (@OfNat.ofNat Int n instOfNat))) = some (.bool (a == n)) := e_eq_n
@[simp] theorem e_ne_l {a n : Nat} : neM (nD a) (.int (no_index (@OfNat.ofNat Int n instOfNat))) = some (.bool (!(a == n))) := e_ne_n
@[simp] theorem e_lt_l {a n : Nat} : ltM (nD a) (.int (no_index (@OfNat.ofNat Int n instOfNat))) = some (.bool (decide (a < n))) := e_lt_n
theorem e_mod_n {a b : Nat} (h : 0 < b) : modM (nD a) (nD b) = some (nD (a % b)) := by
  have := e_modI (a := (a : Int)) (b := b) (by omega)
  show modM (.int a) (.int b) = _
  rw [this]
  rfl
@[simp] theorem e_mod_2 {a : Nat} : modM (nD a) (.int 2) = some (nD (a % 2)) := e_mod_n (b := 2) (by decide)
/-! ## cases -/
theorem Case.at {ns cs : List Nat} (h : Case ns cs) {i n : Nat} (e : ns[i]? = some n) : ∃ c, cs[i]? = some c ∧ c < n := by
  have li : i < ns.length := (List.getElem?_eq_some_iff.mp e).1
  have lc : i < cs.length := by rw [h.1]; exact li
  exact ⟨cs[i], List.getElem?_eq_getElem lc, h.2 i n _ e (List.getElem?_eq_getElem lc)⟩
theorem Case.nil : Case [] [] := ⟨rfl, fun _ _ _ h => by simp at h⟩
theorem Case.cons {n c : Nat} {ns cs : List Nat} : Case (n :: ns) (c :: cs) ↔ c < n ∧ Case ns cs := by
  constructor
  · intro h
    exact ⟨h.2 0 n c rfl rfl, by simpa using h.1, fun i m d e e' => h.2 (i + 1) m d (by simpa using e) (by simpa using e')⟩
  · rintro ⟨h1, h2, h3⟩
    refine ⟨by simpa using h2, fun i m d e e' => ?_⟩
    cases i with
    | zero => cases e; cases e'; exact h1
    | succ i => exact h3 i m d (by simpa using e) (by simpa using e')
theorem plc_lt : ∀ {ns cs : List Nat} {a : Nat}, Case ns cs → plc a ns cs < (a + 1) * prod ns
  | [], [], a, _ => by show a < (a + 1) * 1; omega
  | n :: ns, c :: cs, a, h => by
    obtain ⟨h1, h2⟩ := Case.cons.mp h
    have := plc_lt (a := a * n + c) h2
    rw [plc, prod]
    refine Nat.lt_of_lt_of_le this ?_
    rw [← Nat.mul_assoc]
    refine Nat.mul_le_mul_right _ ?_
    rw [Nat.succ_mul]
    omega
  | [], _ :: _, _, h => by have := h.1; simp at this
  | _ :: _, [], _, h => by have := h.1; simp at this
theorem e_add_n {a b : Nat} : addM (nD a) (nD b) = some (nD (a + b)) := by
  show some (PyData.int ((a : Int) + b)) = _
  rw [← Int.natCast_add]
  rfl
theorem fold_zip {β : Type} (f : β → Nat → Nat → β) : ∀ (ns cs : List Nat) (s : β) (g : Nat → β → β), cs.length = ns.length → (∀ i n c, ns[i]? = some n → cs[i]? = some c → ∀ s, g i s = f s n c) → (List.range ns.length).foldl (fun s i => g i s) s = (ns.zip cs).foldl (fun s p => f s p.1 p.2) s
  | [], [], s, g, _, _ => rfl
  | n :: ns, c :: cs, s, g, hl, h => by
    rw [List.length_cons, List.range_succ_eq_map, List.foldl_cons, List.foldl_map, List.zip_cons_cons, List.foldl_cons, h 0 n c rfl rfl s]
    exact fold_zip f ns cs _ (fun i s => g (i + 1) s) (by simpa using hl) fun i m d e e' s => h (i + 1) m d (by simpa using e) (by simpa using e') s
  | [], _ :: _, _, _, hl, _ => by simp at hl
  | _ :: _, [], _, _, hl, _ => by simp at hl
theorem plc_fold : ∀ (ns cs : List Nat) (a : Nat), (ns.zip cs).foldl (fun s p => s * p.1 + p.2) a = plc a ns cs
  | [], [], a => rfl
  | n :: ns, c :: cs, a => by
    rw [List.zip_cons_cons, List.foldl_cons, plc_fold, plc]
  | [], _ :: _, a => rfl
  | _ :: _, [], a => rfl
theorem Sz.tail {n : Nat} {ns : List Nat} (h : Sz (n :: ns)) : Sz ns := ⟨by have := h.1; simp at this; omega, fun m hm => h.2 m (List.mem_cons_of_mem _ hm)⟩
/-- place * size + part, for all fields, below a bound -/
theorem plc_part {ns cs : List Nat} (hn : Sz ns) (hc : Case ns cs) : ∀ i, i ≤ ns.length → plc 0 (ns.take i) (cs.take i) ≤ 6 ^ 24 := by
  intro i hi
  have lt : Case (ns.take i) (cs.take i) := by
    refine ⟨by simp [hc.1], fun j n c e e' => ?_⟩
    rw [List.getElem?_take] at e e'
    split at e
    · rename_i z
      rw [if_pos z] at e'
      exact hc.2 j n c e e'
    · cases e
  have := plc_lt (a := 0) lt
  have b := prod_small (ns := ns.take i) ⟨by simp; have := hn.1; omega, fun n hm => hn.2 n (List.mem_of_mem_take hm)⟩
  omega
theorem plc_snoc : ∀ {ns cs : List Nat} {a n c : Nat}, cs.length = ns.length → plc a (ns ++ [n]) (cs ++ [c]) = plc a ns cs * n + c
  | [], [], _, _, _, _ => rfl
  | m :: ns, d :: cs, a, n, c, h => by
    show plc (a * m + d) (ns ++ [n]) (cs ++ [c]) = plc (a * m + d) ns cs * n + c
    exact plc_snoc (by simpa using h)
  | [], _ :: _, _, _, _, h => by simp at h
  | _ :: _, [], _, _, _, h => by simp at h
theorem range_drop {n j : Nat} {i : Nat} {xs : List Nat} (h : i :: xs = (List.range n).drop j) : i = j ∧ j < n ∧ xs = (List.range n).drop (j + 1) := by
  have lj : j < n := by
    have e := congrArg List.length h
    rw [List.length_drop, List.length_range, List.length_cons] at e
    omega
  rw [List.drop_eq_getElem_cons (by rw [List.length_range]; exact lj), List.getElem_range] at h
  obtain ⟨h1, h2⟩ := List.cons.inj h
  exact ⟨h1, lj, h2⟩
theorem nextc {b : SM} {r r2 : En} (h : b r = some (.nx r2)) : b r = some (.nx r2) ∨ b r = some (.ct r2) := .inl h
theorem g_place_ok {ns cs : List Nat} (hn : Sz ns) (hc : Case ns cs) : g_place_of_case [nsD ns, nsD cs] = some (nD (plc 0 ns cs)) := by
  rw [r_place_of_case]
  have l24 := hn.1
  simp [v_place_of_case, e_rng ns.length (by omega), nD0]
  have L := for_m (b := sSet 2 (mOp2 addM (mOp2 mulM (mV 2) (mOp2 ixM (mV 0) (mV 3))) (mOp2 ixM (mV 1) (mV 3)))) (g := gN 3) nD (fun (s : Nat × Cel) => [.pl (nsD ns), .pl (nsD cs), .pl (nD s.1), s.2])
    (fun s i => (s.1 * ns.getD i 0 + cs.getD i 0, .pl (nD i))) (fun s xs => s.2.own = false ∧ ∃ j, xs = (List.range ns.length).drop j ∧ s.1 = plc 0 (ns.take j) (cs.take j)) (xs := List.range ns.length) (s := (0, .un))
    ⟨rfl, 0, rfl, rfl⟩ (by
      rintro ⟨a, c⟩ i xs ⟨hc', j, hj, ha⟩
      simp only at hc' ha
      obtain ⟨rfl, lj, hx⟩ := range_drop hj
      have e1 := List.getElem?_eq_getElem lj
      obtain ⟨d, e2, hd⟩ := hc.at e1
      have a1 := plc_part hn hc i (by omega)
      rw [← ha] at a1
      have b6 := (hn.2 _ (List.getElem_mem lj)).2
      refine ⟨[.pl (nsD ns), .pl (nsD cs), .pl (nD a), .pl (nD i)], by simp [hc'], nextc ?_, rfl, i + 1, hx, ?_⟩
      · simp [e1, e2, e_mul_n (lt_big a1) (lt_big b6), e_add_n]
      · simp only
        rw [List.take_add_one, List.take_add_one, e1, e2, getD_of e1, getD_of e2, ha]
        exact (plc_snoc (by simp [hc.1])).symm)
  rw [L]
  have key : ∀ (xs : List Nat) (s : Nat × Cel), (xs.foldl (fun (s : Nat × Cel) i => (s.1 * ns.getD i 0 + cs.getD i 0, Cel.pl (nD i))) s).1 = xs.foldl (fun a i => a * ns.getD i 0 + cs.getD i 0) s.1 := fun xs => by
    induction xs with
    | nil => intro s; rfl
    | cons x xs ih => intro s; exact ih _
  simp only [s_seq, s_ret, s_bind, e_V]
  show some (nD _) = _
  rw [key, fold_zip (fun s n c => s * n + c) ns cs 0 (fun i a => a * ns.getD i 0 + cs.getD i 0) hc.1 fun i n c e e' s => by rw [getD_of e, getD_of e'], plc_fold]
/-! ## what a form says -/
theorem testOk_at {ns cs : List Nat} {c : Cond} (hc : Case ns cs) (h : TestOk ns c) : ∃ v, cs[c.1]? = some v ∧ cs.getD c.1 0 = v := by
  obtain ⟨n, e, _⟩ := h
  obtain ⟨v, e2, _⟩ := hc.at e
  exact ⟨v, e2, getD_of e2⟩
theorem asc_len : ∀ {vs : List Nat} {lo n : Nat}, AscFrom lo n vs → lo + vs.length ≤ max lo n
  | [], _, _, _ => by simp; omega
  | v :: vs, lo, n, ⟨h1, h2, h3⟩ => by
    have := asc_len h3
    simp only [List.length_cons]
    omega
theorem conds_len {ns : List Nat} {cs : List Cond} (h : CondsOk ns cs) : cs.length ≤ ns.length := by
  have := asc_len h.1
  simp at this
  omega
theorem g_fits_ok {ns cs : List Nat} {r : List Cond} (hn : Sz ns) (hc : Case ns cs) (h : CondsOk ns r) : g_fits [condsD r, nsD cs] = some (.bool (fitsB cs r)) := by
  rw [r_fits]
  have l24 := hn.1
  have lr := conds_len h
  simp [v_fits]
  rw [lcy condD (fun c => .bool (c.2.contains (cs.getD c.1 0))) (fun c => [.pl (condsD r), .pl (nsD cs), .pl (nD c.1), .pl (.tuple (c.2.map nD))]) (xs := r) (by simp) (by simp [freeAt]) (by omega) (by intro c _; simp [condD]) (by simp) (by
    intro c hr
    obtain ⟨v, e1, e2⟩ := testOk_at hc (h.2 c hr)
    simp [e1, e2])]
  simp [e_allT, fitsB]
theorem g_first_ok {ns cs : List Nat} {rs : List Rule} {l : Bool} (hn : Sz ns) (hc : Case ns cs) (h : ∀ r ∈ rs, CondsOk ns r.1) :
    g_p_first_result [.tuple (rs.map ruleD), .bool l, nsD cs] = some (.bool (match rs.find? fun r => fitsB cs r.1 with
      | some r => r.2
      | none => l)) := by
  rw [r_p_first_result]
  have e := for_fst (g := gTupD 2 (gConsD (gN 3) (gConsD (gN 4) gNilD))) (b := sIf (mTru (mCall g_fits (mCons (mV 3) (mCons (mV 2) mNil)))) (sRet (mV 4)) sNil) ruleD
    (fun o => [.pl (.tuple (rs.map ruleD)), .pl (.bool l), .pl (nsD cs), (match o with | some r => .pl (condsD r.1) | none => .un), (match o with | some r => .pl (.bool r.2) | none => .un)])
    (fun r => fitsB cs r.1) (fun r => .bool r.2) (xs := rs) (o := none) (by
      intro o r hr
      refine ⟨[.pl (.tuple (rs.map ruleD)), .pl (.bool l), .pl (nsD cs), .pl (condsD r.1), .pl (.bool r.2)], [.pl (.tuple (rs.map ruleD)), .pl (.bool l), .pl (nsD cs), .pl (condsD r.1), .pl (.bool r.2)], by cases o <;> simp [ruleD], ?_⟩
      simp only [s_if, s_bind, e_tru, e_bind, e_call, e_cons, e_V, e_nil]
      simp [g_fits_ok hn hc (h r hr)]
      cases fitsB cs r.1 <;> simp)
  simp [v_p_first_result]
  rcases e with ⟨r, r2, e1, e2⟩ | ⟨e1, o, e2⟩
  · rw [e2, e1]; simp
  · rw [e2, e1]; simp
theorem ix_map {α : Type} {f : α → PyData} {xs : List α} {i : Nat} {v : α} (h : xs[i]? = some v) : ixM (.tuple (xs.map f)) (nD i) = some (f v) := by rw [e_ix_t, h]; rfl
theorem ix_mapL {α : Type} {f : α → PyData} {xs : List α} {i : Nat} {v : α} (h : xs[i]? = some v) : ixM (.list (xs.map f)) (nD i) = some (f v) := by rw [e_ix_l, h]; rfl
theorem sum_range : ∀ (ws : List (List Int)) (cs : List Nat), ws.length = cs.length → ((List.range cs.length).map fun i => (ws.getD i []).getD (cs.getD i 0) 0).sum = wsum ws cs
  | [], [], _ => rfl
  | w :: ws, c :: cs, h => by
    rw [List.length_cons, List.range_succ_eq_map, List.map_cons, List.map_map, List.sum_cons, wsum, ← sum_range ws cs (by simpa using h)]
    rfl
  | [], _ :: _, h => by simp at h
  | _ :: _, [], h => by simp at h
theorem g_wsum_ok {ns cs : List Nat} {ws : List (List Int)} (hn : Sz ns) (hc : Case ns cs) (h1 : ws.length = ns.length) (h2 : ∀ (i n : Nat) (w : List Int), ns[i]? = some n → ws[i]? = some w → w.length = n) :
    g_sum_of_weights [.tuple (ws.map rowD), nsD cs] = some (.int (wsum ws cs)) := by
  rw [r_sum_of_weights]
  have l24 := hn.1
  have lc := hc.1
  simp [v_sum_of_weights]
  rw [lcy nD (fun i => .int ((ws.getD i []).getD (cs.getD i 0) 0)) (fun i => [.pl (.tuple (ws.map rowD)), .pl (nsD cs), .pl (nD i)]) (xs := List.range cs.length) (by simp [e_rng cs.length (by omega)]) (by simp [freeAt]) (by simp; omega) (by simp) (by simp) (by
    intro i hi
    have li := List.mem_range.mp hi
    have ln : i < ns.length := by omega
    have lw : i < ws.length := by omega
    have e1 := List.getElem?_eq_getElem ln
    have e2 := List.getElem?_eq_getElem lw
    obtain ⟨c, e3, hcn⟩ := hc.at e1
    have hw := h2 i _ _ e1 e2
    have e4 : ws[i][c]? = some ws[i][c] := List.getElem?_eq_getElem (by omega)
    rw [getD_of e2, getD_of e3, getD_of e4]
    simp only [e_op2, e_bind, e_V, e_lift_some, List.getElem?_cons_zero, List.getElem?_cons_succ, ix_map e2, ix_mapL e3, rowD, ix_map e4])]
  simp only [e_bind, e_ret, e_lift_some, s_ret, s_bind, o_rt]
  rw [e_sumF, sum_range ws cs (by omega)]
  simp
theorem g_join_ok (w : Jw) (bs : List Bool) : g_p_join_answers [.str w.str, .list (bs.map PyData.bool)] = some (.bool (w.ev bs)) := by
  rw [r_p_join_answers]
  cases w with
  | and =>
    simp [v_p_join_answers, Jw.str, Jw.ev]
    induction bs with
    | nil => simp
    | cons b bs ih => cases b <;> simp_all
  | or =>
    simp [v_p_join_answers, Jw.str, Jw.ev]
    induction bs with
    | nil => simp
    | cons b bs ih => cases b <;> simp_all
  | odd =>
    simp [v_p_join_answers, Jw.str, Jw.ev, e_count_b]
    rw [List.count]
    congr 3
    funext x
    cases x <;> rfl
theorem g_alone_ok {ns cs : List Nat} (hn : Sz ns) (hc : Case ns cs) {x : Frm} (h : x.Ok ns) (hx : match x with | .tree .. => False | .neg .. => False | .join .. => False | _ => True) :
    g_p_says_alone [nsD ns, x.D, nsD cs] = some (.bool (x.ev ns cs)) := by
  rw [r_p_says_alone]
  cases x with
  | say b => simp [v_p_says_alone, Frm.D, Frm.ev]
  | test f vs =>
    rw [Frm.Ok] at h
    obtain ⟨v, e1, e2⟩ := testOk_at hc h
    simp [v_p_says_alone, Frm.D, Frm.ev, e1]
  | rules rs l =>
    rw [Frm.Ok] at h
    simp [v_p_says_alone, Frm.D, Frm.ev, g_first_ok hn hc h.2]
    all_goals (cases List.find? (fun r => fitsB cs r.fst) rs <;> rfl)
  | card ws t =>
    rw [Frm.Ok] at h
    simp [v_p_says_alone, Frm.D, Frm.ev, g_wsum_ok hn hc h.1 h.2]
  | table rs =>
    rw [Frm.Ok] at h
    have := plc_lt (a := 0) hc
    have e : rs[plc 0 ns cs]? = some rs[plc 0 ns cs] := List.getElem?_eq_getElem (by omega)
    simp [v_p_says_alone, Frm.D, Frm.ev, g_place_ok hn hc, ix_map e, e]
  | tree f bs => exact hx.elim
  | neg x => exact hx.elim
  | join w xs => exact hx.elim
theorem g_says_ok {ns cs : List Nat} (hn : Sz ns) (hc : Case ns cs) (x : Frm) : ∀ k, x.Ok ns → x.dp < k → g_says k [nsD ns, x.D, nsD cs] = some (.bool (x.ev ns cs)) := by
  induction x using Frm.ind with
  | say b => intro k h hk; cases k with | zero => omega | succ k => rw [r_says]; have := g_alone_ok hn hc h trivial; rw [Frm.D] at this; simp [v_says, Frm.D, this]
  | test f vs => intro k h hk; cases k with | zero => omega | succ k => rw [r_says]; have := g_alone_ok hn hc h trivial; rw [Frm.D] at this; simp [v_says, Frm.D, this]
  | rules rs l => intro k h hk; cases k with | zero => omega | succ k => rw [r_says]; have := g_alone_ok hn hc h trivial; rw [Frm.D] at this; simp [v_says, Frm.D, this]
  | card ws t => intro k h hk; cases k with | zero => omega | succ k => rw [r_says]; have := g_alone_ok hn hc h trivial; rw [Frm.D] at this; simp [v_says, Frm.D, this]
  | table rs => intro k h hk; cases k with | zero => omega | succ k => rw [r_says]; have := g_alone_ok hn hc h trivial; rw [Frm.D] at this; simp [v_says, Frm.D, this]
  | tree f bs ih =>
    intro k h hk
    cases k with
    | zero => omega
    | succ k =>
      rw [Frm.Ok] at h
      rw [Frm.dp] at hk
      obtain ⟨c, e1, e2⟩ := hc.at h.1
      have eb : bs[c]? = some bs[c] := List.getElem?_eq_getElem e2
      have hm : bs[c] ∈ bs := List.getElem_mem e2
      have := ih _ hm k (Frm.Oks_iff.mp h.2 _ hm) (by have := Frm.dps_le hm; omega)
      rw [r_says]
      simp [v_says, Frm.D, Frm.ev, Frm.Ds_eq, Frm.evs_eq, e1, ix_map eb, this, eb]
  | neg x ih =>
    intro k h hk
    cases k with
    | zero => omega
    | succ k =>
      rw [Frm.Ok] at h
      rw [Frm.dp] at hk
      have := ih k h (by omega)
      rw [r_says]
      simp [v_says, Frm.D, Frm.ev, this]
  | join w xs ih =>
    intro k h hk
    cases k with
    | zero => omega
    | succ k =>
      rw [Frm.Ok] at h
      rw [Frm.dp] at hk
      rw [r_says]
      have lc := lcy (vs := [3]) (mi := mSeq (mOp2 ixM (mV 1) (M.ret (.int 1)))) (g := gN 3) (me := mCall (g_says k) (mCons (mV 0) (mCons (mV 3) (mCons (mV 2) mNil)))) (r := [.pl (nsD ns), .pl (Frm.join w xs).D, .pl (nsD cs), .un])
        Frm.D (fun x => .bool (x.ev ns cs)) (fun x => [.pl (nsD ns), .pl (Frm.join w xs).D, .pl (nsD cs), .pl x.D]) (xs := xs) (by simp [Frm.D, Frm.Ds_eq]) (by simp [freeAt]) (by omega) (by simp) (by simp) (by
          intro x hx
          have := ih x hx k (Frm.Oks_iff.mp h.2 _ hx) (by have := Frm.dps_le hx; omega)
          simp [this])
      have e : (xs.map fun x => PyData.bool (x.ev ns cs)) = (xs.map (Frm.ev ns cs)).map PyData.bool := by rw [List.map_map]; rfl
      rw [e] at lc
      have j := g_join_ok w (xs.map (Frm.ev ns cs))
      rw [Frm.D, Frm.Ds_eq] at lc
      cases w <;> (simp only [Jw.str] at lc j; simp [-List.map_map, v_says, Frm.D, Frm.ev, Frm.Ds_eq, Frm.evs_eq, Jw.str, lc, j])
@[simp] theorem e_add_nn {a b : Nat} : addM (nD a) (nD b) = some (nD (a + b)) := e_add_n
@[simp] theorem e_add_l {a n : Nat} : addM (nD a) (.int (no_index (@OfNat.ofNat Int n instOfNat))) = some (nD (a + n)) := e_add_n
@[simp] theorem e_add_r {a n : Nat} : addM (.int (no_index (@OfNat.ofNat Int n instOfNat))) (nD a) = some (nD (n + a)) := e_add_n
theorem asc_of : ∀ {xs : List Nat} {lo n : Nat}, xs.Pairwise (· < ·) → (∀ x ∈ xs, lo ≤ x ∧ x < n) → AscFrom lo n xs
  | [], _, _, _, _ => trivial
  | x :: xs, lo, n, hp, h => by
    obtain ⟨h1, h2⟩ := List.pairwise_cons.mp hp
    have hx := h x (List.mem_cons_self ..)
    exact ⟨hx.1, hx.2, asc_of h2 fun y hy => ⟨h1 y hy, (h y (List.mem_cons_of_mem _ hy)).2⟩⟩
theorem asc_filter {n : Nat} {p : Nat → Bool} : AscFrom 0 n ((List.range n).filter p) :=
  asc_of (List.Pairwise.filter _ List.pairwise_lt_range) fun x hx => ⟨Nat.zero_le _, List.mem_range.mp (List.mem_filter.mp hx).1⟩
theorem mul_ok {a b : Nat} (ha : a ≤ 100000000) (hb : b ≤ 100000000) : mulM (nD a) (nD b) = some (nD (a * b)) := e_mul_n (lt_big ha) (lt_big hb)
end DL
namespace DL
open PySem PySem.Spec PyProof.Rows L2 Lk
/-! ## what is a form -/
theorem g_tuple_of_ok {ds : List PyData} {n : Nat} : g_p_is_tuple_of [.tuple ds, nD n] = some (.bool (ds.length == n)) := by
  rw [r_p_is_tuple_of]
  have : PyData.int (ds.length : Int) = nD ds.length := rfl
  simp [v_p_is_tuple_of, this]
theorem g_test_ok {ns : List Nat} {f : Nat} {vs : List Nat} (h : TestOk ns (f, vs)) : g_p_is_test [nsD ns, nD f, .tuple (vs.map nD)] = some (.bool true) := by
  obtain ⟨n, e, h2⟩ := h
  rw [r_p_is_test]
  have lf : f < ns.length := (List.getElem?_eq_some_iff.mp e).1
  have e1 : PyData.int (ns.length : Int) = nD ns.length := rfl
  simp only at e h2
  have en : ns[f] = n := (List.getElem?_eq_some_iff.mp e).2
  simp [v_p_is_test, e1, g_below_n, lf, en, g_asc (d := .tuple (vs.map nD)) rfl h2]
theorem g_condition_ok {ns : List Nat} {c : Cond} (h : TestOk ns c) : g_p_is_condition [nsD ns, condD c] = some (.bool true) := by
  rw [r_p_is_condition]
  have := g_tuple_of_ok (ds := [nD c.1, .tuple (c.2.map nD)]) (n := 2)
  have e2 : PyData.int 2 = nD 2 := rfl
  simp [v_p_is_condition, condD, e2, this, g_test_ok h]
theorem all_true {α : Type} {xs : List α} : allM [.list (xs.map fun _ => PyData.bool true)] = some (.bool true) := by
  rw [e_allT]
  simp
theorem g_conditions_ok {ns : List Nat} {cs : List Cond} (hn : Sz ns) (h : CondsOk ns cs) : g_is_conditions [nsD ns, condsD cs] = some (.bool true) := by
  rw [r_is_conditions]
  have l24 := hn.1
  have lr := conds_len h
  have e1 : PyData.int (ns.length : Int) = nD ns.length := rfl
  have a := g_asc (d := .list ((cs.map Prod.fst).map nD)) rfl h.1
  rw [List.map_map] at a
  simp [v_is_conditions]
  rw [lcy condD (fun c => .bool true) (fun c => [.pl (nsD ns), .pl (condsD cs), .pl (condD c)]) (xs := cs) (by simp) (by simp [freeAt]) (by omega) (by simp) (by simp) (by intro c hc; simp [g_condition_ok (h.2 c hc)])]
  simp [all_true]
  rw [lcy condD (fun c => nD c.1) (fun c => [.pl (nsD ns), .pl (condsD cs), .pl (condD c)]) (xs := cs) (by simp) (by simp [freeAt]) (by omega) (by simp) (by simp) (by intro c hc; simp [condD])]
  rw [show (cs.map fun c => nD c.1) = cs.map (nD ∘ Prod.fst) from rfl]
  rw [← e1] at a
  simp [a]
theorem g_rule_ok {ns : List Nat} {r : Rule} (hn : Sz ns) (h : CondsOk ns r.1) : g_p_is_rule [nsD ns, ruleD r] = some (.bool true) := by
  rw [r_p_is_rule]
  have := g_tuple_of_ok (ds := [condsD r.1, .bool r.2]) (n := 2)
  have e2 : PyData.int 2 = nD 2 := rfl
  simp [v_p_is_rule, ruleD, e2, this, g_conditions_ok hn h]
theorem g_rules_ok {ns : List Nat} {rs : List Rule} (hn : Sz ns) (hl : rs.length ≤ 1000) (h : ∀ r ∈ rs, CondsOk ns r.1) : g_p_is_rules [nsD ns, .tuple (rs.map ruleD)] = some (.bool true) := by
  rw [r_p_is_rules]
  simp [v_p_is_rules]
  rw [lcy ruleD (fun c => .bool true) (fun c => [.pl (nsD ns), .pl (.tuple (rs.map ruleD)), .pl (ruleD c)]) (xs := rs) (by simp) (by simp [freeAt]) (by omega) (by simp) (by simp) (by intro c hc; simp [g_rule_ok hn (h c hc)])]
  simp [all_true]
theorem g_integers_ok {w : List Int} (hl : w.length ≤ 1000) : g_p_are_integers [rowD w] = some (.bool true) := by
  rw [r_p_are_integers]
  simp [v_p_are_integers]
  rw [lcy PyData.int (fun c => .bool true) (fun c => [.pl (rowD w), .pl (.int c)]) (xs := w) (by simp [rowD]) (by simp [freeAt]) (by omega) (by simp) (by simp) (by intro c hc; simp [g_is_integer_int])]
  simp [all_true]
theorem g_weights_ok {ns : List Nat} {ws : List (List Int)} (hn : Sz ns) (h1 : ws.length = ns.length) (h2 : ∀ (i n : Nat) (w : List Int), ns[i]? = some n → ws[i]? = some w → w.length = n) : g_p_is_weights [nsD ns, .tuple (ws.map rowD)] = some (.bool true) := by
  rw [r_p_is_weights]
  have l24 := hn.1
  have e1 : PyData.int (ns.length : Int) = nD ns.length := rfl
  have t := g_tuple_of_ok (ds := ws.map rowD) (n := ns.length)
  simp [v_p_is_weights, e1, t, h1]
  rw [lcy nD (fun i => .bool true) (fun i => [.pl (nsD ns), .pl (.tuple (ws.map rowD)), .pl (nD i)]) (xs := List.range ns.length) (by simp [e_rng_n ns.length (by omega), e1]) (by simp [freeAt]) (by simp; omega) (by simp) (by simp) (by
    intro i hi
    have li := List.mem_range.mp hi
    have a1 := List.getElem?_eq_getElem li
    have lw : i < ws.length := by omega
    have a2 := List.getElem?_eq_getElem lw
    have hw := h2 i _ _ a1 a2
    have b6 := (hn.2 _ (List.getElem_mem li)).2
    have t := g_tuple_of_ok (ds := ws[i].map PyData.int) (n := ns[i])
    have gi := g_integers_ok (w := ws[i]) (by omega)
    rw [rowD] at gi
    simp [a1, ix_map a2, rowD, t, hw, gi])]
  simp [all_true]
theorem g_results_ok {ns : List Nat} {rs : List Bool} (hn : Sz ns) (h1 : prod ns ≤ 1024) (h2 : rs.length = prod ns) : g_p_is_results [nsD ns, .tuple (rs.map PyData.bool)] = some (.bool true) := by
  rw [r_p_is_results]
  have t := g_tuple_of_ok (ds := rs.map PyData.bool) (n := prod ns)
  simp [v_p_is_results, g_is_small_ok hn, h1, g_number_ok hn, t, h2]
  rw [lcy PyData.bool (fun c => .bool true) (fun c => [.pl (nsD ns), .pl (.tuple (rs.map PyData.bool)), .pl (.bool c)]) (xs := rs) (by simp) (by simp [freeAt]) (by omega) (by simp) (by simp) (by intro c hc; simp)]
  simp [all_true]
def Frm.kids : Frm → List Frm
  | .tree _ bs => bs
  | .neg x => [x]
  | .join _ xs => xs
  | _ => []
theorem g_outside_ok {ns : List Nat} {x : Frm} (hn : Sz ns) (h : x.Ok ns) : g_p_is_form_outside [nsD ns, x.D] = some (.bool true) := by
  rw [r_p_is_form_outside]
  cases x with
  | say b => simp [v_p_is_form_outside, Frm.D, r_p_is_short_form_outside, v_p_is_short_form_outside]
  | test f vs =>
    rw [Frm.Ok] at h
    simp [v_p_is_form_outside, Frm.D, r_p_is_long_form_outside, v_p_is_long_form_outside, g_test_ok h]
  | rules rs l =>
    rw [Frm.Ok] at h
    simp [v_p_is_form_outside, Frm.D, r_p_is_long_form_outside, v_p_is_long_form_outside, g_rules_ok hn h.1 h.2]
  | card ws t =>
    rw [Frm.Ok] at h
    simp [v_p_is_form_outside, Frm.D, r_p_is_long_form_outside, v_p_is_long_form_outside, g_weights_ok hn h.1 h.2, g_is_integer_int]
  | table rs =>
    rw [Frm.Ok] at h
    simp [v_p_is_form_outside, Frm.D, r_p_is_short_form_outside, v_p_is_short_form_outside, g_results_ok hn h.1 h.2]
  | tree f bs =>
    rw [Frm.Ok] at h
    have e1 : PyData.int (ns.length : Int) = nD ns.length := rfl
    have lf : f < ns.length := (List.getElem?_eq_some_iff.mp h.1).1
    have t := g_tuple_of_ok (ds := bs.map Frm.D) (n := bs.length)
    have en : ns[f] = bs.length := (List.getElem?_eq_some_iff.mp h.1).2
    simp [v_p_is_form_outside, Frm.D, Frm.Ds_eq, r_p_is_long_form_outside, v_p_is_long_form_outside, e1, g_below_n, lf, en, t]
  | neg x => simp [v_p_is_form_outside, Frm.D, r_p_is_short_form_outside, v_p_is_short_form_outside]
  | join w xs => cases w <;> simp [v_p_is_form_outside, Frm.D, Frm.Ds_eq, Jw.str, r_p_is_short_form_outside, v_p_is_short_form_outside]
theorem g_inner_ok (x : Frm) : g_inner_forms [x.D] = some (.tuple (x.kids.map Frm.D)) := by
  rw [r_inner_forms]
  cases x with
  | join w xs => cases w <;> simp [v_inner_forms, Frm.D, Frm.Ds_eq, Frm.kids, Jw.str]
  | _ => simp [v_inner_forms, Frm.D, Frm.Ds_eq, Frm.kids]
theorem Frm.kids_ok {ns : List Nat} {x : Frm} (h : x.Ok ns) : ∀ y ∈ x.kids, y.Ok ns := by
  cases x with
  | tree f bs => rw [Frm.Ok] at h; exact Frm.Oks_iff.mp h.2
  | neg x => rw [Frm.Ok] at h; intro y hy; rw [List.mem_singleton.mp hy]; exact h
  | join w xs => rw [Frm.Ok] at h; exact Frm.Oks_iff.mp h.2
  | _ => intro y hy; cases hy
theorem Frm.sz_kids (x : Frm) : x.sz = 1 + Frm.szs x.kids := by
  cases x with
  | neg x => rw [Frm.sz, Frm.kids, Frm.szs, Frm.szs]; omega
  | _ => rw [Frm.sz, Frm.kids] <;> simp [Frm.szs]
theorem Frm.szs_append : ∀ {xs ys : List Frm}, Frm.szs (xs ++ ys) = Frm.szs xs + Frm.szs ys
  | [], ys => by rw [List.nil_append, Frm.szs]; omega
  | x :: xs, ys => by rw [List.cons_append, Frm.szs, Frm.szs, Frm.szs_append]; omega
theorem Frm.len_szs : ∀ {xs : List Frm}, xs.length ≤ Frm.szs xs
  | [] => Nat.zero_le _
  | x :: xs => by
    have := Frm.len_szs (xs := xs)
    have h2 := Frm.sz_kids x
    rw [Frm.szs, List.length_cons]
    omega
theorem g_shape_ok {ns : List Nat} {x : Frm} (hn : Sz ns) (h : x.Ok ns) (hs : x.sz ≤ 900000) : g_has_form_shape [nsD ns, x.D] = some (.bool true) := by
  rw [r_has_form_shape]
  have W : ∀ (n : Nat) (l : List Frm) (c : Cel), c.own = false → (∀ y ∈ l, y.Ok ns) → Frm.szs l < n → Frm.szs l ≤ 900000 → ∃ c', whGo (mTruO 2) (sSeq (sSet 3 (mPop 2))
      (sSeq (sIf (mNotT (mTru (mCall g_p_is_form_outside (mCons (mV 0) (mCons (mV 3) mNil))))) (sRet (M.ret (.bool false))) sNil)
      (sExt 2 (mCall g_inner_forms (mCons (mV 3) mNil))))) n [.pl (nsD ns), .pl x.D, .ow (l.map Frm.D), c] = some (.nx [.pl (nsD ns), .pl x.D, .ow [], c']) := fun n => by
    induction n with
    | zero => intro l c _ _ hl; omega
    | succ n ih =>
      intro l c hc hl hn1 hn2
      rcases List.eq_nil_or_concat l with rfl | ⟨l', y, rfl⟩
      · exact ⟨c, by rw [whGo_step (k := false) (r1 := [.pl (nsD ns), .pl x.D, .ow [], c]) (by simp)]; rfl⟩
      · have oy : y.Ok ns := hl y (by simp)
        have sy := Frm.sz_kids y
        rw [List.concat_eq_append, Frm.szs_append, Frm.szs, Frm.szs] at hn1 hn2
        have l1 := Frm.len_szs (xs := l')
        have l2 := Frm.len_szs (xs := y.kids)
        obtain ⟨c', e⟩ := ih (l' ++ y.kids) (.pl y.D) rfl (by
          intro z hz
          rcases List.mem_append.mp hz with hz | hz
          · exact hl z (by simp [hz])
          · exact Frm.kids_ok oy z hz) (by rw [Frm.szs_append]; omega) (by rw [Frm.szs_append]; omega)
        refine ⟨c', ?_⟩
        have lk : l'.length + y.kids.length ≤ 1000000 := by omega
        rw [List.map_append] at e
        rw [whGo_step (k := true) (r1 := [.pl (nsD ns), .pl x.D, .ow ((l'.concat y).map Frm.D), c]) (by simp), if_pos rfl]
        cases c with
        | un => simp [g_outside_ok hn oy, g_inner_ok, lk, e]
        | pl d => simp [g_outside_ok hn oy, g_inner_ok, lk, e]
        | ow d => cases hc
        | io d => cases hc
  obtain ⟨c', e⟩ := W WH [x] .un rfl (by simpa using h) (by rw [Frm.szs, Frm.szs]; show _ < 1000000; omega) (by rw [Frm.szs, Frm.szs]; omega)
  simp only [List.map_cons, List.map_nil] at e
  simp [v_has_form_shape]
  rw [e]
  simp
theorem g_check_form_ok {ns : List Nat} {x : Frm} (hn : Sz ns) (h : x.Ok ns) (hs : x.sz ≤ 900000) : g_check_form [nsD ns, x.D] = some .none := by
  rw [r_check_form]
  simp [v_check_form, g_shape_ok hn h hs]
end DL
namespace DL
open PySem PySem.Spec PyProof.Rows L2 Lk
/-! ## the cases that complete a half case, among all -/
def allc (ns : List Nat) : List (List Nat) := cart (ns.map List.range)
def cmpB : List (Option Nat) → List Nat → Bool
  | none :: hs, _ :: cs => cmpB hs cs
  | some v :: hs, c :: cs => v == c && cmpB hs cs
  | _, _ => true
theorem flatMap_one {α : Type} {X : Nat → List α} {w n : Nat} (h : w < n) : (List.range n).flatMap (fun v => if w == v then X v else []) = X w := by
  induction n with
  | zero => omega
  | succ n ih =>
    rw [List.range_succ, List.flatMap_append, List.flatMap_cons, List.flatMap_nil, List.append_nil]
    by_cases hw : w < n
    · rw [ih hw, if_neg (by rw [beq_iff_eq]; omega), List.append_nil]
    · have : w = n := by omega
      subst this
      rw [if_pos (by rw [beq_iff_eq])]
      have z : (List.range w).flatMap (fun v => if w == v then X v else []) = [] := by
        rw [List.flatMap_eq_nil_iff]
        intro v hv
        have := List.mem_range.mp hv
        rw [if_neg (by rw [beq_iff_eq]; omega)]
      rw [z]
      rfl
theorem Half.cons {n : Nat} {ns : List Nat} {h : Option Nat} {hs : List (Option Nat)} (H : Half (n :: ns) (h :: hs)) : (∀ v, h = some v → v < n) ∧ Half ns hs :=
  ⟨fun v e => H.2 0 n v rfl (by rw [e]; rfl), by simpa using H.1, fun i m v e e' => H.2 (i + 1) m v (by simpa using e) (by simpa using e')⟩
theorem compl_filter : ∀ {ns : List Nat} {hs : List (Option Nat)}, Half ns hs → compl ns hs = (allc ns).filter (cmpB hs)
  | [], [], _ => rfl
  | n :: ns, h :: hs, H => by
    obtain ⟨h1, h2⟩ := H.cons
    have ih := compl_filter h2
    show (choice n h).flatMap (fun v => (compl ns hs).map (v :: ·)) = ((List.range n).flatMap fun v => (allc ns).map (v :: ·)).filter (cmpB (h :: hs))
    rw [List.filter_flatMap, ih]
    cases h with
    | none =>
      show (List.range n).flatMap _ = _
      congr 1
      funext v
      rw [List.filter_map]
      rfl
    | some w =>
      have := h1 w rfl
      rw [show (fun v => List.filter (cmpB (some w :: hs)) ((allc ns).map (v :: ·))) = fun v => if w == v then ((allc ns).filter (cmpB hs)).map (v :: ·) else [] by
        funext v
        rw [List.filter_map]
        have : (cmpB (some w :: hs) ∘ fun x => v :: x) = fun cs => w == v && cmpB hs cs := rfl
        rw [this]
        cases w == v with
        | true => rfl
        | false => rw [if_neg Bool.false_ne_true]; simp, flatMap_one this]
      show ([w].flatMap _) = _
      rw [List.flatMap_cons, List.flatMap_nil, List.append_nil]
  | [], _ :: _, h => by have := h.1; simp at this
  | _ :: _, [], h => by have := h.1; simp at this
theorem mem_allc : ∀ {ns c : List Nat}, c ∈ allc ns ↔ Case ns c
  | [], c => by
    show c ∈ [[]] ↔ _
    rw [List.mem_singleton]
    constructor
    · rintro rfl; exact Case.nil
    · intro h; exact List.eq_nil_of_length_eq_zero h.1
  | n :: ns, [] => by
    show _ ∈ (List.range n).flatMap (fun v => (allc ns).map (v :: ·)) ↔ _
    constructor
    · intro h
      obtain ⟨v, _, h⟩ := List.mem_flatMap.mp h
      obtain ⟨_, _, h⟩ := List.mem_map.mp h
      cases h
    · intro h
      have := h.1
      simp at this
  | n :: ns, d :: c => by
    show _ ∈ (List.range n).flatMap (fun v => (allc ns).map (v :: ·)) ↔ _
    rw [Case.cons, ← mem_allc (ns := ns)]
    constructor
    · intro h
      obtain ⟨v, hv, h⟩ := List.mem_flatMap.mp h
      obtain ⟨_, h1, h⟩ := List.mem_map.mp h
      cases h
      exact ⟨List.mem_range.mp hv, h1⟩
    · rintro ⟨h1, h2⟩
      exact List.mem_flatMap.mpr ⟨d, List.mem_range.mpr h1, List.mem_map.mpr ⟨c, h2, rfl⟩⟩
theorem cart_length : ∀ {chs : List (List Nat)}, (cart chs).length = lenP chs
  | [] => rfl
  | c :: cs => by
    show (c.flatMap fun v => (cart cs).map (v :: ·)).length = c.length * lenP cs
    rw [List.length_flatMap, ← cart_length (chs := cs)]
    induction c with
    | nil => simp
    | cons a l ih => rw [List.map_cons, List.sum_cons, ih, List.length_map, List.length_cons, Nat.succ_mul, Nat.add_comm]
theorem allc_length {ns : List Nat} : (allc ns).length = prod ns := by
  rw [allc, cart_length, lenP, List.map_map]
  congr 1
  exact (List.map_congr_left fun x _ => List.length_range).trans (List.map_id' _)
theorem compl_ne {ns : List Nat} {hs : List (Option Nat)} (hn : Sz ns) : compl ns hs ≠ [] := by
  intro h
  have h1 := cart_length (chs := choices ns hs)
  have h2 : 0 < lenP (choices ns hs) := prod_pos fun n hm => by
    obtain ⟨c, hc, rfl⟩ := List.mem_map.mp hm
    exact choices_ne (fun n hm => by have := hn.2 n hm; omega) c hc
  unfold compl at h
  rw [h] at h1
  simp at h1
  omega
theorem compl_le {ns : List Nat} {hs : List (Option Nat)} (hn : Sz ns) (h : Half ns hs) : (compl ns hs).length ≤ prod ns := by
  unfold compl
  rw [cart_length]
  exact choices_prod (fun n hm => by have := hn.2 n hm; omega) h.1
/-! ## answers -/
def ans (ns : List Nat) (x : Frm) (hs : List (Option Nat)) : List Bool := (compl ns hs).map (x.ev ns)
theorem compl_case {ns c : List Nat} {hs : List (Option Nat)} (h : Half ns hs) (hc : c ∈ compl ns hs) : Case ns c := by
  rw [compl_filter h] at hc
  exact mem_allc.mp (List.mem_filter.mp hc).1
structure Ask (ns : List Nat) (x : Frm) : Prop where
  sz : Sz ns
  sm : prod ns ≤ 1024
  ok : x.Ok ns
  dp : x.dp < 60
  s : x.sz ≤ 900000
variable {ns : List Nat} {x : Frm} {hs : List (Option Nat)}
theorem g_answers_ok (A : Ask ns x) (h : Half ns hs) : g_answers_completing [nsD ns, x.D, halfD hs] = some (.list ((ans ns x hs).map PyData.bool)) := by
  rw [r_answers_completing]
  have lc := g_list_completing_ok A.sz (by have := A.sm; omega) h.1
  have hl := compl_le A.sz h
  have sm := A.sm
  simp [v_answers_completing]
  rw [lcy nsD (fun c => .bool (x.ev ns c)) (fun c => [.pl (nsD ns), .pl x.D, .pl (halfD hs), .pl (nsD c)]) (xs := compl ns hs) (by simp [lc]) (by simp [freeAt]) (by omega) (by simp) (by simp) (by
    intro c hc
    have := g_says_ok A.sz (compl_case h hc) x FU A.ok A.dp
    simp [this])]
  simp [ans, Function.comp_def]
def comm (bs : List Bool) : Option Bool := bs.head?.bind fun b => if bs.all (· == b) then some b else none
def obD : Option Bool → PyData
  | none => .none
  | some b => .bool b
theorem ans_ne (hn : Sz ns) : ans ns x hs ≠ [] := by
  unfold ans
  intro h
  exact compl_ne (hs := hs) hn (List.map_eq_nil_iff.mp h)
theorem e_len_b {bs : List Bool} : lenM [.list (bs.map PyData.bool)] = some (nD bs.length) := by
  rw [e_lenL, List.length_map]
  rfl
theorem g_common_ok {bs : List Bool} (h : bs ≠ []) : g_p_common_state [.list (bs.map PyData.bool)] = some (obD (comm bs)) := by
  obtain ⟨b, bs', hb⟩ : ∃ b bs', bs = b :: bs' := by
    cases bs with
    | nil => exact absurd rfl h
    | cons b bs => exact ⟨b, bs, rfl⟩
  rw [r_p_common_state]
  have i0 : ixM (.list (bs.map PyData.bool)) (.int 0) = some (.bool b) := by rw [hb]; simp
  have a0 : atI (bs.map PyData.bool) 0 = some (.bool b) := i0
  have c := e_count_b (b := b) (bs := bs)
  have e : (bs.count b == bs.length) = bs.all (· == b) := by
    rw [Bool.eq_iff_iff, beq_iff_eq, List.count_eq_length, List.all_eq_true]
    constructor
    · intro h x hx; rw [beq_iff_eq]; exact (h x hx).symm
    · intro h x hx; exact (beq_iff_eq.mp (h x hx)).symm
  have hc : comm bs = if bs.all (· == b) then some b else none := by rw [hb]; rfl
  rw [hc, ← e]
  have el : PyData.int (bs.length : Int) = nD bs.length := rfl
  simp [v_p_common_state, a0, c, el]
  by_cases q : bs.count b = bs.length
  · simp [q, a0, obD]
  · simp [q, obD]
theorem g_checks_ok (A : Ask ns x) (h : Half ns hs) : g_p_check_form_and_half [nsD ns, x.D, halfD hs] = some .none := by
  rw [r_p_check_form_and_half]
  simp [v_p_check_form_and_half, g_check_sizes_ok A.sz, g_check_form_ok A.sz A.ok A.s, g_check_half_ok A.sz h]
theorem g_sure_ok (A : Ask ns x) (h : Half ns hs) : g_sure [nsD ns, x.D, halfD hs] = some (obD (comm (ans ns x hs))) := by
  rw [r_sure]
  have : g_sure_answer [nsD ns, x.D, halfD hs] = some (obD (comm (ans ns x hs))) := by
    rw [r_sure_answer]
    simp only [v_sure_answer, s_ret, s_bind, e_call, e_bind, e_cons, e_V, List.getElem?_cons_zero, List.getElem?_cons_succ, e_nil, e_lift_some, g_answers_ok A h, g_common_ok (ans_ne A.sz), e_ret, o_rt]
  simp [v_sure, g_checks_ok A h, g_check_small_ok A.sz A.sm, this]
def cntD (bs : List Bool) : PyData := .tuple [nD (bs.count true), nD (bs.count false)]
theorem g_outlook_ok (A : Ask ns x) (h : Half ns hs) : g_outlook [nsD ns, x.D, halfD hs] = some (cntD (ans ns x hs)) := by
  rw [r_outlook]
  have e1 := e_count_b (b := true) (bs := ans ns x hs)
  have e2 := e_count_b (b := false) (bs := ans ns x hs)
  simp [v_outlook, g_checks_ok A h, g_check_small_ok A.sz A.sm, g_answers_ok A h, e1, e2]
  rfl
end DL
namespace DL
open PySem PySem.Spec PyProof.Rows L2 Lk
/-! ## draws -/
def Bits (c : Int) : Prop := Builtin.Int.intBits c ≤ 1048576
theorem Bits.log {c : Int} (h : Bits c) : c.natAbs.log2 ≤ 1048576 := by
  unfold Bits Builtin.Int.intBits at h
  split at h
  · rename_i z
    rw [show c = 0 by simpa using z]
    decide
  · omega
theorem e_mulB {a b : Int} (h : a.natAbs.log2 + b.natAbs.log2 < 130000000) : mulM (.int a) (.int b) = some (.int (a * b)) := by
  show (if _ then _ else _) = _
  rw [if_pos h]
def drw (c : Int) (k l : Nat) : Nat := match g_law_draw_48e0b [.int c, nD k, nD l] with
  | some (.int i) => i.toNat
  | _ => 0
theorem e_pow18 : powM (.int 10) (.int 18) = some (.int 1000000000000000000) := by rfl
theorem na {a : Int} {n : Nat} (h1 : 0 ≤ a) (h2 : a ≤ n) (hn : n < 2 ^ 1000 := by decide) : a.natAbs < 2 ^ 1000 := by omega
theorem draw_ex {c : Int} {k l : Nat} (hc : Bits c) (hk : k ≤ 100000) (hl : 0 < l) : ∃ i : Int, 0 ≤ i ∧ i < l ∧ g_law_draw_48e0b [.int c, nD k, nD l] = some (.int i) := by
  rw [r_law_draw_48e0b]
  unfold nD
  have kk : (0 : Int) ≤ k ∧ (k : Int) ≤ 100000 := by omega
  have ll : (0 : Int) < l := by omega
  generalize hk' : (k : Int) = q at kk
  generalize hl' : (l : Int) = p at ll
  by_cases h : 1000000000000000000 ≤ c
  · have m1 : mulM (.int 14) (.int q) = some (.int (14 * q)) := e_mulI (by decide) (na kk.1 kk.2)
    have s1 : shrM (.int c) (.int (14 * q)) = some (.int (c / 2 ^ (14 * q).toNat)) := e_shrI (by omega)
    have o1 : modM (.int (c / 2 ^ (14 * q).toNat)) (.int 16384) = some (.int (c / 2 ^ (14 * q).toNat % 16384)) := e_modI (by decide)
    have o2 : modM (.int (c / 2 ^ (14 * q).toNat % 16384)) (.int p) = some (.int (c / 2 ^ (14 * q).toNat % 16384 % p)) := e_modI ll
    refine ⟨c / 2 ^ (14 * q).toNat % 16384 % p, Int.emod_nonneg _ (by omega), Int.emod_lt_of_pos _ ll, ?_⟩
    simp [v_law_draw_48e0b, e_pow18, h, m1, s1, o1, o2]
  · have hlg := hc.log
    have m1 : mulM (.int c) (.int 48271) = some (.int (c * 48271)) := e_mulB (by
      have : (48271 : Int).natAbs.log2 ≤ 16 := by decide
      omega)
    have m2 : mulM (.int 7919) (.int q) = some (.int (7919 * q)) := e_mulI (by decide) (na kk.1 kk.2)
    have m3 : mulM (.int (7919 * q)) (.int q) = some (.int (7919 * q * q)) := e_mulI (na (n := 791900000) (by omega) (by omega)) (na kk.1 kk.2)
    have o1 : modM (.int (c * 48271 + 7919 * q * q + 30011)) (.int 1000000007) = some (.int ((c * 48271 + 7919 * q * q + 30011) % 1000000007)) := e_modI (by decide)
    have b1 := Int.emod_nonneg (c * 48271 + 7919 * q * q + 30011) (show (1000000007 : Int) ≠ 0 by decide)
    have b2 := Int.emod_lt_of_pos (c * 48271 + 7919 * q * q + 30011) (show (0 : Int) < 1000000007 by decide)
    generalize hs : (c * 48271 + 7919 * q * q + 30011) % 1000000007 = s at o1 b1 b2
    have m4 : mulM (.int s) (.int s) = some (.int (s * s)) := e_mulI (na b1 (Int.le_of_lt b2)) (na b1 (Int.le_of_lt b2))
    have m5 : mulM (.int 60493) (.int q) = some (.int (60493 * q)) := e_mulI (by decide) (na kk.1 kk.2)
    have o2 : modM (.int (s * s + 60493 * q)) (.int 2147483629) = some (.int ((s * s + 60493 * q) % 2147483629)) := e_modI (by decide)
    have b3 := Int.emod_nonneg (s * s + 60493 * q) (show (2147483629 : Int) ≠ 0 by decide)
    have b4 := Int.emod_lt_of_pos (s * s + 60493 * q) (show (0 : Int) < 2147483629 by decide)
    generalize hf : (s * s + 60493 * q) % 2147483629 = f at o2 b3 b4
    have m6 : mulM (.int f) (.int f) = some (.int (f * f)) := e_mulI (na b3 (Int.le_of_lt b4)) (na b3 (Int.le_of_lt b4))
    have o3 : modM (.int (f * f + s)) (.int 2147483587) = some (.int ((f * f + s) % 2147483587)) := e_modI (by decide)
    have b5 := Int.emod_nonneg (f * f + s) (show (2147483587 : Int) ≠ 0 by decide)
    have b6 := Int.emod_lt_of_pos (f * f + s) (show (0 : Int) < 2147483587 by decide)
    generalize hg : (f * f + s) % 2147483587 = g at o3 b5 b6
    have m7 : mulM (.int g) (.int g) = some (.int (g * g)) := e_mulI (na b5 (Int.le_of_lt b6)) (na b5 (Int.le_of_lt b6))
    have o4 : modM (.int (g * g + f)) (.int 2147483563) = some (.int ((g * g + f) % 2147483563)) := e_modI (by decide)
    have d1 : divM (.int ((g * g + f) % 2147483563)) (.int 64) = some (.int ((g * g + f) % 2147483563 / 64)) := e_divI (by decide) (by decide)
    have o5 : modM (.int ((g * g + f) % 2147483563 / 64)) (.int p) = some (.int ((g * g + f) % 2147483563 / 64 % p)) := e_modI ll
    refine ⟨(g * g + f) % 2147483563 / 64 % p, Int.emod_nonneg _ (by omega), Int.emod_lt_of_pos _ ll, ?_⟩
    simp [v_law_draw_48e0b, e_pow18, h, m1, m2, m3, o1, m4, m5, o2, m6, o3, m7, o4, d1, o5]
theorem g_draw {c : Int} {k l : Nat} (hc : Bits c) (hk : k ≤ 100000) (hl : 0 < l) : g_law_draw_48e0b [.int c, nD k, nD l] = some (nD (drw c k l)) := by
  obtain ⟨i, h0, _, e⟩ := draw_ex hc hk hl
  unfold drw
  rw [e]
  dsimp only
  unfold nD
  rw [Int.toNat_of_nonneg h0]
theorem drw_lt {c : Int} {k l : Nat} (hc : Bits c) (hk : k ≤ 100000) (hl : 0 < l) : drw c k l < l := by
  obtain ⟨i, h0, h1, e⟩ := draw_ex hc hk hl
  unfold drw
  rw [e]
  dsimp only
  omega
end DL
namespace DL
open PySem PySem.Spec PyProof.Rows L2 Lk
variable {ns : List Nat} {c : Int}
/-! ## sizes -/
def prodM (m : Nat) (ns : List Nat) : Nat := prod (ns.map (· + m))
theorem prod_append : ∀ {xs ys : List Nat}, prod (xs ++ ys) = prod xs * prod ys
  | [], ys => by rw [List.nil_append, prod, Nat.one_mul]
  | x :: xs, ys => by rw [List.cons_append, prod, prod, prod_append, Nat.mul_assoc]
theorem g_sizes_ok {m k : Nat} (hc : Bits c) (hm : m ≤ 1) (hk : k ≤ 100000) (hk1 : 1 ≤ k) : ∃ ns, g_law_sizes_48d55 [.int c, nD m, nD k] = some (nsD ns) ∧ Sz ns ∧ ns.length ≤ 10 ∧ prodM m ns ≤ k := by
  rw [r_law_sizes_48d55]
  have d0 : g_law_draw_48e0b [.int c, .int 12, .int 3] = some (nD (drw c 12 3)) := g_draw (k := 12) (l := 3) hc (by decide) (by decide)
  have b0 := drw_lt (k := 12) (l := 3) hc (by decide) (by decide)
  have d1 : g_law_draw_48e0b [.int c, .int 0, .int 11] = some (nD (drw c 0 11)) := g_draw (k := 0) (l := 11) hc (by decide) (by decide)
  have b1 := drw_lt (k := 0) (l := 11) hc (by decide) (by decide)
  obtain ⟨t, ht, t1⟩ : ∃ t, ixM (.tuple [.int 5, .int 2, .int 1]) (nD (drw c 12 3)) = some (nD t) ∧ 1 ≤ t ∧ t ≤ 5 := by
    have e : PyData.tuple [.int 5, .int 2, .int 1] = .tuple ([5, 2, 1].map nD) := rfl
    rw [e, e_ix_t]
    have : drw c 12 3 = 0 ∨ drw c 12 3 = 1 ∨ drw c 12 3 = 2 := by omega
    rcases this with z | z | z <;> rw [z]
    · exact ⟨5, rfl, by omega⟩
    · exact ⟨2, rfl, by omega⟩
    · exact ⟨1, rfl, by omega⟩
  obtain ⟨r2, e, ns, many, c6, c7, rfl, _, _, h1, h2, h3, h4⟩ := for_i (g := gN 6) (b := (sSeq (sSet 7 (mOp2 addM (M.ret (.int 2)) (mCall g_law_draw_48e0b (mCons (mV 0) (mCons (mOp2 addM (M.ret (.int 1)) (mV 6)) (mCons (mV 3) mNil))))))
  (sIf (mOpT leM (mOp2 mulM (mV 5) (mOp2 addM (mV 7) (mV 1))) (mV 2))
    (sSeq (sApp 4 (mV 7))
  (sSet 5 (mOp2 mulM (mV 5) (mOp2 addM (mV 7) (mV 1)))))
    sNil))) nD (fun xs r => ∃ ns many c6 c7, r = [.pl (.int c), .pl (nD m), .pl (nD k), .pl (nD t), .ow (ns.map nD), .pl (nD many), c6, c7] ∧ c6.own = false ∧ c7.own = false ∧ many = prodM m ns ∧ many ≤ k ∧ (∀ n ∈ ns, 2 ≤ n ∧ n ≤ 6) ∧ ns.length + xs.length ≤ 10 ∧ ∀ x ∈ xs, x < 10)
    (xs := List.range (drw c 0 11)) (r := [.pl (.int c), .pl (nD m), .pl (nD k), .pl (nD t), .ow [], .pl (nD 1), .un, .un])
    ⟨[], 1, .un, .un, rfl, rfl, rfl, rfl, hk1, by simp, by simp; omega, fun x hx => by have := List.mem_range.mp hx; omega⟩ (by
      rintro i xs r ⟨ns, many, c6, c7, rfl, h6, h7, hmany, hle, hns, hlen, hx⟩
      have hi := hx i (List.mem_cons_self ..)
      have dd := g_draw (k := 1 + i) (l := t) hc (by omega) (by omega)
      have db := drw_lt (k := 1 + i) (l := t) hc (by omega) (by omega)
      have mm : mulM (nD many) (nD (2 + drw c (1 + i) t + m)) = some (nD (many * (2 + drw c (1 + i) t + m))) := mul_ok (by omega) (by omega)
      have le : ∀ a b : Nat, leM (nD a) (nD b) = some (.bool (decide (a ≤ b))) := fun a b => by
        show some (PyData.bool (decide ((a : Int) ≤ b))) = _
        simp
      simp only [List.length_cons] at hlen
      by_cases q : many * (2 + drw c (1 + i) t + m) ≤ k
      · refine ⟨[.pl (.int c), .pl (nD m), .pl (nD k), .pl (nD t), .ow (ns.map nD), .pl (nD many), .pl (nD i), c7], [.pl (.int c), .pl (nD m), .pl (nD k), .pl (nD t), .ow ((ns ++ [2 + drw c (1 + i) t]).map nD), .pl (nD (many * (2 + drw c (1 + i) t + m))), .pl (nD i), .pl (nD (2 + drw c (1 + i) t))], by simp [h6], ?_, _, _, _, _, rfl, rfl, rfl, ?_, q, ?_, by simp; omega, fun x hx' => hx x (List.mem_cons_of_mem _ hx')⟩
        · have l10 : ns.length ≤ 1000000 := by omega
          cases c7 with
          | ow d => cases h7
          | io d => cases h7
          | _ => simp [dd, mm, le, q, l10]
        · unfold prodM
          rw [List.map_append, prod_append, ← prodM, ← hmany]
          show _ = many * ((2 + drw c (1 + i) t + m) * 1)
          rw [Nat.mul_one]
        · intro n hn
          rcases List.mem_append.mp hn with hn | hn
          · exact hns n hn
          · rw [List.mem_singleton.mp hn]; omega
      · refine ⟨[.pl (.int c), .pl (nD m), .pl (nD k), .pl (nD t), .ow (ns.map nD), .pl (nD many), .pl (nD i), c7], [.pl (.int c), .pl (nD m), .pl (nD k), .pl (nD t), .ow (ns.map nD), .pl (nD many), .pl (nD i), .pl (nD (2 + drw c (1 + i) t))], by simp [h6], ?_, _, _, _, _, rfl, rfl, rfl, hmany, hle, hns, by omega, fun x hx' => hx x (List.mem_cons_of_mem _ hx')⟩
        cases c7 with
        | ow d => cases h7
        | io d => cases h7
        | _ => simp [dd, mm, le, q])
  refine ⟨ns, ?_, ⟨by simp at h4; omega, h3⟩, by simp at h4; omega, by rw [← h1]; exact h2⟩
  have n1 : PyData.int 1 = nD 1 := rfl
  have et : tupM [.int 5, .int 2, .int 1] = some (.tuple [.int 5, .int 2, .int 1]) := rfl
  simp [v_law_sizes_48d55, d0, ht, d1, e_rng_n (drw c 0 11) (by omega)]
  rw [← n1] at e
  rw [e]
  simp
/-! ## values and conditions -/
theorem g_values_ok {k n : Nat} (hc : Bits c) (hk : k ≤ 10000) (hn : n ≤ 6) : ∃ vs, g_law_values_1b941 [.int c, nD k, nD n] = some (.tuple (vs.map nD)) ∧ AscFrom 0 n vs := by
  rw [r_law_values_1b941]
  refine ⟨(List.range n).filter fun i => drw c (k + i) 2 == 1, ?_, asc_filter⟩
  simp [v_law_values_1b941]
  rw [lcm nD (fun i => drw c (k + i) 2 == 1) nD (fun i => [.pl (.int c), .pl (nD k), .pl (nD n), .pl (nD i)]) (xs := List.range n) (by simp [e_rng_n n (by omega)]) (by simp [freeAt]) (by simp; omega) (by simp) (by simp) (by
    intro i hi
    have := List.mem_range.mp hi
    have d : g_law_draw_48e0b [.int c, nD (k + i), .int 2] = some (nD (drw c (k + i) 2)) := g_draw (l := 2) hc (by omega) (by decide)
    simp [d]) (by simp)]
  simp
theorem g_conds_ok (hc : Bits c) (hn : Sz ns) : ∃ cs, g_law_conditions_05f1f [nsD ns, .int c] = some (condsD cs) ∧ CondsOk ns cs := by
  rw [r_law_conditions_05f1f]
  have l24 := hn.1
  have d0 : g_law_draw_48e0b [.int c, .int 1, .int 2] = some (nD (drw c 1 2)) := g_draw (k := 1) (l := 2) hc (by decide) (by decide)
  generalize hs : (drw c 1 2 == 1) = single
  obtain ⟨r2, e, cs, c4, c5, j, rfl, _, _, h1, h2, h3⟩ := for_i (g := gN 4) (b := (sIf (mAnd (mOpT ltM (mLenO 3) (M.ret (.int 6))) (mOpT eqM (mCall g_law_draw_48e0b (mCons (mV 1) (mCons (mOp2 addM (mOp2 mulM (M.ret (.int 7)) (mV 4)) (M.ret (.int 2))) (mCons (M.ret (.int 2)) mNil)))) (M.ret (.int 1))))
    (sSeq (sSet 5 (mCall g_law_values_1b941 (mCons (mV 1) (mCons (mOp2 addM (mOp2 mulM (M.ret (.int 7)) (mV 4)) (M.ret (.int 3))) (mCons (mOp2 ixM (mV 0) (mV 4)) mNil)))))
  (sSeq (sIf (mTru (mV 2))
    (sSet 5 (mTup (mCons (mCall g_law_draw_48e0b (mCons (mV 1) (mCons (mOp2 addM (mOp2 mulM (M.ret (.int 7)) (mV 4)) (M.ret (.int 3))) (mCons (mOp2 ixM (mV 0) (mV 4)) mNil)))) mNil)))
    sNil)
  (sApp 3 (mTup (mCons (mV 4) (mCons (mV 5) mNil))))))
    sNil)) nD (fun xs r => ∃ cs c4 c5 j, r = [.pl (nsD ns), .pl (.int c), .pl (.bool single), .ow (cs.map condD), c4, c5] ∧ c4.own = false ∧ c5.own = false ∧ xs = (List.range ns.length).drop j ∧ (cs.map Prod.fst).Pairwise (· < ·) ∧ ∀ z ∈ cs, z.1 < j ∧ TestOk ns z)
    (xs := List.range ns.length) (r := [.pl (nsD ns), .pl (.int c), .pl (.bool single), .ow [], .un, .un])
    ⟨[], .un, .un, 0, rfl, rfl, rfl, rfl, by simp, by simp⟩ (by
      rintro i xs r ⟨cs, c4, c5, j, rfl, h4, h5, hj, hp, hcs⟩
      obtain ⟨rfl, lj, hx⟩ := range_drop hj
      have mm : mulM (.int 7) (nD i) = some (nD (7 * i)) := mul_ok (a := 7) (by omega) (by omega)
      have d2 : g_law_draw_48e0b [.int c, nD (7 * i + 2), .int 2] = some (nD (drw c (7 * i + 2) 2)) := g_draw (l := 2) hc (by omega) (by decide)
      have e1 := List.getElem?_eq_getElem lj
      have b6 := hn.2 _ (List.getElem_mem lj)
      obtain ⟨vs, hv, av⟩ := g_values_ok (k := 7 * i + 3) hc (by omega) b6.2
      have d3 := g_draw (k := 7 * i + 3) (l := ns[i]) hc (by omega) (by omega)
      have b3 := drw_lt (k := 7 * i + 3) (l := ns[i]) hc (by omega) (by omega)
      have hlen : cs.length ≤ 1000000 ∨ ¬ cs.length < 6 := by omega
      by_cases q1 : cs.length < 6
      · by_cases q2 : drw c (7 * i + 2) 2 = 1
        · obtain ⟨ws, aw, ew⟩ : ∃ ws, AscFrom 0 ns[i] ws ∧ ws = if single then [drw c (7 * i + 3) ns[i]] else vs := by
            refine ⟨_, ?_, rfl⟩
            cases single
            · exact av
            · exact ⟨Nat.zero_le _, b3, trivial⟩
          refine ⟨[.pl (nsD ns), .pl (.int c), .pl (.bool single), .ow (cs.map condD), .pl (nD i), c5], [.pl (nsD ns), .pl (.int c), .pl (.bool single), .ow ((cs ++ [(i, ws)]).map condD), .pl (nD i), .pl (.tuple (ws.map nD))], by simp [h4], ?_, _, _, _, i + 1, rfl, rfl, rfl, hx, ?_, ?_⟩
          · have q1' : (cs.length : Int) < 6 := by omega
            have l6 : cs.length ≤ 1000000 := by omega
            have e1' : ns[i]? = some ns[i] := e1
            cases c5 with
            | ow d => cases h5
            | io d => cases h5
            | _ => cases single <;> simp [q1', mm, d2, q2, e1, hv, d3, l6, ew, condD]
          · rw [List.map_append, List.pairwise_append]
            refine ⟨hp, by simp, ?_⟩
            intro a ha b hb
            obtain ⟨z, hz, rfl⟩ := List.mem_map.mp ha
            simp at hb
            subst hb
            exact (hcs z hz).1
          · intro z hz
            rcases List.mem_append.mp hz with hz | hz
            · have := hcs z hz
              exact ⟨by omega, this.2⟩
            · rw [List.mem_singleton.mp hz]
              exact ⟨by simp, _, e1, aw⟩
        · refine ⟨[.pl (nsD ns), .pl (.int c), .pl (.bool single), .ow (cs.map condD), .pl (nD i), c5], [.pl (nsD ns), .pl (.int c), .pl (.bool single), .ow (cs.map condD), .pl (nD i), c5], by simp [h4], ?_, _, _, _, i + 1, rfl, rfl, h5, hx, hp, fun z hz => ⟨by have := (hcs z hz).1; omega, (hcs z hz).2⟩⟩
          have q1' : (cs.length : Int) < 6 := by omega
          simp [q1', mm, d2, q2]
      · refine ⟨[.pl (nsD ns), .pl (.int c), .pl (.bool single), .ow (cs.map condD), .pl (nD i), c5], [.pl (nsD ns), .pl (.int c), .pl (.bool single), .ow (cs.map condD), .pl (nD i), c5], by simp [h4], ?_, _, _, _, i + 1, rfl, rfl, h5, hx, hp, fun z hz => ⟨by have := (hcs z hz).1; omega, (hcs z hz).2⟩⟩
        have q1' : ¬ (cs.length : Int) < 6 := by omega
        simp [q1'])
  refine ⟨cs, ?_, asc_of h2 (by
    intro a ha
    obtain ⟨z, hz, rfl⟩ := List.mem_map.mp ha
    obtain ⟨n, e, _⟩ := (h3 z hz).2
    exact ⟨Nat.zero_le _, (List.getElem?_eq_some_iff.mp e).1⟩), fun z hz => (h3 z hz).2⟩
  simp [v_law_conditions_05f1f, d0, e_rng ns.length (by omega), hs]
  rw [e]
  simp
end DL
namespace DL
open PySem PySem.Spec PyProof.Rows L2 Lk
variable {ns : List Nat} {c : Int}
/-! ## cards -/
theorem e_sub_l {a n : Nat} : subM (nD a) (.int (no_index (@OfNat.ofNat Int n instOfNat))) = some (.int ((a : Int) - (@OfNat.ofNat Int n instOfNat))) := rfl
theorem e_subn {a b : Nat} : subM (nD a) (nD b) = some (.int ((a : Int) - b)) := rfl
theorem g_card_ok (hc : Bits c) (hn : Sz ns) : ∃ ws t, g_law_card_4ab7e [nsD ns, .int c] = some (Frm.card ws t).D ∧ (Frm.card ws t).Ok ns := by
  rw [r_law_card_4ab7e]
  have l24 := hn.1
  have d0 : g_law_draw_48e0b [.int c, .int 1, .int 3] = some (nD (drw c 1 3)) := g_draw (k := 1) (l := 3) hc (by decide) (by decide)
  have b0 := drw_lt (k := 1) (l := 3) hc (by decide) (by decide)
  have d1 : g_law_draw_48e0b [.int c, .int 2, .int 3] = some (nD (drw c 2 3)) := g_draw (k := 2) (l := 3) hc (by decide) (by decide)
  obtain ⟨t, ht, t1⟩ : ∃ t, ixM (.tuple [.int 3, .int 7, .int 101]) (nD (drw c 1 3)) = some (nD t) ∧ 1 ≤ t ∧ t ≤ 101 := by
    have e : PyData.tuple [.int 3, .int 7, .int 101] = .tuple ([3, 7, 101].map nD) := rfl
    rw [e, e_ix_t]
    have : drw c 1 3 = 0 ∨ drw c 1 3 = 1 ∨ drw c 1 3 = 2 := by omega
    rcases this with z | z | z <;> rw [z]
    · exact ⟨3, rfl, by omega⟩
    · exact ⟨7, rfl, by omega⟩
    · exact ⟨101, rfl, by omega⟩
  have hd2 : divM (nD t) (.int 2) = some (.int ((t : Int) / 2)) := e_divI (by decide) (by decide)
  obtain ⟨r2, e, ws, tot, c5, c6, j, rfl, _, _, hj, h1, h2⟩ := for_i (g := gN 5) (b := (sSeq (sSet 6 (mNew (mLc [7] (mRng1 (mCons (mOp2 ixM (mV 0) (mV 5)) mNil)) (gN 7) mYes (mOp2 subM (mCall g_law_draw_48e0b (mCons (mV 1) (mCons (mOp2 addM (mOp2 addM (mOp2 mulM (M.ret (.int 6)) (mV 5)) (mV 7)) (M.ret (.int 4))) (mCons (mV 2) mNil)))) (mOp2 divM (mV 2) (M.ret (.int 2)))))))
  (sSeq (sApp 3 (mCall tupleM (mCons (mV 6) mNil)))
  (sSet 4 (mOp2 addM (mV 4) (mOp2 ixM (mV 6) (mCall g_law_draw_48e0b (mCons (mV 1) (mCons (mOp2 addM (M.ret (.int 64)) (mV 5)) (mCons (mOp2 ixM (mV 0) (mV 5)) mNil)))))))))) nD
    (fun xs r => ∃ ws tot c5 c6 j, r = [.pl (nsD ns), .pl (.int c), .pl (nD t), .ow (ws.map rowD), .pl (.int tot), c5, c6, .un] ∧ c5.own = false ∧ c6.own = false ∧ xs = (List.range ns.length).drop j ∧ ws.length = min j ns.length ∧ ∀ (i n : Nat) (w : List Int), ns[i]? = some n → ws[i]? = some w → w.length = n)
    (xs := List.range ns.length) (r := [.pl (nsD ns), .pl (.int c), .pl (nD t), .ow [], .pl (.int ((drw c 2 3 : Nat) - 1)), .un, .un, .un])
    ⟨[], _, .un, .un, 0, rfl, rfl, rfl, rfl, by simp, by simp⟩ (by
      rintro i xs r ⟨ws, tot, c5, c6, j, rfl, h5, h6, hj, hl, hw⟩
      obtain ⟨rfl, lj, hx⟩ := range_drop hj
      have e1 := List.getElem?_eq_getElem lj
      have b6 := hn.2 _ (List.getElem_mem lj)
      have mm : mulM (.int 6) (nD i) = some (nD (6 * i)) := mul_ok (a := 6) (by omega) (by omega)
      have d3 := g_draw (k := 64 + i) (l := ns[i]) hc (by omega) (by omega)
      have b3 := drw_lt (k := 64 + i) (l := ns[i]) hc (by omega) (by omega)
      have lc := lcy (vs := [7]) (mi := mRng1 (mCons (mOp2 ixM (mV 0) (mV 5)) mNil)) (g := gN 7) (me := mOp2 subM (mCall g_law_draw_48e0b (mCons (mV 1) (mCons (mOp2 addM (mOp2 addM (mOp2 mulM (M.ret (.int 6)) (mV 5)) (mV 7)) (M.ret (.int 4))) (mCons (mV 2) mNil)))) (mOp2 divM (mV 2) (M.ret (.int 2)))) (r := [.pl (nsD ns), .pl (.int c), .pl (nD t), .ow (ws.map rowD), .pl (.int tot), .pl (nD i), c6, .un])
        nD (fun p => .int ((drw c (6 * i + p + 4) t : Nat) - (t : Int) / 2)) (fun p => [.pl (nsD ns), .pl (.int c), .pl (nD t), .ow (ws.map rowD), .pl (.int tot), .pl (nD i), c6, .pl (nD p)]) (xs := List.range ns[i]) (by simp [e1, e_rng_n ns[i] (by omega)]) (by simp [freeAt]) (by simp; omega) (by simp) (by simp) (by
          intro p hp
          have := List.mem_range.mp hp
          have dd := g_draw (k := 6 * i + p + 4) (l := t) hc (by omega) (by omega)
          have z : subM (nD (drw c (6 * i + p + 4) t)) (.int ((t : Int) / 2)) = some (.int ((drw c (6 * i + p + 4) t : Nat) - (t : Int) / 2)) := rfl
          simp [mm, dd, hd2, z])
      obtain ⟨row, hr⟩ : ∃ row : List Int, row = (List.range ns[i]).map fun p => ((drw c (6 * i + p + 4) t : Nat) - (t : Int) / 2 : Int) := ⟨_, rfl⟩
      have er : ((List.range ns[i]).map fun p => PyData.int ((drw c (6 * i + p + 4) t : Nat) - (t : Int) / 2)) = row.map PyData.int := by rw [hr, List.map_map]; rfl
      rw [er] at lc
      have lr : row.length = ns[i] := by rw [hr]; simp
      have ex : row[drw c (64 + i) ns[i]]? = some row[drw c (64 + i) ns[i]] := List.getElem?_eq_getElem (by omega)
      refine ⟨[.pl (nsD ns), .pl (.int c), .pl (nD t), .ow (ws.map rowD), .pl (.int tot), .pl (nD i), c6, .un], [.pl (nsD ns), .pl (.int c), .pl (nD t), .ow ((ws ++ [row]).map rowD), .pl (.int (tot + row[drw c (64 + i) ns[i]])), .pl (nD i), .pl (.list (row.map .int)), .un], by simp [h5], ?_, _, _, _, _, i + 1, rfl, rfl, rfl, hx, by simp [hl]; omega, ?_⟩
      · have lw : ws.length ≤ 1000000 := by omega
        have lit : PyData.tuple (row.map PyData.int) = rowD row := rfl
        have ixr : ixM (.list (row.map PyData.int)) (nD (drw c (64 + i) ns[i])) = some (.int row[drw c (64 + i) ns[i]]) := ix_mapL ex
        cases c6 with
        | ow d => cases h6
        | io d => cases h6
        | _ => simp [lc, lw, lit, d3, ixr, e1, -List.map_map]
      · intro a n w ha hw'
        by_cases q : a < ws.length
        · rw [List.getElem?_append_left q] at hw'
          exact hw a n w ha hw'
        · have la : a < (ws ++ [row]).length := (List.getElem?_eq_some_iff.mp hw').1
          simp at la
          have : a = i := by omega
          subst this
          have lw : ws.length = a := by omega
          rw [← lw] at hw'
          simp at hw'
          subst hw'
          rw [e1] at ha
          cases ha
          exact lr)
  refine ⟨ws, tot, ?_, ?_⟩
  · have e0 : subM (nD (drw c 2 3)) (.int 1) = some (.int ((drw c 2 3 : Nat) - 1)) := rfl
    have et : tupM [.int 3, .int 7, .int 101] = some (.tuple [.int 3, .int 7, .int 101]) := rfl
    simp [v_law_card_4ab7e, d0, ht, d1, e0, e_rng ns.length (by omega)]
    rw [e]
    simp [Frm.D]
  · rw [Frm.Ok]
    have : ns.length ≤ j := by
      have e := congrArg List.length hj
      simp at e
      omega
    exact ⟨by omega, h2⟩
end DL
namespace DL
open PySem PySem.Spec PyProof.Rows L2 Lk
variable {ns : List Nat} {c : Int}
theorem eqv_nil : PyData.eqv (nsD ns) (.list []) = ns.isEmpty := by
  cases ns with
  | nil => simp [PyData.eqv, PyData.eqvAll]
  | cons a l => simp [PyData.eqv, PyData.eqvAll]
theorem sh_ns : SeqAt.shaped (nsD ns) = true := (Sh.list fun _ _ => Sh.n).sh
theorem sh_nil : SeqAt.shaped (.list []) = true := shaped_of rfl (by simp [PyData.depth, PyData.depthAll])
theorem e_eq_nil : eqM (nsD ns) (.list []) = some (.bool ns.isEmpty) := by rw [e_eqD sh_ns sh_nil, eqv_nil]
theorem e_ne_nil : neM (nsD ns) (.list []) = some (.bool (!ns.isEmpty)) := by rw [e_neD sh_ns sh_nil, eqv_nil]
theorem e_ne_nilI {l : List Int} : neM (isD l) (.list []) = some (.bool (!l.isEmpty)) := by
  rw [e_neD (Sh.list fun _ _ => Sh.int).sh sh_nil]
  cases l with
  | nil => simp [PyData.eqv, PyData.eqvAll]
  | cons a l => simp [PyData.eqv, PyData.eqvAll]
@[simp] theorem e_gt_l {a n : Nat} : gtM (nD a) (.int (no_index (@OfNat.ofNat Int n instOfNat))) = some (.bool (decide (n < a))) := by
  show some (PyData.bool (decide (((n : Nat) : Int) < a))) = _
  simp
theorem e_bools {α : Type} {xs : List α} {f : α → Bool} : tupleM [.list (xs.map fun x => PyData.bool (f x))] = some (.tuple ((xs.map f).map PyData.bool)) := by
  rw [e_tupleL, List.map_map]
  rfl
theorem Frm.szs_le {n : Nat} : ∀ {xs : List Frm}, (∀ x ∈ xs, x.sz ≤ n) → Frm.szs xs ≤ xs.length * n
  | [], _ => by rw [Frm.szs]; omega
  | x :: xs, h => by
    have h1 := h x (List.mem_cons_self ..)
    have h2 := Frm.szs_le (xs := xs) fun y hy => h y (List.mem_cons_of_mem _ hy)
    rw [Frm.szs, List.length_cons, Nat.succ_mul]
    omega
theorem g_leaf_ok (hc : Bits c) (hn : Sz ns) (hp : prod ns ≤ 100000) : ∃ x : Frm, g_law_leaf_52ac9 [nsD ns, .int c] = some x.D ∧ x.Ok ns ∧ x.dp ≤ 1 ∧ x.sz ≤ 7 := by
  rw [r_law_leaf_52ac9]
  have l24 := hn.1
  have d0 : g_law_draw_48e0b [.int c, .int 90, .int 6] = some (nD (drw c 90 6)) := g_draw (k := 90) (l := 6) hc (by decide) (by decide)
  have d1 : g_law_draw_48e0b [.int c, .int 92, .int 2] = some (nD (drw c 92 2)) := g_draw (k := 92) (l := 2) hc (by decide) (by decide)
  have d2 : g_law_draw_48e0b [.int c, .int 93, .int 2] = some (nD (drw c 93 2)) := g_draw (k := 93) (l := 2) hc (by decide) (by decide)
  obtain ⟨r2, e, many, c4, rfl, h4, hm, _⟩ := for_i (g := gN 4) (b := sSet 3 (mOp2 mulM (mV 3) (mV 4))) nD
    (fun xs r => ∃ many c4, r = [.pl (nsD ns), .pl (.int c), .pl (nD (drw c 90 6)), .pl (nD many), c4, .un, .un, .un] ∧ c4.own = false ∧ many * prod xs = prod ns ∧ ∀ x ∈ xs, 2 ≤ x ∧ x ≤ 6)
    (xs := ns) (r := [.pl (nsD ns), .pl (.int c), .pl (nD (drw c 90 6)), .pl (nD 1), .un, .un, .un, .un]) ⟨1, .un, rfl, rfl, by omega, hn.2⟩ (by
      rintro i xs r ⟨many, c4, rfl, h4, hm, hx⟩
      have b := hx i (List.mem_cons_self ..)
      have pp : 0 < prod xs := prod_pos fun m hm => by have := hx m (List.mem_cons_of_mem _ hm); omega
      rw [prod, ← Nat.mul_assoc] at hm
      have a1 : many * i ≤ 100000 := Nat.le_trans (Nat.le_mul_of_pos_right _ pp) (by omega)
      have a2 : many ≤ 100000 := Nat.le_trans (Nat.le_mul_of_pos_right _ (by omega)) a1
      refine ⟨[.pl (nsD ns), .pl (.int c), .pl (nD (drw c 90 6)), .pl (nD many), .pl (nD i), .un, .un, .un], [.pl (nsD ns), .pl (.int c), .pl (nD (drw c 90 6)), .pl (nD (many * i)), .pl (nD i), .un, .un, .un], by simp [h4], by simp [mul_ok (a := many) (b := i) (by omega) (by omega)], _, _, rfl, rfl, hm, fun x hx' => hx x (List.mem_cons_of_mem _ hx')⟩)
  rw [prod, Nat.mul_one] at hm
  have n1 : PyData.int 1 = nD 1 := rfl
  rw [← n1] at e
  subst hm
  simp [v_law_leaf_52ac9, d0]
  rw [e]
  generalize drw c 90 6 = w
  by_cases w0 : w = 0 ∨ (w = 1 ∧ 128 < prod ns)
  · obtain ⟨ws, t, e2, ok⟩ := g_card_ok hc hn
    refine ⟨.card ws t, ?_, ok, by rw [Frm.dp] <;> simp, by rw [Frm.sz] <;> simp⟩
    rcases w0 with rfl | ⟨rfl, w1⟩
    · simp [e2]
    · simp [e2, w1]
  rw [not_or] at w0
  by_cases w1 : w = 1
  · subst w1
    have q : ¬ 128 < prod ns := fun h => w0.2 ⟨rfl, h⟩
    refine ⟨.table ((List.range (prod ns)).map fun a => drw c (a % 61 + 100) 2 == 1), ?_, by rw [Frm.Ok]; exact ⟨by omega, by simp⟩, by rw [Frm.dp] <;> simp, by rw [Frm.sz] <;> simp⟩
    simp [q]
    rw [lcy nD (fun a => .bool (drw c (a % 61 + 100) 2 == 1)) (fun a => [.pl (nsD ns), .pl (.int c), .pl (nD 1), .pl (nD (prod ns)), c4, .un, .un, .pl (nD a)]) (xs := List.range (prod ns)) (by simp [e_rng_n (prod ns) (by omega)]) (by simp [freeAt]) (by simp; omega) (by simp) (by simp) (by
      intro a _
      have i1 : intM [nD a] = some (nD a) := rfl
      have i2 : modM (nD a) (.int 61) = some (nD (a % 61)) := e_mod_n (b := 61) (by decide)
      have dd : g_law_draw_48e0b [.int c, nD (a % 61 + 100), .int 2] = some (nD (drw c (a % 61 + 100) 2)) := g_draw (l := 2) hc (by omega) (by decide)
      simp [i1, i2, dd])]
    simp [Frm.D]
  have w0' : ¬ w = 0 := w0.1
  by_cases w2 : w = 2
  · subst w2
    obtain ⟨cs, e2, ok⟩ := g_conds_ok hc hn
    refine ⟨.rules [(cs, drw c 92 2 == 1)] (drw c 93 2 == 1), ?_, by rw [Frm.Ok]; exact ⟨by simp, by simpa using ok⟩, by rw [Frm.dp] <;> simp, by rw [Frm.sz] <;> simp⟩
    simp [e2, d1, d2, Frm.D, ruleD]
  by_cases w3 : w = 3 ∨ ns = []
  · refine ⟨.say (drw c 92 2 == 1), ?_, by rw [Frm.Ok]; trivial, by rw [Frm.dp] <;> simp, by rw [Frm.sz] <;> simp⟩
    rcases w3 with rfl | rfl
    · simp [d1, Frm.D]
    · by_cases q3 : w = 3
      · subst q3
        simp [d1, Frm.D]
      simp [w0', w1, w2, q3, d1, Frm.D, e_eq_nil]
  rw [not_or] at w3
  have nn : ns ≠ [] := w3.2
  have ne : ns.isEmpty = false := by cases ns; exact absurd rfl nn; rfl
  have lp : 0 < ns.length := List.length_pos_iff.mpr nn
  have el : PyData.int (ns.length : Int) = nD ns.length := rfl
  have d3 := g_draw (k := 91) (l := ns.length) hc (by decide) lp
  have d3' : g_law_draw_48e0b [.int c, .int 91, nD ns.length] = some (nD (drw c 91 ns.length)) := d3
  have b3 := drw_lt (k := 91) (l := ns.length) hc (by decide) lp
  generalize drw c 91 ns.length = f at d3' b3
  have e1 := List.getElem?_eq_getElem b3
  have b6 := hn.2 _ (List.getElem_mem b3)
  by_cases w4 : w = 4
  · subst w4
    obtain ⟨vs, hv, av⟩ := g_values_ok (k := 92) (n := ns[f]) hc (by decide) b6.2
    have hv' : g_law_values_1b941 [.int c, .int 92, nD ns[f]] = some (.tuple (vs.map nD)) := hv
    refine ⟨.test f vs, ?_, by rw [Frm.Ok]; exact ⟨_, e1, av⟩, by rw [Frm.dp] <;> simp, by rw [Frm.sz] <;> simp⟩
    simp [e_eq_nil, ne, el, d3', e1, hv', Frm.D]
  refine ⟨.tree f ((List.range ns[f]).map fun p => .say (drw c (92 + p) 2 == 1)), ?_, ?_, ?_, ?_⟩
  · simp [w0', w1, w2, w3.1, w4, e_eq_nil, ne, el, d3', e1]
    rw [lcy nD (fun p => (Frm.say (drw c (92 + p) 2 == 1)).D) (fun p => [.pl (nsD ns), .pl (.int c), .pl (nD w), .pl (nD (prod ns)), c4, .pl (nD f), .pl (nD p), .un]) (xs := List.range ns[f]) (by simp [e1, e_rng_n ns[f] (by omega)]) (by simp [freeAt]) (by simp; omega) (by simp) (by simp) (by
      intro p hp
      have := List.mem_range.mp hp
      have dd : g_law_draw_48e0b [.int c, nD (92 + p), .int 2] = some (nD (drw c (92 + p) 2)) := g_draw (l := 2) hc (by omega) (by decide)
      simp [dd, Frm.D])]
    simp [Frm.D, Frm.Ds_eq, Function.comp_def]
  · rw [Frm.Ok]
    refine ⟨by rw [List.length_map, List.length_range]; exact e1, Frm.Oks_iff.mpr fun y hy => ?_⟩
    obtain ⟨p, _, rfl⟩ := List.mem_map.mp hy
    rw [Frm.Ok]
    trivial
  · rw [Frm.dp]
    have := Frm.dps_of (n := 0) (xs := (List.range ns[f]).map fun p => Frm.say (drw c (92 + p) 2 == 1)) fun y hy => by
      obtain ⟨p, _, rfl⟩ := List.mem_map.mp hy
      rw [Frm.dp] <;> simp
    omega
  · rw [Frm.sz]
    have := Frm.szs_le (n := 1) (xs := (List.range ns[f]).map fun p => Frm.say (drw c (92 + p) 2 == 1)) fun y hy => by
      obtain ⟨p, _, rfl⟩ := List.mem_map.mp hy
      rw [Frm.sz] <;> simp
    simp at this
    omega
theorem g_part_ok (hc : Bits c) (hn : Sz ns) (hp : prod ns ≤ 100000) : ∃ x : Frm, g_law_part_518aa [nsD ns, .int c] = some x.D ∧ x.Ok ns ∧ x.dp ≤ 2 ∧ x.sz ≤ 8 := by
  rw [r_law_part_518aa]
  have d0 : g_law_draw_48e0b [.int c, .int 80, .int 3] = some (nD (drw c 80 3)) := g_draw (k := 80) (l := 3) hc (by decide) (by decide)
  obtain ⟨x, e, ok, h1, h2⟩ := g_leaf_ok hc hn hp
  by_cases q : drw c 80 3 = 0
  · refine ⟨.neg x, ?_, by rw [Frm.Ok]; exact ok, by rw [Frm.dp]; omega, by rw [Frm.sz]; omega⟩
    simp [v_law_part_518aa, e, d0, q, Frm.D]
  · refine ⟨x, ?_, ok, by omega, by omega⟩
    simp [v_law_part_518aa, e, d0, q]
theorem e_cut {α : Type} {f : α → PyData} {xs : List α} {lo hi : Nat} : cutD (xs.map f) (some (lo : Int)) (some (hi : Int)) = ((xs.drop lo).take (hi - lo)).map f := by
  unfold cutD
  rw [HT.sIx_nat, HT.sIx_nat, List.map_take, List.map_drop, List.length_map]
  by_cases h : lo ≤ xs.length
  · rw [Nat.min_eq_left h]
    by_cases h2 : hi ≤ xs.length
    · rw [Nat.min_eq_left h2]
    · rw [Nat.min_eq_right (show xs.length ≤ hi by omega)]
      rw [List.take_of_length_le (by simp), List.take_of_length_le (by simp; omega)]
  · rw [Nat.min_eq_right (show xs.length ≤ lo by omega)]
    rw [List.drop_eq_nil_of_le (by simp), List.drop_eq_nil_of_le (by simp; omega)]
    simp
/-- parts, one for each cell -/
theorem parts_ok {α : Type} (hn : Sz ns) (hp : prod ns ≤ 100000) (cell : α → Int) {xs : List α} (hb : ∀ a ∈ xs, Bits (cell a)) : ∃ F : α → Frm, ∀ a ∈ xs, g_law_part_518aa [nsD ns, .int (cell a)] = some (F a).D ∧ (F a).Ok ns ∧ (F a).dp ≤ 2 ∧ (F a).sz ≤ 8 := by
  classical
  refine ⟨fun a => if h : a ∈ xs then Classical.choose (g_part_ok (hb a h) hn hp) else .say true, fun a h => ?_⟩
  dsimp only
  rw [dif_pos h]
  exact Classical.choose_spec (g_part_ok (hb a h) hn hp)
theorem listed_ok {α : Type} (hn : Sz ns) (cell : α → Int) {xs : List α} (hb : ∀ a ∈ xs, Bits (cell a)) : ∃ F : α → List Cond, ∀ a ∈ xs, g_law_conditions_05f1f [nsD ns, .int (cell a)] = some (condsD (F a)) ∧ CondsOk ns (F a) := by
  classical
  refine ⟨fun a => if h : a ∈ xs then Classical.choose (g_conds_ok (hb a h) hn) else [], fun a h => ?_⟩
  dsimp only
  rw [dif_pos h]
  exact Classical.choose_spec (g_conds_ok (hb a h) hn)
theorem Bits.zero : Bits 0 := by unfold Bits Builtin.Int.intBits; decide
theorem addL_ok {α : Type} {f : α → PyData} {xs : List α} {d : PyData} (h : xs.length + 1 ≤ 1000000) : addM (.list (xs.map f)) (.list [d]) = some (.list (xs.map f ++ [d])) := e_addL (by simpa using h)
def hd (cells : List Int) : Int := (cells ++ [0]).headD 0
theorem hd_ok {cells : List Int} : atI (cells.map PyData.int ++ [.int 0]) 0 = some (.int (hd cells)) := by
  cases cells with
  | nil => exact e_at0
  | cons a l => exact e_at0
theorem g_form_ok2 {cells : List Int} (hn : Sz ns) (hp : prod ns ≤ 100000) (hb : ∀ c ∈ cells, Bits c) (hl : cells.length ≤ 1000) : ∃ x : Frm, g_law_form_06328 [nsD ns, isD cells] = some x.D ∧ x.Ok ns ∧ x.dp ≤ 3 ∧ x.sz ≤ 60 ∧ (cells.length ≤ 3 → x.sz ≤ 17 ∨ ∃ f bs, x = .tree f bs) := by
  rw [r_law_form_06328]
  have bh : Bits (hd cells) := by
    cases cells with
    | nil => exact Bits.zero
    | cons a l => exact hb a (List.mem_cons_self ..)
  have d0 : g_law_draw_48e0b [.int (hd cells), .int 81, .int 6] = some (nD (drw (hd cells) 81 6)) := g_draw (k := 81) (l := 6) bh (by decide) (by decide)
  have b0 := drw_lt (k := 81) (l := 6) bh (by decide) (by decide)
  have d1 : g_law_draw_48e0b [.int (hd cells), .int 82, .int 2] = some (nD (drw (hd cells) 82 2)) := g_draw (k := 82) (l := 2) bh (by decide) (by decide)
  obtain ⟨rest, hr1, c1⟩ : ∃ rest, rest = (cells.drop 1).take 7 ∧ cutD (cells.map PyData.int) (some 1) (some 8) = rest.map PyData.int := ⟨_, rfl, e_cut (lo := 1) (hi := 8)⟩
  obtain ⟨more, hr2, c2⟩ : ∃ more, more = (cells.drop 1).take 12 ∧ cutD (cells.map PyData.int) (some 1) (some 13) = more.map PyData.int := ⟨_, rfl, e_cut (lo := 1) (hi := 13)⟩
  have ha : addM (.list (cells.map PyData.int)) (.list [.int 0]) = some (.list (cells.map PyData.int ++ [.int 0])) := addL_ok (by omega)
  have br : ∀ c ∈ rest, Bits c := fun c h => hb c (by rw [hr1] at h; exact List.mem_of_mem_drop (List.mem_of_mem_take h))
  have bl : ∀ c ∈ more, Bits c := fun c h => hb c (by rw [hr2] at h; exact List.mem_of_mem_drop (List.mem_of_mem_take h))
  have lr : rest.length ≤ 7 := by rw [hr1]; simp; omega
  have ll : more.length ≤ 12 := by rw [hr2]; simp; omega
  have lr2 : cells.length ≤ 3 → rest.length ≤ 2 := fun h => by rw [hr1]; simp; omega
  clear hr1 hr2
  simp [v_law_form_06328, ha, hd_ok, d0, c1]
  generalize drw (hd cells) 81 6 = w at b0
  by_cases w0 : w = 0
  · subst w0
    obtain ⟨F, hF⟩ := listed_ok hn id bl
    refine ⟨.rules (more.map fun c => (F c, drw c 0 2 == 1)) (drw (hd cells) 82 2 == 1), ?_, ?_, by rw [Frm.dp] <;> simp, by rw [Frm.sz] <;> simp, fun _ => .inl (by rw [Frm.sz] <;> simp)⟩
    · simp [c2]
      rw [lcy PyData.int (fun c => ruleD (F c, drw c 0 2 == 1)) (fun c => [.pl (nsD ns), .pl (isD cells), .pl (.int (hd cells)), .pl (nD 0), .pl (isD rest), .un, .un, .pl (.int c), .un]) (xs := more) (by simp [c2]) (by simp [freeAt]) (by omega) (by simp) (by simp) (by
        intro c hc
        have dd : g_law_draw_48e0b [.int c, .int 0, .int 2] = some (nD (drw c 0 2)) := g_draw (k := 0) (l := 2) (bl c hc) (by decide) (by decide)
        have := (hF c hc).1
        simp only [id] at this
        simp [this, dd, ruleD])]
      simp [d1, Frm.D, Function.comp_def]
    · rw [Frm.Ok]
      refine ⟨by simp; omega, fun r hr => ?_⟩
      obtain ⟨c, hc, rfl⟩ := List.mem_map.mp hr
      exact (hF c hc).2
  by_cases w4 : w < 4
  · obtain ⟨F, hF⟩ := parts_ok hn hp id br
    obtain ⟨j, hj⟩ : ∃ j : Jw, atI [PyData.str "and", .str "or", .str "odd"] ((w : Int) - 1) = some (.str j.str) := by
      have : w = 1 ∨ w = 2 ∨ w = 3 := by omega
      rcases this with rfl | rfl | rfl
      · exact ⟨.and, rfl⟩
      · exact ⟨.or, rfl⟩
      · exact ⟨.odd, rfl⟩
    have es : subM (nD w) (.int 1) = some (.int ((w : Int) - 1)) := rfl
    have jz := Frm.szs_le (n := 8) (xs := rest.map F) fun y hy => by
      obtain ⟨c, hc, rfl⟩ := List.mem_map.mp hy
      exact (hF c hc).2.2.2
    rw [List.length_map] at jz
    refine ⟨.join j (rest.map F), ?_, ?_, ?_, ?_, fun h3 => .inl (by have := lr2 h3; rw [Frm.sz]; omega)⟩
    · simp [w0, w4, es, hj]
      rw [lcy PyData.int (fun c => (F c).D) (fun c => [.pl (nsD ns), .pl (isD cells), .pl (.int (hd cells)), .pl (nD w), .pl (isD rest), .un, .un, .pl (.int c), .un]) (xs := rest) (by simp) (by simp [freeAt]) (by omega) (by simp) (by simp) (by
        intro c hc
        have := (hF c hc).1
        simp only [id] at this
        simp [this])]
      simp [Frm.D, Frm.Ds_eq, Function.comp_def]
    · rw [Frm.Ok]
      refine ⟨by simp; omega, Frm.Oks_iff.mpr fun y hy => ?_⟩
      obtain ⟨c, hc, rfl⟩ := List.mem_map.mp hy
      exact (hF c hc).2.1
    · rw [Frm.dp]
      have := Frm.dps_of (n := 2) (xs := rest.map F) fun y hy => by
        obtain ⟨c, hc, rfl⟩ := List.mem_map.mp hy
        exact (hF c hc).2.2.1
      omega
    · rw [Frm.sz]
      have := Frm.szs_le (n := 8) (xs := rest.map F) fun y hy => by
        obtain ⟨c, hc, rfl⟩ := List.mem_map.mp hy
        exact (hF c hc).2.2.2
      simp at this
      omega
  have leafcase : ∃ x : Frm, g_law_leaf_52ac9 [nsD ns, .int (hd cells)] = some x.D ∧ x.Ok ns ∧ x.dp ≤ 3 ∧ x.sz ≤ 60 ∧ (cells.length ≤ 3 → x.sz ≤ 17 ∨ ∃ f bs, x = .tree f bs) := by
    obtain ⟨x, h1, h2, h3, h4⟩ := g_leaf_ok bh hn hp
    exact ⟨x, h1, h2, by omega, by omega, fun _ => .inl (by omega)⟩
  by_cases w5 : w = 4 ∧ ns ≠ [] ∧ rest ≠ []
  · obtain ⟨rfl, nn, nr⟩ := w5
    have ne : ns.isEmpty = false := by cases ns; exact absurd rfl nn; rfl
    have nre : rest.isEmpty = false := by cases rest; exact absurd rfl nr; rfl
    have lp : 0 < ns.length := List.length_pos_iff.mpr nn
    have lrp : 0 < rest.length := List.length_pos_iff.mpr nr
    have el : PyData.int (ns.length : Int) = nD ns.length := rfl
    have d3 : g_law_draw_48e0b [.int (hd cells), .int 82, nD ns.length] = some (nD (drw (hd cells) 82 ns.length)) := g_draw (k := 82) bh (by decide) lp
    have b3 := drw_lt (k := 82) (l := ns.length) bh (by decide) lp
    generalize drw (hd cells) 82 ns.length = f at d3 b3
    have e1 := List.getElem?_eq_getElem b3
    have b6 := hn.2 _ (List.getElem_mem b3)
    obtain ⟨F, hF⟩ := parts_ok (xs := List.range ns[f]) hn hp (fun k => rest.getD (k % rest.length) 0) (fun k hk => by
      have : k % rest.length < rest.length := Nat.mod_lt _ lrp
      rw [getD_of (List.getElem?_eq_getElem this)]
      exact br _ (List.getElem_mem this))
    refine ⟨.tree f ((List.range ns[f]).map F), ?_, ?_, ?_, ?_, fun _ => .inr ⟨_, _, rfl⟩⟩
    · simp [e_ne_nil, e_ne_nilI, ne, nre, el, d3, e1]
      rw [lcy nD (fun p => (F p).D) (fun p => [.pl (nsD ns), .pl (isD cells), .pl (.int (hd cells)), .pl (nD 4), .pl (isD rest), .un, .pl (nD f), .un, .pl (nD p)]) (xs := List.range ns[f]) (by simp [e1, e_rng_n ns[f] (by omega)]) (by simp [freeAt]) (by simp; omega) (by simp) (by simp) (by
        intro p hp'
        have := (hF p hp').1
        have i1 : intM [nD p] = some (nD p) := rfl
        have er : PyData.int (rest.length : Int) = nD rest.length := rfl
        have lt : p % rest.length < rest.length := Nat.mod_lt _ lrp
        have ea := List.getElem?_eq_getElem lt
        rw [getD_of ea] at this
        simp [i1, er, e_mod_n lrp, e_ix_l, ea, this])]
      simp [Frm.D, Frm.Ds_eq, Function.comp_def]
    · rw [Frm.Ok]
      refine ⟨by rw [List.length_map, List.length_range]; exact e1, Frm.Oks_iff.mpr fun y hy => ?_⟩
      obtain ⟨p, hp', rfl⟩ := List.mem_map.mp hy
      exact (hF p hp').2.1
    · rw [Frm.dp]
      have := Frm.dps_of (n := 2) (xs := (List.range ns[f]).map F) fun y hy => by
        obtain ⟨c, hc, rfl⟩ := List.mem_map.mp hy
        exact (hF c hc).2.2.1
      omega
    · rw [Frm.sz]
      have := Frm.szs_le (n := 8) (xs := (List.range ns[f]).map F) fun y hy => by
        obtain ⟨c, hc, rfl⟩ := List.mem_map.mp hy
        exact (hF c hc).2.2.2
      simp at this
      omega
  · obtain ⟨x, h1, h2⟩ := leafcase
    refine ⟨x, ?_, h2⟩
    by_cases q4 : w = 4
    · subst q4
      by_cases nn : ns = []
      · subst nn
        simp [e_ne_nil, h1]
      · have nr : rest = [] := Classical.byContradiction fun z => w5 ⟨rfl, nn, z⟩
        subst nr
        have ne : ns.isEmpty = false := by cases ns; exact absurd rfl nn; rfl
        have z : neM (.list []) (.list []) = some (.bool false) := e_ne_nil (ns := [])
        simp [e_ne_nil, ne, z, h1]
    · simp [w0, w4, q4, h1]
theorem g_form_ok {cells : List Int} (hn : Sz ns) (hp : prod ns ≤ 100000) (hb : ∀ c ∈ cells, Bits c) (hl : cells.length ≤ 1000) : ∃ x : Frm, g_law_form_06328 [nsD ns, isD cells] = some x.D ∧ x.Ok ns ∧ x.dp ≤ 3 ∧ x.sz ≤ 60 := by
  obtain ⟨x, h1, h2, h3, h4, _⟩ := g_form_ok2 hn hp hb hl
  exact ⟨x, h1, h2, h3, h4⟩
end DL
namespace DL
open PySem PySem.Spec PyProof.Rows L2 Lk
variable {ns cs : List Nat} {c : Int}
/-! ## what the law says of a form -/
theorem find_head {rs : List Rule} {l : Bool} {p : Rule → Bool} : atI (((rs.filter p).map fun r => PyData.bool r.2) ++ [.bool l]) 0 = some (.bool (match rs.find? p with
    | some r => r.2
    | none => l)) := by
  induction rs with
  | nil => exact e_at0
  | cons r rs ih =>
    rw [List.filter_cons, List.find?_cons]
    cases p r with
    | true => exact e_at0
    | false => exact ih
theorem many_ev {w : Jw} {xs : List Frm} {f : Frm → Bool} : w.ev (xs.map f) = (match w with
    | .and => (xs.filter f).length == xs.length
    | .or => decide (0 < (xs.filter f).length)
    | .odd => (xs.filter f).length % 2 == 1) := by
  cases w with
  | and =>
    show (xs.map f).all id = _
    rw [List.all_map, Bool.eq_iff_iff, beq_iff_eq, List.all_eq_true, List.length_filter_eq_length_iff]
    rfl
  | or =>
    show (xs.map f).any id = _
    rw [List.any_map, Bool.eq_iff_iff, decide_eq_true_iff, List.any_eq_true, List.length_pos_iff, ne_eq, List.filter_eq_nil_iff]
    simp
  | odd =>
    show ((xs.map f).countP id % 2 == 1) = _
    rw [List.countP_map, List.countP_eq_length_filter]
    rfl
theorem g_said_ok (hn : Sz ns) (hc : Case ns cs) (x : Frm) : ∀ k, x.Ok ns → x.dp < k → g_law_said_e4d74 k [nsD ns, x.D, nsD cs] = some (.bool (x.ev ns cs)) := by
  have l24 := hn.1
  have lcs := hc.1
  have el : PyData.int (cs.length : Int) = nD cs.length := rfl
  induction x using Frm.ind with
  | say b => intro k h hk; cases k with | zero => omega | succ k => rw [r_law_said_e4d74]; simp [v_law_said_e4d74, Frm.D, Frm.ev]
  | test f vs =>
    intro k h hk
    cases k with
    | zero => omega
    | succ k =>
      rw [r_law_said_e4d74]
      rw [Frm.Ok] at h
      obtain ⟨v, e1, e2⟩ := testOk_at hc h
      simp [v_law_said_e4d74, Frm.D, Frm.ev, e1]
  | rules rs l =>
    intro k h hk
    cases k with
    | zero => omega
    | succ k =>
      rw [r_law_said_e4d74]
      rw [Frm.Ok] at h
      simp [v_law_said_e4d74, Frm.D]
      rw [lcm ruleD (fun r => fitsB cs r.1) (fun r => .bool r.2) (fun r => [.pl (nsD ns), .pl (.tuple [.str "rules", .tuple (rs.map ruleD), .bool l]), .pl (nsD cs), .pl (.str "rules"), .pl (.tuple (rs.map ruleD)), .un, .un, .un, .un, .pl (ruleD r), .un, .un]) (xs := rs) (by simp) (by simp [freeAt]) (by omega) (by simp) (by simp) (by
        intro r hr
        have ok := h.2 r hr
        have lr := conds_len ok
        have i0 : ixM (ruleD r) (.int 0) = some (condsD r.1) := e_at0
        simp [i0]
        rw [lcy condD (fun c => .bool (c.2.contains (cs.getD c.1 0))) (fun c => [.pl (nsD ns), .pl (.tuple [.str "rules", .tuple (rs.map ruleD), .bool l]), .pl (nsD cs), .pl (.str "rules"), .pl (.tuple (rs.map ruleD)), .pl (nD c.1), .un, .un, .un, .pl (ruleD r), .un, .pl (.tuple (c.2.map nD))]) (xs := r.1) (by simp [i0]) (by simp [freeAt]) (by omega) (by intro c _; simp [condD]) (by simp) (by
          intro c hr
          obtain ⟨v, e1, e2⟩ := testOk_at hc (ok.2 c hr)
          simp [e1, e2])]
        simp [e_allT, fitsB]) (by
        intro r _ _
        have i1 : ixM (ruleD r) (.int 1) = some (.bool r.2) := e_at1
        simp [i1])]
      have lf : (rs.filter fun r => fitsB cs r.1).length ≤ 1000 := Nat.le_trans (List.length_filter_le ..) h.1
      have ad : addM (.list ((rs.filter fun r => fitsB cs r.1).map fun r => PyData.bool r.2)) (.list [.bool l]) = some (.list (((rs.filter fun r => fitsB cs r.1).map fun r => PyData.bool r.2) ++ [.bool l])) := addL_ok (by omega)
      simp [ad, find_head, Frm.ev]
      all_goals (cases rs.find? fun r => fitsB cs r.1 <;> rfl)
  | card ws t =>
    intro k h hk
    cases k with
    | zero => omega
    | succ k =>
      rw [r_law_said_e4d74]
      rw [Frm.Ok] at h
      have h2 := h.2
      simp [v_law_said_e4d74, Frm.D]
      rw [lcy nD (fun i => .int ((ws.getD i []).getD (cs.getD i 0) 0)) (fun i => [.pl (nsD ns), .pl (.tuple [.str "card", .tuple (ws.map rowD), .int t]), .pl (nsD cs), .pl (.str "card"), .pl (.tuple (ws.map rowD)), .pl (nD i), .un, .un, .un, .un, .un, .un]) (xs := List.range cs.length) (by simp [el, e_rng_n cs.length (by omega)]) (by simp [freeAt]) (by simp; omega) (by simp) (by simp) (by
        intro i hi
        have li := List.mem_range.mp hi
        have ln : i < ns.length := by omega
        have lw : i < ws.length := by omega
        have e1 := List.getElem?_eq_getElem ln
        have e2 := List.getElem?_eq_getElem lw
        obtain ⟨c, e3, hcn⟩ := hc.at e1
        have hw := h2 i _ _ e1 e2
        have e4 : ws[i][c]? = some ws[i][c] := List.getElem?_eq_getElem (by omega)
        rw [getD_of e2, getD_of e3, getD_of e4]
        simp only [e_op2, e_bind, e_V, e_lift_some, List.getElem?_cons_zero, List.getElem?_cons_succ, ix_map e2, ix_mapL e3, rowD, ix_map e4])]
      have es : sumM [.list ((List.range cs.length).map fun i => PyData.int ((ws.getD i []).getD (cs.getD i 0) 0))] = some (.int (wsum ws cs)) := by rw [e_sumF, sum_range ws cs (by omega)]
      simp only [e_bind, e_ret, e_lift_some, es]
      simp [Frm.ev]
  | table rs =>
    intro k h hk
    cases k with
    | zero => omega
    | succ k =>
      rw [r_law_said_e4d74]
      rw [Frm.Ok] at h
      have hlt := plc_lt (a := 0) hc
      have er : rs[plc 0 ns cs]? = some rs[plc 0 ns cs] := List.getElem?_eq_getElem (by omega)
      obtain ⟨r2, e, a, c5, j, rfl, _, hj, ha⟩ := for_i (g := gN 5) (b := sSet 7 (mOp2 addM (mOp2 mulM (mV 7) (mOp2 ixM (mV 0) (mV 5))) (mOp2 ixM (mV 2) (mV 5)))) nD
        (fun xs r => ∃ a c5 j, r = [.pl (nsD ns), .pl (.tuple [.str "table", .tuple (rs.map .bool)]), .pl (nsD cs), .pl (.str "table"), .pl (.tuple (rs.map .bool)), c5, .un, .pl (nD a), .un, .un, .un, .un] ∧ c5.own = false ∧ xs = (List.range ns.length).drop j ∧ a = plc 0 (ns.take j) (cs.take j))
        (xs := List.range ns.length) (r := [.pl (nsD ns), .pl (.tuple [.str "table", .tuple (rs.map .bool)]), .pl (nsD cs), .pl (.str "table"), .pl (.tuple (rs.map .bool)), .un, .un, .pl (nD 0), .un, .un, .un, .un]) ⟨0, .un, 0, rfl, rfl, rfl, rfl⟩ (by
          rintro i xs r ⟨a, c5, j, rfl, h5, hj, ha⟩
          obtain ⟨rfl, lj, hx⟩ := range_drop hj
          have e1 := List.getElem?_eq_getElem lj
          obtain ⟨d, e2, hd⟩ := hc.at e1
          have a1 := plc_part hn hc i (by omega)
          rw [← ha] at a1
          have b6 := (hn.2 _ (List.getElem_mem lj)).2
          refine ⟨[.pl (nsD ns), .pl (.tuple [.str "table", .tuple (rs.map .bool)]), .pl (nsD cs), .pl (.str "table"), .pl (.tuple (rs.map .bool)), .pl (nD i), .un, .pl (nD a), .un, .un, .un, .un], _, by simp [h5], ?_, a * ns[i] + d, .pl (nD i), i + 1, rfl, rfl, hx, ?_⟩
          · simp [e1, e2, e_mul_n (lt_big a1) (lt_big b6)]
          · rw [List.take_add_one, List.take_add_one, e1, e2, ha]
            exact (plc_snoc (by simp [hc.1])).symm)
      have lj : ns.length ≤ j := by
        have e := congrArg List.length hj
        simp at e
        omega
      rw [List.take_of_length_le lj, List.take_of_length_le (by omega)] at ha
      subst ha
      have n0 : PyData.int 0 = nD 0 := rfl
      have el : lenM [nsD cs] = some (nD ns.length) := by rw [e_lenL]; simp [lcs, nD]
      have els : PyData.int (ns.length : Int) = nD ns.length := rfl
      rw [← n0] at e
      simp [v_law_said_e4d74, Frm.D, lcs, els, e_rng_n ns.length (by omega)]
      rw [e]
      simp [Frm.ev, ix_map er, er]
  | tree f bs ih =>
    intro k h hk
    cases k with
    | zero => omega
    | succ k =>
      rw [Frm.Ok] at h
      rw [Frm.dp] at hk
      obtain ⟨c, e1, e2⟩ := hc.at h.1
      have eb : bs[c]? = some bs[c] := List.getElem?_eq_getElem e2
      have hm : bs[c] ∈ bs := List.getElem_mem e2
      have := ih _ hm k (Frm.Oks_iff.mp h.2 _ hm) (by have := Frm.dps_le hm; omega)
      rw [r_law_said_e4d74]
      simp [v_law_said_e4d74, Frm.D, Frm.ev, Frm.Ds_eq, Frm.evs_eq, e1, ix_map eb, this, eb]
  | neg x ih =>
    intro k h hk
    cases k with
    | zero => omega
    | succ k =>
      rw [Frm.Ok] at h
      rw [Frm.dp] at hk
      have := ih k h (by omega)
      rw [r_law_said_e4d74]
      simp [v_law_said_e4d74, Frm.D, Frm.ev, this]
  | join w xs ih =>
    intro k h hk
    cases k with
    | zero => omega
    | succ k =>
      rw [Frm.Ok] at h
      rw [Frm.dp] at hk
      rw [r_law_said_e4d74]
      have lc := lcm (vs := [10]) (mi := mSeq (mV 4)) (g := gN 10) (mt := mTru (mCall (g_law_said_e4d74 k) (mCons (mV 0) (mCons (mV 10) (mCons (mV 2) mNil))))) (me := mV 10) (r := [.pl (nsD ns), .pl (.tuple [.str w.str, .tuple (xs.map Frm.D)]), .pl (nsD cs), .pl (.str w.str), .pl (.tuple (xs.map Frm.D)), .un, .un, .un, .un, .un, .un, .un])
        Frm.D (fun x => x.ev ns cs) Frm.D (fun x => [.pl (nsD ns), .pl (.tuple [.str w.str, .tuple (xs.map Frm.D)]), .pl (nsD cs), .pl (.str w.str), .pl (.tuple (xs.map Frm.D)), .un, .un, .un, .un, .un, .pl x.D, .un]) (xs := xs) (by simp) (by simp [freeAt]) (by omega) (by simp) (by simp) (by
          intro x hx
          have := ih x hx k (Frm.Oks_iff.mp h.2 _ hx) (by have := Frm.dps_le hx; omega)
          simp [this]) (by simp)
      have ev := many_ev (w := w) (xs := xs) (f := Frm.ev ns cs)
      have n1 : ∀ n : Nat, PyData.int (n : Int) = nD n := fun _ => rfl
      have i1 : ∀ n : Nat, intM [nD n] = some (nD n) := fun _ => rfl
      have lf := List.length_filter_le (Frm.ev ns cs) xs
      cases w <;> (simp only [Jw.str] at lc ev; simp [v_law_said_e4d74, Frm.D, Frm.ev, Frm.Ds_eq, Frm.evs_eq, Jw.str, lc, n1, i1, ev, -List.length_filter_pos_iff, -List.length_filter_eq_length_iff])
end DL
namespace DL
open PySem PySem.Spec PyProof.Rows L2 Lk
variable {ns cs : List Nat} {c : Int} {hs : List (Option Nat)}
/-! ## all cases -/
theorem g_cases_ok (hn : Sz ns) (hsm : prod ns ≤ 100000) : g_law_cases_72b18 [nsD ns] = some (casesD (allc ns)) := by
  rw [r_law_cases_72b18]
  have l24 := hn.1
  have hne : ∀ ch ∈ ns.map List.range, 0 < ch.length := by
    intro ch h
    obtain ⟨n, hm, rfl⟩ := List.mem_map.mp h
    rw [List.length_range]
    have := hn.2 n hm
    omega
  have hlp : lenP (ns.map List.range) = prod ns := by
    rw [lenP, List.map_map]
    congr 1
    exact (List.map_congr_left fun x _ => List.length_range).trans (List.map_id' _)
  obtain ⟨r2, e, rows, j, c2, c3, c4, c5, rfl, _, _, _, _, hj, hrows, _⟩ := for_i (g := gN 2) (b := (sSeq (sOwn 3 (mLst mNil))
  (sSeq (sFor (mSeq (mV 1)) (gN 4)
    (sFor (mRng1 (mCons (mV 2) mNil)) (gN 5)
    (sApp 3 (mOp2 addM (mV 4) (mNew (mLst (mCons (mV 5) mNil)))))))
  (sFrz 3 (sSet 1 (mV 3)))))) nD
    (fun xs r => ∃ rows j c2 c3 c4 c5, r = [.pl (nsD ns), .pl (casesD rows), c2, c3, c4, c5] ∧ c2.own = false ∧ c3.own = false ∧ c4.own = false ∧ c5.own = false ∧ xs = ns.drop j ∧ rows = ((ns.map List.range).take j).foldl grow [[]] ∧ ∀ b ∈ rows, b.length = min j ns.length)
    (xs := ns) (r := [.pl (nsD ns), .pl (.list [.list []]), .un, .un, .un, .un]) ⟨[[]], 0, .un, .un, .un, .un, rfl, rfl, rfl, rfl, rfl, rfl, rfl, by simp⟩ (by
      rintro n xs r ⟨rows, j, c2, c3, c4, c5, rfl, h2, h3, h4, h5, hj, hrows, hb⟩
      have lj : j < ns.length := by
        have e := congrArg List.length hj
        rw [List.length_drop, List.length_cons] at e
        omega
      rw [List.drop_eq_getElem_cons lj] at hj
      obtain ⟨rfl, hx⟩ := List.cons.inj hj
      have b6 := hn.2 _ (List.getElem_mem lj)
      have stepacc : grow rows (List.range ns[j]) = ((ns.map List.range).take (j + 1)).foldl grow [[]] := by
        rw [List.take_add_one, List.getElem?_map, List.getElem?_eq_getElem lj, List.foldl_append, ← hrows]
        rfl
      have lacc : (grow rows (List.range ns[j])).length ≤ 100000 := by
        rw [stepacc]
        exact Nat.le_trans (part_le hne _) (by omega)
      have lrows : rows.length ≤ 100000 := by
        rw [hrows]
        exact Nat.le_trans (part_le hne _) (by omega)
      have inner : ∀ (c4 c5 : Cel), c4.own = false → c5.own = false → ∃ r2, forGo (gN 4) (sFor (mRng1 (mCons (mV 2) mNil)) (gN 5) (sApp 3 (mOp2 addM (mV 4) (mNew (mLst (mCons (mV 5) mNil)))))) (rows.map nsD) [.pl (nsD ns), .pl (casesD rows), .pl (nD ns[j]), .ow [], c4, c5] = some (.nx r2) ∧
          ∃ c4 c5, r2 = [.pl (nsD ns), .pl (casesD rows), .pl (nD ns[j]), .ow ((grow rows (List.range ns[j])).map nsD), c4, c5] ∧ c4.own = false ∧ c5.own = false := by
        intro c4 c5 h4 h5
        obtain ⟨r2, e, done, c4, c5, rfl, h4, h5, hd⟩ := for_i (g := gN 4) (b := sFor (mRng1 (mCons (mV 2) mNil)) (gN 5) (sApp 3 (mOp2 addM (mV 4) (mNew (mLst (mCons (mV 5) mNil)))))) nsD
          (fun xs r => ∃ done c4 c5, r = [.pl (nsD ns), .pl (casesD rows), .pl (nD ns[j]), .ow ((grow done (List.range ns[j])).map nsD), c4, c5] ∧ c4.own = false ∧ c5.own = false ∧ rows = done ++ xs)
          (xs := rows) (r := [.pl (nsD ns), .pl (casesD rows), .pl (nD ns[j]), .ow [], c4, c5]) ⟨[], c4, c5, rfl, h4, h5, rfl⟩ (by
            rintro row xs r ⟨done, c4, c5, rfl, h4, h5, hd⟩
            have lrow : row.length ≤ 24 := by
              have := hb row (by rw [hd]; simp)
              omega
            obtain ⟨r3, e3, q, c5', rfl, h5', hq⟩ := for_i (g := gN 5) (b := sApp 3 (mOp2 addM (mV 4) (mNew (mLst (mCons (mV 5) mNil))))) nD
              (fun xs r => ∃ q c5, r = [.pl (nsD ns), .pl (casesD rows), .pl (nD ns[j]), .ow ((grow done (List.range ns[j]) ++ q.map fun v => row ++ [v]).map nsD), .pl (nsD row), c5] ∧ c5.own = false ∧ List.range ns[j] = q ++ xs)
              (xs := List.range ns[j]) (r := [.pl (nsD ns), .pl (casesD rows), .pl (nD ns[j]), .ow ((grow done (List.range ns[j])).map nsD), .pl (nsD row), c5]) ⟨[], c5, by simp, h5, rfl⟩ (by
                rintro v xs r ⟨q, c5, rfl, h5, hq⟩
                have lq : q.length ≤ 6 := by
                  have := congrArg List.length hq
                  simp at this
                  omega
                have ld : (grow done (List.range ns[j])).length ≤ 100000 := by
                  rw [grow_length] at lacc ⊢
                  have : done.length ≤ rows.length := by rw [hd]; simp
                  exact Nat.le_trans (Nat.mul_le_mul_right _ this) lacc
                have ad : addM (.list (row.map nD)) (.list [nD v]) = some (.list (row.map nD ++ [nD v])) := addL_ok (by omega)
                have l2 : (grow done (List.range ns[j])).length + q.length ≤ 1000000 := by omega
                refine ⟨[.pl (nsD ns), .pl (casesD rows), .pl (nD ns[j]), .ow ((grow done (List.range ns[j]) ++ q.map fun v => row ++ [v]).map nsD), .pl (nsD row), .pl (nD v)], [.pl (nsD ns), .pl (casesD rows), .pl (nD ns[j]), .ow ((grow done (List.range ns[j]) ++ (q ++ [v]).map fun v => row ++ [v]).map nsD), .pl (nsD row), .pl (nD v)], by simp [h5], ?_, q ++ [v], .pl (nD v), rfl, rfl, by rw [hq, List.append_assoc]; rfl⟩
                simp [ad, l2])
            rw [List.append_nil] at hq
            subst hq
            have hgrow : grow (done ++ [row]) (List.range ns[j]) = grow done (List.range ns[j]) ++ (List.range ns[j]).map fun v => row ++ [v] := by
              unfold grow
              rw [List.flatMap_append, List.flatMap_cons, List.flatMap_nil, List.append_nil]
            refine ⟨[.pl (nsD ns), .pl (casesD rows), .pl (nD ns[j]), .ow ((grow done (List.range ns[j])).map nsD), .pl (nsD row), c5], _, by simp [h4], ?_, done ++ [row], .pl (nsD row), c5', rfl, rfl, h5', by rw [hd, List.append_assoc]; rfl⟩
            rw [hgrow]
            simp only [s_for, s_bind, e_rng1, e_cons, e_bind, e_V, List.getElem?_cons_zero, List.getElem?_cons_succ, e_nil, e_ret, e_rng_n ns[j] (by omega), e_lift_some]
            exact e3)
        rw [List.append_nil] at hd
        subst hd
        exact ⟨_, e, c4, c5, rfl, h4, h5⟩
      obtain ⟨r3, e3, c4', c5', rfl, h4', h5'⟩ := inner c4 c5 h4 h5
      refine ⟨[.pl (nsD ns), .pl (casesD rows), .pl (nD ns[j]), c3, c4, c5], _, by simp [h2], ?_, grow rows (List.range ns[j]), j + 1, .pl (nD ns[j]), .pl (casesD (grow rows (List.range ns[j]))), c4', c5', rfl, rfl, rfl, h4', h5', hx, stepacc, ?_⟩
      · have q3 : ∀ ds : List PyData, sPutO 3 ds [.pl (nsD ns), .pl (casesD rows), .pl (nD ns[j]), c3, c4, c5] = some (.nx [.pl (nsD ns), .pl (casesD rows), .pl (nD ns[j]), .ow ds, c4, c5]) := by
          intro ds
          cases c3 with
          | io d => cases h3
          | _ => rfl
        simp only [s_seq, s_own, s_bind, e_lst, e_bind, e_nil, e_lst0, e_lift_some, q3, s_for, e_seqI, e_V, List.getElem?_cons_zero, List.getElem?_cons_succ, e_asSeqL, e3]
        simp
      · intro b hb'
        unfold grow at hb'
        obtain ⟨a, ha, hb'⟩ := List.mem_flatMap.mp hb'
        obtain ⟨v, _, rfl⟩ := List.mem_map.mp hb'
        rw [List.length_append, hb a ha]
        simp
        omega)
  have lj : ns.length ≤ j := by
    have e := congrArg List.length hj
    simp at e
    omega
  rw [List.take_of_length_le (by simpa using lj), fold_grow1] at hrows
  subst hrows
  simp [v_law_cases_72b18]
  rw [e]
  simp
  rfl
end DL
namespace DL
open PySem PySem.Spec PyProof.Rows L2 Lk
variable {ns cs : List Nat} {c : Int} {hs : List (Option Nat)} {x : Frm}
theorem half_snoc {n : Nat} {h : Option Nat} {i : Nat} (e : ns[i]? = some n) (hl : hs.length = i) (H : ∀ (j m v : Nat), ns[j]? = some m → hs[j]? = some (some v) → v < m) (hv : ∀ v, h = some v → v < n) :
    ∀ (j m v : Nat), ns[j]? = some m → (hs ++ [h])[j]? = some (some v) → v < m := by
  intro j m v e1 e2
  by_cases q : j < hs.length
  · rw [List.getElem?_append_left q] at e2
    exact H j m v e1 e2
  · have lj : j < (hs ++ [h]).length := (List.getElem?_eq_some_iff.mp e2).1
    simp at lj
    have : j = i := by omega
    subst this
    rw [e] at e1
    cases e1
    rw [← hl] at e2
    simp at e2
    exact hv v e2
theorem g_half_ok (hc : Bits c) (hn : Sz ns) : ∃ hs, g_law_half_77902 [nsD ns, .int c] = some (halfD hs) ∧ Half ns hs := by
  rw [r_law_half_77902]
  have l24 := hn.1
  have d0 : g_law_draw_48e0b [.int c, .int 0, .int 4] = some (nD (drw c 0 4)) := g_draw (k := 0) (l := 4) hc (by decide) (by decide)
  have b0 := drw_lt (k := 0) (l := 4) hc (by decide) (by decide)
  obtain ⟨t, ht⟩ : ∃ t, ixM (.tuple [.int 4, .int 2, .int 1, .int 2]) (nD (drw c 0 4)) = some (nD t) := by
    have e : PyData.tuple [.int 4, .int 2, .int 1, .int 2] = .tuple ([4, 2, 1, 2].map nD) := rfl
    rw [e, e_ix_t]
    have : drw c 0 4 = 0 ∨ drw c 0 4 = 1 ∨ drw c 0 4 = 2 ∨ drw c 0 4 = 3 := by omega
    rcases this with z | z | z | z <;> rw [z]
    · exact ⟨4, rfl⟩
    · exact ⟨2, rfl⟩
    · exact ⟨1, rfl⟩
    · exact ⟨2, rfl⟩
  obtain ⟨r2, e, hs, j, c4, rfl, _, hj, hl, H⟩ := for_i (g := gN 4) (b := (sIf (mOpT ltM (mCall g_law_draw_48e0b (mCons (mV 1) (mCons (mOp2 addM (mOp2 mulM (M.ret (.int 2)) (mV 4)) (M.ret (.int 1))) (mCons (M.ret (.int 4)) mNil)))) (mV 2))
    (sApp 3 (M.ret .none))
    (sApp 3 (mCall g_law_draw_48e0b (mCons (mV 1) (mCons (mOp2 addM (mOp2 mulM (M.ret (.int 2)) (mV 4)) (M.ret (.int 2))) (mCons (mOp2 ixM (mV 0) (mV 4)) mNil))))))) nD
    (fun xs r => ∃ hs j c4, r = [.pl (nsD ns), .pl (.int c), .pl (nD t), .ow (hs.map oD), c4] ∧ c4.own = false ∧ xs = (List.range ns.length).drop j ∧ hs.length = min j ns.length ∧ ∀ (j m v : Nat), ns[j]? = some m → hs[j]? = some (some v) → v < m)
    (xs := List.range ns.length) (r := [.pl (nsD ns), .pl (.int c), .pl (nD t), .ow [], .un]) ⟨[], 0, .un, rfl, rfl, rfl, by simp, by simp⟩ (by
      rintro i xs r ⟨hs, j, c4, rfl, h4, hj, hl, H⟩
      obtain ⟨rfl, lj, hx⟩ := range_drop hj
      have e1 := List.getElem?_eq_getElem lj
      have b6 := hn.2 _ (List.getElem_mem lj)
      have mm : mulM (.int 2) (nD i) = some (nD (2 * i)) := mul_ok (a := 2) (by omega) (by omega)
      have d1 : g_law_draw_48e0b [.int c, nD (2 * i + 1), .int 4] = some (nD (drw c (2 * i + 1) 4)) := g_draw (l := 4) hc (by omega) (by decide)
      have d2 := g_draw (k := 2 * i + 2) (l := ns[i]) hc (by omega) (by omega)
      have b2 := drw_lt (k := 2 * i + 2) (l := ns[i]) hc (by omega) (by omega)
      have lh : hs.length ≤ 1000000 := by omega
      by_cases q : drw c (2 * i + 1) 4 < t
      · refine ⟨[.pl (nsD ns), .pl (.int c), .pl (nD t), .ow (hs.map oD), .pl (nD i)], [.pl (nsD ns), .pl (.int c), .pl (nD t), .ow ((hs ++ [none]).map oD), .pl (nD i)], by simp [h4], by simp [mm, d1, q, lh, oD], hs ++ [none], i + 1, .pl (nD i), rfl, rfl, hx, by simp; omega, half_snoc e1 (by omega) H (by simp)⟩
      · refine ⟨[.pl (nsD ns), .pl (.int c), .pl (nD t), .ow (hs.map oD), .pl (nD i)], [.pl (nsD ns), .pl (.int c), .pl (nD t), .ow ((hs ++ [some (drw c (2 * i + 2) ns[i])]).map oD), .pl (nD i)], by simp [h4], by simp [mm, d1, q, lh, e1, d2, oD], hs ++ [some (drw c (2 * i + 2) ns[i])], i + 1, .pl (nD i), rfl, rfl, hx, by simp; omega, half_snoc e1 (by omega) H (by intro v hv; cases hv; exact b2)⟩)
  refine ⟨hs, ?_, ?_, H⟩
  · have et : tupM [.int 4, .int 2, .int 1, .int 2] = some (.tuple [.int 4, .int 2, .int 1, .int 2]) := rfl
    simp [v_law_half_77902, d0, ht, e_rng ns.length (by omega)]
    rw [e]
    simp
  · have e := congrArg List.length hj
    simp at e
    omega
/-! ## what completes -/
theorem cmp_all : ∀ {hs : List (Option Nat)} {cs : List Nat}, hs.length = cs.length → ((List.range hs.length).all fun i => match hs[i]? with
    | some (some v) => v == cs.getD i 0
    | _ => true) = cmpB hs cs
  | [], [], _ => rfl
  | h :: hs, c :: cs, e => by
    have ih := cmp_all (hs := hs) (cs := cs) (by simpa using e)
    rw [List.length_cons, List.range_succ_eq_map, List.all_cons, List.all_map]
    cases h with
    | none => exact ih
    | some v =>
      show (v == c && _) = (v == c && cmpB hs cs)
      rw [← ih]
      rfl
  | [], _ :: _, e => by simp at e
  | _ :: _, [], e => by simp at e
theorem g_completes_ok (hn : Sz ns) (h : Half ns hs) (hc : Case ns cs) : g_law_completes_14a79 [halfD hs, nsD cs] = some (.bool (cmpB hs cs)) := by
  rw [r_law_completes_14a79]
  have l24 := hn.1
  have lh := h.1
  have lcs := hc.1
  have el : PyData.int (hs.length : Int) = nD hs.length := rfl
  simp [v_law_completes_14a79]
  rw [lcy nD (fun i => .bool (match hs[i]? with
    | some (some v) => v == cs.getD i 0
    | _ => true)) (fun i => [.pl (halfD hs), .pl (nsD cs), .pl (nD i)]) (xs := List.range hs.length) (by simp [el, e_rng_n hs.length (by omega)]) (by simp [freeAt]) (by simp; omega) (by simp) (by simp) (by
    intro i hi
    have li := List.mem_range.mp hi
    have e1 : hs[i]? = some hs[i] := List.getElem?_eq_getElem li
    have lc : i < cs.length := by omega
    have e2 := List.getElem?_eq_getElem lc
    cases e3 : hs[i] with
    | none =>
      rw [e3] at e1
      simp [ix_mapL e1, e1, oD]
    | some v =>
      rw [e3] at e1
      simp [ix_mapL e1, e1, oD, e2])]
  simp only [e_bind, e_ret, e_lift_some, e_allT, cmp_all (show hs.length = cs.length by omega)]
  simp
def opens (hs : List (Option Nat)) : List Nat := (List.range hs.length).filter fun i => (hs[i]?) == some none
theorem g_open_ok (hn : Sz ns) (h : Half ns hs) : g_law_open_deba1 [halfD hs] = some (nsD (opens hs)) := by
  rw [r_law_open_deba1]
  have l24 := hn.1
  have lh := h.1
  have el : PyData.int (hs.length : Int) = nD hs.length := rfl
  simp [v_law_open_deba1]
  rw [lcm nD (fun i => (hs[i]?) == some none) nD (fun i => [.pl (halfD hs), .pl (nD i)]) (xs := List.range hs.length) (by simp [el, e_rng_n hs.length (by omega)]) (by simp [freeAt]) (by simp; omega) (by simp) (by simp) (by
    intro i hi
    have li := List.mem_range.mp hi
    have e1 : hs[i]? = some hs[i] := List.getElem?_eq_getElem li
    simp only [e_opT, e_bind, e_op2, e_V, List.getElem?_cons_zero, List.getElem?_cons_succ, e_lift_some, ix_mapL e1, e_ret, e_isN, isNone_oD, Option.bind, e_asBool, e1]
    cases hs[i] <;> rfl) (by simp)]
  simp [opens]
theorem e_with {i v : Nat} (hi : i < hs.length) (hl : hs.length ≤ 1000) : g_law_with_46d88 [halfD hs, nD i, nD v] = some (halfD (hs.set i (some v))) := by
  rw [r_law_with_46d88]
  have c1 : ∀ {xs : List (Option Nat)} {a : Nat}, cutD (xs.map oD) none (some (a : Int)) = (xs.take a).map oD := by
    intro xs a
    unfold cutD
    rw [HT.sIx_nat, HT.sIx_none, List.drop_zero, List.map_take, Nat.sub_zero, List.length_map]
    by_cases q : a ≤ xs.length
    · rw [Nat.min_eq_left q]
    · rw [Nat.min_eq_right (by omega), List.take_of_length_le (by simp), List.take_of_length_le (by simp; omega)]
  have c2 : ∀ {xs : List (Option Nat)} {a : Nat}, cutD (xs.map oD) (some (a : Int)) none = (xs.drop a).map oD := by
    intro xs a
    unfold cutD
    rw [HT.sIx_nat, HT.sIx_none, List.map_drop, List.length_map]
    by_cases q : a ≤ xs.length
    · rw [Nat.min_eq_left q, List.take_of_length_le (by simp)]
    · rw [Nat.min_eq_right (by omega), List.drop_eq_nil_of_le (by simp), List.drop_eq_nil_of_le (by simp; omega)]
      simp
  have a1 : addM (.list ((hs.take i).map oD)) (.list [nD v]) = some (.list ((hs.take i).map oD ++ [nD v])) := addL_ok (by simp; omega)
  have a2 : addM (.list ((hs.take i).map oD ++ [nD v])) (.list ((hs.drop (i + 1)).map oD)) = some (.list (((hs.take i).map oD ++ [nD v]) ++ (hs.drop (i + 1)).map oD)) := e_addL (by simp; omega)
  have i1 : asInt (nD i) = some (i : Int) := rfl
  have i2 : asInt (nD (i + 1)) = some ((i + 1 : Nat) : Int) := rfl
  have e : hs.set i (some v) = hs.take i ++ [some v] ++ hs.drop (i + 1) := by
    rw [List.set_eq_take_append_cons_drop, if_pos hi, List.append_assoc]
    rfl
  rw [e]
  simp only [v_law_with_46d88, s_ret, s_bind, e_op2, e_bind, e_new, e_slice, e_V, List.getElem?_cons_zero, List.getElem?_cons_succ, e_nopart, e_part, e_lift_some, i1, i2, Option.map, e_asList, c1, e_lst, e_cons, e_nil, e_ret, e_lst1, a1, e_add_l, c2, a2, o_rt]
  simp [oD]
/-! ## the answers of the cases that complete -/
def bD (bs : List Bool) : PyData := .list (bs.map PyData.bool)
theorem ans_filter (h : Half ns hs) : ans ns x hs = ((allc ns).filter (cmpB hs)).map (x.ev ns) := by
  unfold ans
  rw [compl_filter h]
theorem idx_filter {α β : Type} {p : α → Bool} {f : α → β} : ∀ (xs : List α), ((List.range xs.length).filter fun i => (xs[i]?).any p).filterMap (fun i => (xs.map f)[i]?) = (xs.filter p).map f
  | [] => rfl
  | x :: xs => by
    rw [List.length_cons, List.range_succ_eq_map, List.filter_cons, List.filter_map, List.filter_cons]
    have ih := idx_filter (p := p) (f := f) xs
    have e : (List.map Nat.succ (List.filter ((fun i => ((x :: xs)[i]?).any p) ∘ Nat.succ) (List.range xs.length))).filterMap (fun i => ((x :: xs).map f)[i]?) = (xs.filter p).map f := by
      rw [List.filterMap_map, ← ih]
      rfl
    cases hp : p x with
    | true =>
      have : ((x :: xs)[0]?).any p = true := by simp [hp]
      rw [this, if_pos rfl, if_pos rfl, List.filterMap_cons]
      exact congrArg (f x :: ·) e
    | false =>
      have : ((x :: xs)[0]?).any p = false := by simp [hp]
      rw [this, if_neg Bool.false_ne_true, if_neg Bool.false_ne_true, e]
theorem map_of_filterMap {β γ : Type} {F : Nat → γ} {g : β → γ} {u : Nat → Option β} : ∀ {l : List Nat}, (∀ i ∈ l, ∃ b, u i = some b ∧ F i = g b) → l.map F = (l.filterMap u).map g
  | [], _ => rfl
  | i :: l, h => by
    obtain ⟨b, e1, e2⟩ := h i (List.mem_cons_self ..)
    rw [List.map_cons, List.filterMap_cons, e1, map_of_filterMap fun j hj => h j (List.mem_cons_of_mem _ hj), e2]
    rfl
def resD (A : List (List Nat)) (f : List Nat → Bool) (i : Nat) : PyData := match (A.map f)[i]? with
  | some b => .bool b
  | none => .none
theorem found_eq (h : Half ns hs) : ((List.range (allc ns).length).filter fun i => ((allc ns)[i]?).any (cmpB hs)).map (resD (allc ns) (x.ev ns)) = (ans ns x hs).map PyData.bool := by
  rw [ans_filter h, ← idx_filter (p := cmpB hs) (f := x.ev ns) (allc ns)]
  refine map_of_filterMap fun i hi => ?_
  have li := List.mem_range.mp (List.mem_filter.mp hi).1
  have e : ((allc ns).map (x.ev ns))[i]? = some (x.ev ns (allc ns)[i]) := by rw [List.getElem?_map, List.getElem?_eq_getElem li]; rfl
  exact ⟨_, e, by unfold resD; rw [e]⟩
abbrev resL (ns : List Nat) (x : Frm) : PyData := .list (((allc ns).map (x.ev ns)).map PyData.bool)
theorem res_at {i : Nat} (li : i < (allc ns).length) : ixM (resL ns x) (nD i) = some (resD (allc ns) (x.ev ns) i) := by
  have e : ((allc ns).map (x.ev ns))[i]? = some (x.ev ns (allc ns)[i]) := by rw [List.getElem?_map, List.getElem?_eq_getElem li]; rfl
  unfold resD
  rw [ix_mapL e, e]
theorem comp_at (hn : Sz ns) (h : Half ns hs) {i : Nat} (li : i < (allc ns).length) : ∃ a, ixM (casesD (allc ns)) (nD i) = some (nsD a) ∧ g_law_completes_14a79 [halfD hs, nsD a] = some (.bool (((allc ns)[i]?).any (cmpB hs))) := by
  have e := List.getElem?_eq_getElem li
  refine ⟨_, ix_mapL e, ?_⟩
  rw [g_completes_ok hn h (mem_allc.mp (List.getElem_mem li)), e]
  rfl
theorem g_verdict_ok (hn : Sz ns) (hsm : prod ns ≤ 100000) (h : Half ns hs) : g_law_verdict_47192 [casesD (allc ns), resL ns x, halfD hs] = some (obD (comm (ans ns x hs))) := by
  rw [r_law_verdict_47192]
  have la : (allc ns).length ≤ 100000 := by rw [allc_length]; exact hsm
  have el : PyData.int ((allc ns).length : Int) = nD (allc ns).length := rfl
  have hne := ans_ne (x := x) (hs := hs) hn
  have lle : (ans ns x hs).length ≤ 1000000 := by
    unfold ans
    rw [List.length_map]
    have := compl_le hn h
    omega
  simp [-List.map_map, v_law_verdict_47192]
  rw [lcm nD (fun i => ((allc ns)[i]?).any (cmpB hs)) (resD (allc ns) (x.ev ns)) (fun i => [.pl (casesD (allc ns)), .pl (resL ns x), .pl (halfD hs), .un, .pl (nD i), .un]) (xs := List.range (allc ns).length) (by simp [el, e_rng_n (allc ns).length (by omega)]) (by simp [freeAt]) (by simp; omega) (by simp) (by simp) (by
    intro i hi
    obtain ⟨a, e1, e2⟩ := comp_at hn h (List.mem_range.mp hi)
    simp [e1, e2]) (by
    intro i hi _
    have := res_at (x := x) (List.mem_range.mp hi)
    simp [-List.map_map, this]), found_eq h]
  obtain ⟨b, bs', hb⟩ : ∃ b bs', ans ns x hs = b :: bs' := by
    cases q : ans ns x hs with
    | nil => exact absurd q hne
    | cons b bs => exact ⟨b, bs, rfl⟩
  have a0 : atI ((ans ns x hs).map PyData.bool) 0 = some (.bool b) := by rw [hb]; exact e_at0
  have hc : comm (ans ns x hs) = if (ans ns x hs).all (· == b) then some b else none := by rw [hb]; rfl
  simp [-List.map_map]
  rw [lcy PyData.bool (fun v => .bool (v == b)) (fun v => [.pl (casesD (allc ns)), .pl (resL ns x), .pl (halfD hs), .pl (.list ((ans ns x hs).map PyData.bool)), .un, .pl (.bool v)]) (xs := ans ns x hs) (by simp) (by simp [freeAt]) lle (by simp) (by simp) (by intro v _; simp [a0])]
  simp only [e_bind, e_ret, e_lift_some, e_allT]
  rw [hc]
  generalize ((ans ns x hs).all fun v => v == b) = t
  cases t <;> simp [a0, obD]
theorem eqv_o {a b : Option Nat} : PyData.eqv (oD a) (oD b) = (a == b) := by
  cases a with
  | none => cases b <;> simp [oD, nD, PyData.eqv]
  | some a =>
    cases b with
    | none => simp [oD, nD, PyData.eqv]
    | some b =>
      show PyData.eqv (nD a) (nD b) = _
      rw [eqv_n]
      rfl
theorem eqvAll_refl {α : Type} {f : α → PyData} (h : ∀ a, PyData.eqv (f a) (f a) = true) : ∀ {xs : List α}, PyData.eqvAll (xs.map f) (xs.map f) = true
  | [] => by simp [PyData.eqvAll]
  | x :: xs => by rw [List.map_cons, PyData.eqvAll, h, eqvAll_refl h]; rfl
theorem half_same : neM (halfD hs) (halfD hs) = some (.bool false) := by
  rw [e_neD (Sh.list fun _ _ => Sh.o).sh (Sh.list fun _ _ => Sh.o).sh, PyData.eqv, eqvAll_refl fun a => by rw [eqv_o]; simp]
  rfl
theorem g_same_ok {a b : Option Bool} : g_law_same_bef3f [obD a, obD b] = some (.bool (a == b)) := by
  rw [r_law_same_bef3f]
  cases a with
  | none => cases b <;> simp [v_law_same_bef3f, obD]
  | some a => cases b <;> simp [v_law_same_bef3f, obD]
/-! ## a field told -/
theorem Half.set {f n p : Nat} (h : Half ns hs) (e : ns[f]? = some n) (hp : p < n) : Half ns (hs.set f (some p)) := by
  refine ⟨by rw [List.length_set]; exact h.1, fun i m v e1 e2 => ?_⟩
  by_cases q : f = i
  · subst q
    rw [e] at e1
    cases e1
    have lf : f < hs.length := by rw [h.1]; exact (List.getElem?_eq_some_iff.mp e).1
    rw [List.getElem?_set_self lf] at e2
    cases e2
    exact hp
  · rw [List.getElem?_set_ne q] at e2
    exact h.2 i m v e1 e2
theorem cmp_set : ∀ {hs : List (Option Nat)} {cs : List Nat} {f p : Nat}, hs.length = cs.length → hs[f]? = some none → cmpB (hs.set f (some p)) cs = (cmpB hs cs && (p == cs.getD f 0))
  | [], _, _, _, _, e => by simp at e
  | _ :: _, [], _, _, e, _ => by simp at e
  | h :: hs, c :: cs, 0, p, _, e => by
    cases e
    show (p == c && cmpB hs cs) = (cmpB hs cs && (p == c))
    rw [Bool.and_comm]
  | h :: hs, c :: cs, f + 1, p, hl, e => by
    have ih := cmp_set (hs := hs) (cs := cs) (f := f) (p := p) (by simpa using hl) (by simpa using e)
    show cmpB (h :: hs.set f (some p)) (c :: cs) = (cmpB (h :: hs) (c :: cs) && (p == cs.getD f 0))
    cases h with
    | none => exact ih
    | some v =>
      show (v == c && cmpB (hs.set f (some p)) cs) = ((v == c && cmpB hs cs) && (p == cs.getD f 0))
      rw [ih, Bool.and_assoc]
theorem sum_one {n g : Nat} : ((List.range n).map fun p => if p == g then 1 else 0).sum = if g < n then 1 else 0 := by
  induction n with
  | zero => rfl
  | succ n ih =>
    rw [List.range_succ, List.map_append, List.sum_append, ih]
    simp only [List.map_cons, List.map_nil, List.sum_cons, List.sum_nil, beq_iff_eq]
    by_cases h1 : n = g
    · subst h1
      rw [if_pos rfl, if_neg (by omega), if_pos (by omega)]
      rfl
    · rw [if_neg h1]
      by_cases h2 : g < n
      · rw [if_pos h2, if_pos (by omega)]
        rfl
      · rw [if_neg h2, if_neg (by omega)]
        rfl
theorem sum_add {n : Nat} {F G : Nat → Nat} : ((List.range n).map fun p => F p + G p).sum = ((List.range n).map F).sum + ((List.range n).map G).sum := by
  induction n with
  | zero => rfl
  | succ n ih => simp only [List.range_succ, List.map_append, List.sum_append, ih, List.map_cons, List.map_nil, List.sum_cons, List.sum_nil]; omega
theorem sum_zero {n : Nat} : ((List.range n).map fun _ => 0).sum = 0 := by
  induction n with
  | zero => rfl
  | succ n ih => simp only [List.range_succ, List.map_append, List.sum_append, ih, List.map_cons, List.map_nil, List.sum_cons, List.sum_nil]; rfl
theorem split_count {α : Type} {q : α → Bool} {g : α → Nat} {n : Nat} : ∀ {A : List α}, (∀ a ∈ A, g a < n) → ((List.range n).map fun p => A.countP fun a => q a && (p == g a)).sum = A.countP q
  | [], _ => by simp only [List.countP_nil]; exact sum_zero
  | a :: A, h => by
    have ih := split_count (q := q) (A := A) fun b hb => h b (List.mem_cons_of_mem _ hb)
    have e : (fun p => (a :: A).countP fun a => q a && (p == g a)) = fun p => (A.countP fun a => q a && (p == g a)) + (if q a then (if p == g a then 1 else 0) else 0) := by
      funext p
      rw [List.countP_cons]
      cases q a <;> simp
    rw [e, sum_add, ih, List.countP_cons]
    cases q a with
    | true =>
      have := sum_one (n := n) (g := g a)
      rw [if_pos (h a (List.mem_cons_self ..))] at this
      simp only [if_true]
      rw [this]
    | false =>
      have := sum_zero (n := n)
      simp only [if_false, Bool.false_eq_true]
      rw [this]
theorem ans_count (h : Half ns hs) {b : Bool} : (ans ns x hs).count b = (allc ns).countP fun a => cmpB hs a && (x.ev ns a == b) := by
  rw [ans_filter h, List.count, List.countP_map, List.countP_filter]
  refine List.countP_congr fun a _ => ?_
  simp only [Function.comp, Bool.and_eq_true]
  exact And.comm
theorem split_sum (h : Half ns hs) {f n : Nat} (e : ns[f]? = some n) (eh : hs[f]? = some none) {b : Bool} : ((List.range n).map fun p => (ans ns x (hs.set f (some p))).count b).sum = (ans ns x hs).count b := by
  rw [ans_count h]
  have hc : ∀ a ∈ allc ns, a.getD f 0 < n := fun a ha => by
    obtain ⟨v, e1, e2⟩ := (mem_allc.mp ha).at e
    rw [getD_of e1]
    exact e2
  rw [← split_count (q := fun a => cmpB hs a && (x.ev ns a == b)) hc]
  congr 1
  refine List.map_congr_left fun p hp => ?_
  rw [ans_count (h.set e (List.mem_range.mp hp))]
  refine List.countP_congr fun a ha => ?_
  rw [cmp_set (by rw [h.1, (mem_allc.mp ha).1]) eh]
  simp only [Bool.and_eq_true]
  constructor
  · rintro ⟨⟨h1, h2⟩, h3⟩; exact ⟨⟨h1, h3⟩, h2⟩
  · rintro ⟨⟨h1, h3⟩, h2⟩; exact ⟨⟨h1, h2⟩, h3⟩
theorem comm_some {bs : List Bool} {v : Bool} : comm bs = some v ↔ bs ≠ [] ∧ ∀ b ∈ bs, b = v := by
  cases bs with
  | nil => simp [comm]
  | cons a l =>
    show (if (a :: l).all (· == a) then some a else none) = some v ↔ _
    by_cases q : (a :: l).all (· == a) = true
    · rw [if_pos q]
      rw [List.all_eq_true] at q
      constructor
      · intro e
        cases e
        exact ⟨by simp, fun b hb => beq_iff_eq.mp (q b hb)⟩
      · rintro ⟨_, h⟩
        rw [h a (List.mem_cons_self ..)]
    · rw [if_neg q]
      constructor
      · intro e; cases e
      · rintro ⟨_, h⟩
        exact absurd (List.all_eq_true.mpr fun b hb => by rw [h b hb, h a (List.mem_cons_self ..)]; exact beq_iff_eq.mpr rfl) q
theorem comm_set (hn : Sz ns) (h : Half ns hs) {f n p : Nat} (e : ns[f]? = some n) (eh : hs[f]? = some none) (hp : p < n) {v : Bool} (hv : comm (ans ns x hs) = some v) : comm (ans ns x (hs.set f (some p))) = some v := by
  rw [comm_some] at hv ⊢
  refine ⟨ans_ne hn, fun b hb => hv.2 b ?_⟩
  rw [ans_filter (h.set e hp)] at hb
  rw [ans_filter h]
  obtain ⟨a, ha, rfl⟩ := List.mem_map.mp hb
  obtain ⟨h1, h2⟩ := List.mem_filter.mp ha
  rw [cmp_set (by rw [h.1, (mem_allc.mp h1).1]) eh, Bool.and_eq_true] at h2
  exact List.mem_map.mpr ⟨a, List.mem_filter.mpr ⟨h1, h2.1⟩, rfl⟩
theorem g_cell_ok {l : List Int} {k : Nat} : g_law_cell_98eb9 [isD l, nD k] = some (.int (l.getD k 0)) := by
  rw [r_law_cell_98eb9]
  have el : PyData.int (l.length : Int) = nD l.length := rfl
  by_cases q : k < l.length
  · have e : l[k]? = some l[k] := List.getElem?_eq_getElem q
    simp [v_law_cell_98eb9, el, q, e_ix_l]
  · have e : l[k]? = none := List.getElem?_eq_none (by omega)
    simp [v_law_cell_98eb9, el, q, e]
theorem bits_getD {l : List Int} (h : ∀ z ∈ l, Bits z) {k : Nat} : Bits (l.getD k 0) := by
  by_cases q : k < l.length
  · rw [getD_of (List.getElem?_eq_getElem q)]
    exact h _ (List.getElem_mem q)
  · rw [List.getD_eq_getElem?_getD, List.getElem?_eq_none (by omega)]
    exact Bits.zero
theorem list_int {l : List Int} : listM [isD l] = some (l.map PyData.int) := rfl
theorem open_at (h : Half ns hs) {i : Nat} (hi : i < (opens hs).length) : ∃ n, ns[(opens hs)[i]]? = some n ∧ hs[(opens hs)[i]]? = some none := by
  have m : (opens hs)[i] ∈ opens hs := List.getElem_mem hi
  unfold opens at m
  obtain ⟨h1, h2⟩ := List.mem_filter.mp m
  have lt := List.mem_range.mp h1
  rw [beq_iff_eq] at h2
  exact ⟨_, List.getElem?_eq_getElem (by rw [← h.1]; exact lt), h2⟩
def Cel.isIo : Cel → Bool
  | .io _ => true
  | _ => false
theorem s_put2 {i : Nat} {d : PyData} {r : En} : sPut i d r = (match r[i]? with
  | some c => if c.isIo then none else some (.nx (r.set i (.pl d)))
  | none => none) := by
  rw [s_put]
  cases r[i]? with
  | none => rfl
  | some c => cases c <;> rfl
theorem own_io {c : Cel} (h : c.own = false) : c.isIo = false := by cases c <;> first | rfl | cases h
@[simp] theorem io_pl {d : PyData} : (Cel.pl d).isIo = false := rfl
@[simp] theorem io_un : Cel.un.isIo = false := rfl
end DL
namespace DL
open PySem PySem.Spec PyProof.Rows L2 Lk
variable {ns cs : List Nat} {c : Int} {hs : List (Option Nat)} {x y : Frm}
/-! ## numbers of cases -/
theorem plc_add : ∀ {ns cs : List Nat} {a : Nat}, cs.length = ns.length → plc a ns cs = a * prod ns + plc 0 ns cs
  | [], [], a, _ => by show a = a * 1 + 0; omega
  | n :: ns, c :: cs, a, h => by
    have hl : cs.length = ns.length := by simpa using h
    show plc (a * n + c) ns cs = a * (n * prod ns) + plc (0 * n + c) ns cs
    rw [plc_add (a := a * n + c) hl, plc_add (a := 0 * n + c) hl, Nat.add_mul, ← Nat.mul_assoc, Nat.add_assoc, Nat.zero_mul, Nat.zero_add]
  | [], _ :: _, _, h => by simp at h
  | _ :: _, [], _, h => by simp at h
theorem flatMap_at {α : Type} {f : Nat → List α} {L : Nat} : ∀ {n i j : Nat}, (∀ v, v < n → (f v).length = L) → i < n → j < L → ((List.range n).flatMap f)[i * L + j]? = (f i)[j]?
  | 0, _, _, _, hi, _ => by omega
  | n + 1, i, j, h, hi, hj => by
    rw [List.range_succ, List.flatMap_append, List.flatMap_cons, List.flatMap_nil, List.append_nil]
    have len : ((List.range n).flatMap f).length = n * L := by
      have : ∀ m, m ≤ n → ((List.range m).flatMap f).length = m * L := fun m => by
        induction m with
        | zero => intro _; simp
        | succ m ih =>
          intro hm
          rw [List.range_succ, List.flatMap_append, List.length_append, ih (by omega), List.flatMap_cons, List.flatMap_nil, List.append_nil, h m (by omega), Nat.succ_mul]
      exact this n (Nat.le_refl _)
    by_cases q : i < n
    · have : i * L + j < n * L := by
        have : (i + 1) * L ≤ n * L := Nat.mul_le_mul_right _ q
        rw [Nat.succ_mul] at this
        omega
      rw [List.getElem?_append_left (by rw [len]; exact this)]
      exact flatMap_at (fun v hv => h v (by omega)) q hj
    · have e : i = n := by omega
      subst e
      rw [List.getElem?_append_right (by rw [len]; omega), len]
      congr 1
      omega
theorem allc_at : ∀ {ns cs : List Nat}, Case ns cs → (allc ns)[plc 0 ns cs]? = some cs
  | [], [], _ => rfl
  | n :: ns, c :: cs, h => by
    obtain ⟨h1, h2⟩ := Case.cons.mp h
    have ih := allc_at h2
    have lt : plc 0 ns cs < prod ns := by have := plc_lt (a := 0) h2; omega
    show ((List.range n).flatMap fun v => (allc ns).map (v :: ·))[plc (0 * n + c) ns cs]? = _
    rw [Nat.zero_mul, Nat.zero_add, plc_add h2.1, flatMap_at (fun v _ => by rw [List.length_map, allc_length]) h1 lt, List.getElem?_map, ih]
    rfl
  | [], _ :: _, h => by have := h.1; simp at this
  | _ :: _, [], h => by have := h.1; simp at this
theorem plc_inj {as bs : List Nat} (ha : Case ns as) (hb : Case ns bs) (e : plc 0 ns as = plc 0 ns bs) : as = bs := by
  have h1 := allc_at ha
  rw [e, allc_at hb] at h1
  exact (Option.some.inj h1).symm
theorem plc_of : ∀ {ns cs : List Nat} {i : Nat}, (allc ns)[i]? = some cs → plc 0 ns cs = i
  | [], cs, i, h => by
    have h0 : i < 1 := (List.getElem?_eq_some_iff.mp h).1
    have : i = 0 := by omega
    subst this
    cases h
    rfl
  | n :: ns, cs, i, h => by
    have hi : i < n * prod ns := by
      have := (List.getElem?_eq_some_iff.mp h).1
      rw [allc_length] at this
      exact this
    have hL : 0 < prod ns := Nat.pos_of_ne_zero fun z => by rw [z] at hi; omega
    have hq : i / prod ns < n := (Nat.div_lt_iff_lt_mul hL).mpr hi
    have hr : i % prod ns < prod ns := Nat.mod_lt _ hL
    have hd : i / prod ns * prod ns + i % prod ns = i := by rw [Nat.mul_comm]; exact Nat.div_add_mod i (prod ns)
    have h' : ((List.range n).flatMap fun v => (allc ns).map (v :: ·))[i / prod ns * prod ns + i % prod ns]? = some cs := by rw [hd]; exact h
    rw [flatMap_at (fun v _ => by rw [List.length_map, allc_length]) hq hr, List.getElem?_map] at h'
    obtain ⟨cs', h1, rfl⟩ := Option.map_eq_some_iff.mp h'
    have ih := plc_of h1
    have hc : Case ns cs' := mem_allc.mp (List.mem_of_getElem? h1)
    show plc (0 * n + i / prod ns) ns cs' = i
    rw [Nat.zero_mul, Nat.zero_add, plc_add hc.1, ih, hd]
/-! ## all answers -/
def anss (ns : List Nat) (x : Frm) : List Bool := (allc ns).map (x.ev ns)
theorem anss_len : (anss ns x).length = prod ns := by rw [anss, List.length_map, allc_length]
theorem half_none : Half ns (List.replicate ns.length none) := ⟨by simp, fun i n v _ e => by
  rw [List.getElem?_replicate] at e
  split at e <;> cases e⟩
theorem cmp_none : ∀ {k : Nat} {cs : List Nat}, cmpB (List.replicate k none) cs = true
  | 0, _ => rfl
  | k + 1, [] => rfl
  | k + 1, c :: cs => by
    show cmpB (List.replicate k none) cs = true
    exact cmp_none
theorem ans_none : ans ns x (List.replicate ns.length none) = anss ns x := by
  rw [ans_filter half_none, anss]
  congr 1
  exact List.filter_eq_self.mpr fun a _ => cmp_none
theorem e_rep_none (n : Nat) (h : n ≤ 1000000) : repM [.none] (nD n) = some ((List.replicate n none).map oD) := by
  show (if _ then _ else _) = _
  have e : (n : Int).natAbs = n := by omega
  have e2 : (n : Int).toNat = n := by omega
  rw [if_pos (by rw [e, e2]; exact ⟨h, by simpa using h⟩)]
  rw [e2, List.map_replicate]
  congr 1
  induction n with
  | zero => rfl
  | succ n ih => rw [List.replicate_succ, List.flatten_cons, ih (by omega) (by omega) (by omega), List.replicate_succ]; rfl
theorem g_all_answers_ok (A : Ask ns x) : g_all_answers [nsD ns, x.D] = some (.list ((anss ns x).map PyData.bool)) := by
  rw [r_all_answers]
  have l24 := A.sz.1
  have el : PyData.int (ns.length : Int) = nD ns.length := rfl
  have ga := g_answers_ok A (half_none (ns := ns))
  rw [ans_none] at ga
  have er := e_rep_none ns.length (by omega)
  simp only [v_all_answers, s_ret, s_bind, e_call, e_bind, e_cons, e_V, List.getElem?_cons_zero, List.getElem?_cons_succ, e_nil, e_ret, e_lift_some, e_new, e_rep, e_lst, e_lst1, e_lenL, List.length_map, el, er, ga, o_rt]
theorem g_check_small_form_ok (A : Ask ns x) : g_check_small_form [nsD ns, x.D] = some .none := by
  rw [r_check_small_form]
  simp [v_check_small_form, g_check_sizes_ok A.sz, g_check_form_ok A.sz A.ok A.s, g_check_small_ok A.sz A.sm]
/-! ## the case with a number -/
theorem g_case_of_place_ok (hn : Sz ns) (hc : Case ns cs) : g_case_of_place [nsD ns, nD (plc 0 ns cs)] = some (nsD cs) := by
  rw [r_case_of_place]
  have l24 := hn.1
  have lc := hc.1
  have el : PyData.int (ns.length : Int) = nD ns.length := rfl
  obtain ⟨r2, e, i, c4, rfl, _, hx, hi⟩ := for_i (g := gN 4) (b := sSeq (sPutIx 2 (mV 4) (mOp2 modM (mV 3) (mOp2 ixM (mV 0) (mV 4)))) (sSet 3 (mOp2 divM (mV 3) (mOp2 ixM (mV 0) (mV 4))))) nD
    (fun xs r => ∃ i c4, r = [.pl (nsD ns), .pl (nD (plc 0 ns cs)), .ow ((List.replicate i 0 ++ cs.drop i).map nD), .pl (nD (plc 0 (ns.take i) (cs.take i))), c4] ∧ c4.own = false ∧ xs = (List.range i).reverse ∧ i ≤ ns.length)
    (xs := (List.range ns.length).reverse) (r := [.pl (nsD ns), .pl (nD (plc 0 ns cs)), .ow ((List.replicate ns.length 0).map nD), .pl (nD (plc 0 ns cs)), .un])
    ⟨ns.length, .un, by rw [List.take_of_length_le (Nat.le_refl _), List.take_of_length_le (by omega), List.drop_eq_nil_of_le (by omega), List.append_nil], rfl, rfl, Nat.le_refl _⟩ (by
      rintro p xs r ⟨i, c4, rfl, h4, hx, hi⟩
      cases i with
      | zero => simp at hx
      | succ i =>
        rw [List.range_succ, List.reverse_append] at hx
        obtain ⟨rfl, hx⟩ := List.cons.inj hx
        have lp : p < ns.length := hi
        have e1 := List.getElem?_eq_getElem lp
        obtain ⟨d, e2, hd⟩ := hc.at e1
        have b6 := hn.2 _ (List.getElem_mem lp)
        have sn : plc 0 (ns.take (p + 1)) (cs.take (p + 1)) = plc 0 (ns.take p) (cs.take p) * ns[p] + d := by
          rw [List.take_add_one, List.take_add_one, e1, e2]
          exact plc_snoc (by simp [lc])
        have hmod : (plc 0 (ns.take p) (cs.take p) * ns[p] + d) % ns[p] = d := by
          rw [Nat.mul_comm, Nat.mul_add_mod, Nat.mod_eq_of_lt hd]
        have hdiv : (plc 0 (ns.take p) (cs.take p) * ns[p] + d) / ns[p] = plc 0 (ns.take p) (cs.take p) := by
          rw [Nat.mul_comm, Nat.mul_add_div (by omega), Nat.div_eq_of_lt hd, Nat.add_zero]
        have m1 : modM (nD (plc 0 (ns.take (p + 1)) (cs.take (p + 1)))) (nD ns[p]) = some (nD d) := by rw [e_mod_n (by omega), sn, hmod]
        have m2 : divM (nD (plc 0 (ns.take (p + 1)) (cs.take (p + 1)))) (nD ns[p]) = some (nD (plc 0 (ns.take p) (cs.take p))) := by
          have := e_divI (a := (plc 0 (ns.take (p + 1)) (cs.take (p + 1)) : Nat)) (b := (ns[p] : Nat)) (by omega) (by omega)
          unfold nD
          rw [this, ← Int.natCast_ediv, sn, hdiv]
        have len : (List.replicate (p + 1) 0 ++ cs.drop (p + 1)).length = ns.length := by simp; omega
        have ixn : ixN (List.replicate (p + 1) 0 ++ cs.drop (p + 1)).length (p : Int) = some p := by
          unfold ixN
          rw [if_pos (by omega), if_pos (by rw [len]; omega)]
          simp
        have ai : asInt (nD p) = some (p : Int) := rfl
        have st : ((List.replicate (p + 1) 0 ++ cs.drop (p + 1)).map nD).set p (nD d) = (List.replicate p 0 ++ cs.drop p).map nD := by
          rw [← List.map_set]
          congr 1
          refine List.ext_getElem? fun j => ?_
          have hp2 : p < cs.length := by omega
          have cd : cs.drop p = d :: cs.drop (p + 1) := by
            rw [List.drop_eq_getElem_cons hp2]
            congr 1
            exact Option.some.inj ((List.getElem?_eq_getElem hp2).symm.trans e2)
          rw [cd, List.replicate_succ', List.append_assoc]
          rw [List.set_append_right _ _ (by simp)]
          simp
        refine ⟨[.pl (nsD ns), .pl (nD (plc 0 ns cs)), .ow ((List.replicate (p + 1) 0 ++ cs.drop (p + 1)).map nD), .pl (nD (plc 0 (ns.take (p + 1)) (cs.take (p + 1)))), .pl (nD p)], [.pl (nsD ns), .pl (nD (plc 0 ns cs)), .ow ((List.replicate p 0 ++ cs.drop p).map nD), .pl (nD (plc 0 (ns.take p) (cs.take p))), .pl (nD p)], by simp [h4], ?_, p, .pl (nD p), rfl, rfl, hx, by omega⟩
        simp only [s_seq, s_putIx, s_bind, e_op2, e_bind, e_V, List.getElem?_cons_zero, List.getElem?_cons_succ, e_lift_some, ix_mapL e1, m1, e_own_ow, Option.isSome, if_true, ai, List.length_map, ixn, Option.map, s_upO, s_re_ow, st, List.set_cons_succ, List.set_cons_zero, s_set, m2, s_put])
  have h0 : i = 0 := by
    have := congrArg List.length hx
    simp at this
    omega
  subst h0
  have er : repM [.int 0] (nD ns.length) = some ((List.replicate ns.length 0).map nD) := by
    show (if _ then _ else _) = _
    have e1 : ((ns.length : Nat) : Int).natAbs = ns.length := by omega
    have e2 : ((ns.length : Nat) : Int).toNat = ns.length := by omega
    rw [if_pos (by rw [e1, e2]; exact ⟨by omega, by simp; omega⟩), e2, List.map_replicate]
    congr 1
    generalize ns.length = n
    induction n with
    | zero => rfl
    | succ n ih => rw [List.replicate_succ, List.flatten_cons, ih, List.replicate_succ]; rfl
  have rv : mRevR (mCall lenM (mCons (mV 0) mNil)) [.pl (nsD ns), .pl (nD (plc 0 ns cs)), .ow ((List.replicate ns.length 0).map nD), .pl (nD (plc 0 ns cs)), .un] = some (.ok (((List.range ns.length).reverse).map nD) [.pl (nsD ns), .pl (nD (plc 0 ns cs)), .ow ((List.replicate ns.length 0).map nD), .pl (nD (plc 0 ns cs)), .un]) := by
    have q : ns.length ≤ 1000000 := by omega
    have ai : asInt (nD ns.length) = some (ns.length : Int) := rfl
    simp [mRevR, el, ai, q, rng_nat]
  simp only [v_case_of_place, s_seq, s_own, s_bind, e_rep, e_bind, e_lst, e_cons, e_ret, e_nil, e_lst1, e_lift_some, e_call, e_V, List.getElem?_cons_zero, List.getElem?_cons_succ, e_lenL, List.length_map, el, er, s_putO, List.set_cons_succ, List.set_cons_zero, s_set, s_put, s_for, rv, e]
  simp
end DL
namespace DL
open PySem PySem.Spec PyProof.Rows L2 Lk
variable {ns cs : List Nat} {c : Int} {hs : List (Option Nat)} {x y : Frm}
/-- the places of those of which p holds -/
def idxs {α : Type} (A : List α) (p : α → Bool) : List Nat := (List.range A.length).filter fun i => (A[i]?).any p
theorem idx_map {A : List (List Nat)} {p f : List Nat → Bool} : (idxs A p).map (resD A f) = ((A.filter p).map f).map PyData.bool := by
  rw [← idx_filter (p := p) (f := f) A]
  refine map_of_filterMap fun i hi => ?_
  have li := List.mem_range.mp (List.mem_filter.mp hi).1
  have e : (A.map f)[i]? = some (f A[i]) := by rw [List.getElem?_map, List.getElem?_eq_getElem li]; rfl
  exact ⟨_, e, by unfold resD; rw [e]⟩
theorem idx_len {α : Type} {A : List α} {p : α → Bool} : (idxs A p).length = A.countP p := by
  have h1 := idx_filter (p := p) (f := fun _ => ()) A
  have h2 : (idxs A p).map (fun _ => ()) = ((idxs A p).filterMap fun i => (A.map fun _ => ())[i]?).map id := map_of_filterMap fun i hi => by
    have li := List.mem_range.mp (List.mem_filter.mp hi).1
    exact ⟨(), by rw [List.getElem?_map, List.getElem?_eq_getElem li]; rfl, rfl⟩
  have h3 := congrArg List.length h2
  unfold idxs at h3
  rw [h1] at h3
  simp only [List.length_map] at h3
  rw [List.countP_eq_length_filter]
  exact h3
theorem idx_asc {α : Type} {A : List α} {p : α → Bool} : (idxs A p).Pairwise (· < ·) := List.Pairwise.filter _ List.pairwise_lt_range
theorem idx_at {α : Type} {A : List α} {p : α → Bool} {i : Nat} (h : i ∈ idxs A p) : ∃ a, A[i]? = some a ∧ p a = true := by
  obtain ⟨h1, h2⟩ := List.mem_filter.mp h
  have li := List.mem_range.mp h1
  rw [List.getElem?_eq_getElem li] at h2
  exact ⟨_, List.getElem?_eq_getElem li, h2⟩
abbrev bsD (bs : List Bool) : PyData := .list (bs.map PyData.bool)
theorem anss_at {i : Nat} (hi : i < prod ns) : ∃ a, (allc ns)[i]? = some a ∧ (anss ns x)[i]? = some (x.ev ns a) ∧ ixM (bsD (anss ns x)) (nD i) = some (.bool (x.ev ns a)) := by
  have li : i < (allc ns).length := by rw [allc_length]; exact hi
  have e : (anss ns x)[i]? = some (x.ev ns (allc ns)[i]) := by rw [anss, List.getElem?_map, List.getElem?_eq_getElem li]; rfl
  exact ⟨_, List.getElem?_eq_getElem li, e, ix_mapL e⟩
theorem g_yes_places_ok (A : Ask ns x) : g_yes_places [nsD ns, x.D] = some (nsD (idxs (allc ns) (x.ev ns))) := by
  rw [r_yes_places]
  have sm := A.sm
  have ga := g_all_answers_ok A
  have lr : (anss ns x).length = prod ns := anss_len
  have el : PyData.int (prod ns : Int) = nD (prod ns) := rfl
  simp [v_yes_places, ga]
  rw [lcm nD (fun i => ((allc ns)[i]?).any (x.ev ns)) nD (fun i => [.pl (nsD ns), .pl x.D, .pl (bsD (anss ns x)), .pl (nD i)]) (xs := List.range (prod ns)) (by simp [lr, el, e_rng_n (prod ns) (by omega)]) (by simp [freeAt]) (by simp; omega) (by simp) (by simp) (by
    intro i hi
    obtain ⟨a, h1, _, h3⟩ := anss_at (x := x) (List.mem_range.mp hi)
    simp [h1, h3]) (by simp)]
  unfold idxs
  rw [allc_length]
  simp
theorem g_count_yes_ok (A : Ask ns x) : g_count_yes [nsD ns, x.D] = some (nD ((allc ns).countP (x.ev ns))) := by
  rw [r_count_yes]
  simp [v_count_yes, g_check_small_form_ok A, g_yes_places_ok A, idx_len]
  rfl
theorem g_nth_yes_ok (A : Ask ns x) {i : Nat} (hi : i < (allc ns).countP (x.ev ns)) : ∃ cs, g_nth_yes [nsD ns, x.D, nD i] = some (nsD cs) ∧ Case ns cs ∧ x.ev ns cs = true ∧ (idxs (allc ns) (x.ev ns))[i]? = some (plc 0 ns cs) := by
  rw [← idx_len] at hi
  have e := List.getElem?_eq_getElem hi
  obtain ⟨cs, h1, h2⟩ := idx_at (List.getElem_mem hi)
  have hc : Case ns cs := mem_allc.mp (List.mem_of_getElem? h1)
  have hp := plc_of h1
  refine ⟨cs, ?_, hc, h2, by rw [hp]; exact e⟩
  rw [r_nth_yes]
  have el : PyData.int ((idxs (allc ns) (x.ev ns)).length : Int) = nD (idxs (allc ns) (x.ev ns)).length := rfl
  have ck : g_check_index [nD i, nD (idxs (allc ns) (x.ev ns)).length] = some .none := by
    rw [r_check_index]
    simp [v_check_index, g_below_n, hi]
  have ix : ixM (nsD (idxs (allc ns) (x.ev ns))) (nD i) = some (nD (idxs (allc ns) (x.ev ns))[i]) := ix_mapL e
  have gc := g_case_of_place_ok A.sz hc
  rw [hp] at gc
  simp [-e_ix_n, v_nth_yes, g_check_small_form_ok A, g_yes_places_ok A, el, ck, ix, gc]
theorem g_is_case_ok (hn : Sz ns) (hc : Case ns cs) : g_is_case [nsD ns, nsD cs] = some (.bool true) := by
  rw [r_is_case]
  have hh : Half ns (cs.map some) := ⟨by simpa using hc.1, fun i n v e1 e2 => by
    rw [List.getElem?_map] at e2
    obtain ⟨w, h1, h2⟩ := Option.map_eq_some_iff.mp e2
    cases h2
    exact hc.2 i n _ e1 h1⟩
  have e : halfD (cs.map some) = nsD cs := by
    show PyData.list _ = PyData.list _
    rw [List.map_map]
    rfl
  have h := g_is_half_ok hn hh
  rw [e] at h
  have ni : notInM .none (nsD cs) = some (.bool true) := by
    show (if SeqAt.shaped .none && SeqAt.shaped (nsD cs) then _ else _) = _
    rw [(Sh.none).sh, (Sh.list fun _ _ => Sh.n).sh]
    show some (PyData.bool (!memD _ _)) = _
    rw [memD_map (p := fun _ => false) fun v _ => by unfold nD; rw [PyData.eqv]]
    simp
  simp [v_is_case, h, ni]
theorem g_check_case_ok (hn : Sz ns) (hc : Case ns cs) : g_check_case [nsD ns, nsD cs] = some .none := by
  rw [r_check_case]
  simp [v_check_case, g_is_case_ok hn hc]
theorem e_index {L : List Nat} {i v : Nat} (hp : L.Pairwise (· < ·)) (h : L[i]? = some v) : indexM (nsD L) [nD v] = some (nD i) := by
  show (if SeqAt.shaped (nD v) && SeqAt.shaped (nsD L) then _ else _) = _
  rw [(Sh.n).sh, (Sh.list fun _ _ => Sh.n).sh]
  show ((L.map nD).findIdx? fun z => PyData.eqv z (nD v)).map _ = _
  obtain ⟨hi, rfl⟩ := List.getElem?_eq_some_iff.mp h
  have : (L.map nD).findIdx? (fun z => PyData.eqv z (nD L[i])) = some i := by
    rw [List.findIdx?_eq_some_iff_getElem]
    refine ⟨by simpa using hi, by rw [List.getElem_map, eqv_n]; simp, fun j hj => ?_⟩
    have hlt := List.pairwise_iff_getElem.mp hp j i (by omega) hi hj
    rw [List.getElem_map, eqv_n]
    simp
    omega
  rw [this]
  rfl
theorem g_yes_index_ok (A : Ask ns x) (hc : Case ns cs) (hx : x.ev ns cs = true) {i : Nat} (hi : (idxs (allc ns) (x.ev ns))[i]? = some (plc 0 ns cs)) : g_yes_index [nsD ns, x.D, nsD cs] = some (nD i) := by
  rw [r_yes_index]
  have sy := g_says_ok A.sz hc x FU A.ok A.dp
  rw [hx] at sy
  have ix := e_index idx_asc hi
  simp [v_yes_index, g_check_sizes_ok A.sz, g_check_form_ok A.sz A.ok A.s, g_check_case_ok A.sz hc, g_check_small_ok A.sz A.sm, sy, g_yes_places_ok A, g_place_ok A.sz hc, ix]
theorem g_check_both_ok (A : Ask ns x) (B : Ask ns y) : g_p_check_both [nsD ns, x.D, y.D] = some .none := by
  rw [r_p_check_both]
  simp [v_p_check_both, g_check_sizes_ok A.sz, g_check_form_ok A.sz A.ok A.s, g_check_form_ok A.sz B.ok B.s, g_check_small_ok A.sz A.sm]
theorem g_count_parted_ok (A : Ask ns x) (B : Ask ns y) : g_count_parted [nsD ns, x.D, y.D] = some (nD ((allc ns).countP fun a => x.ev ns a != y.ev ns a)) := by
  have sm := A.sm
  have lr : (anss ns x).length = prod ns := anss_len
  have el : PyData.int (prod ns : Int) = nD (prod ns) := rfl
  have pp : g_p_parted_places [nsD ns, x.D, y.D] = some (nsD (idxs (allc ns) fun a => x.ev ns a != y.ev ns a)) := by
    rw [r_p_parted_places]
    simp [v_p_parted_places, g_all_answers_ok A, g_all_answers_ok B]
    rw [lcm nD (fun i => ((allc ns)[i]?).any fun a => x.ev ns a != y.ev ns a) nD (fun i => [.pl (nsD ns), .pl x.D, .pl y.D, .pl (bsD (anss ns x)), .pl (bsD (anss ns y)), .pl (nD i)]) (xs := List.range (prod ns)) (by simp [lr, el, e_rng_n (prod ns) (by omega)]) (by simp [freeAt]) (by simp; omega) (by simp) (by simp) (by
      intro i hi
      obtain ⟨a, h1, _, h3⟩ := anss_at (x := x) (List.mem_range.mp hi)
      obtain ⟨b, h4, _, h6⟩ := anss_at (x := y) (List.mem_range.mp hi)
      rw [h1] at h4
      cases h4
      have nb : neM (.bool (x.ev ns a)) (.bool (y.ev ns a)) = some (.bool (x.ev ns a != y.ev ns a)) := by
        rw [e_neD (Sh.bool).sh (Sh.bool).sh, PyData.eqv]
        rfl
      simp [h1, h3, h6, nb]) (by simp)]
    unfold idxs
    rw [allc_length]
    simp
  rw [r_count_parted]
  simp [v_count_parted, g_check_both_ok A B, pp, idx_len]
  rfl
theorem g_within_ok (A : Ask ns x) (B : Ask ns y) : g_within [nsD ns, x.D, y.D] = some (.bool ((allc ns).all fun a => !x.ev ns a || y.ev ns a)) := by
  have sm := A.sm
  have lr : (anss ns x).length = prod ns := anss_len
  have el : PyData.int (prod ns : Int) = nD (prod ns) := rfl
  have pp : g_is_within [nsD ns, x.D, y.D] = some (.bool ((allc ns).all fun a => !x.ev ns a || y.ev ns a)) := by
    rw [r_is_within]
    simp [v_is_within, g_all_answers_ok A, g_all_answers_ok B]
    rw [lcm nD (fun i => ((allc ns)[i]?).any (x.ev ns)) (resD (allc ns) (y.ev ns)) (fun i => [.pl (nsD ns), .pl x.D, .pl y.D, .pl (bsD (anss ns x)), .pl (bsD (anss ns y)), .pl (nD i)]) (xs := List.range (prod ns)) (by simp [lr, el, e_rng_n (prod ns) (by omega)]) (by simp [freeAt]) (by simp; omega) (by simp) (by simp) (by
      intro i hi
      obtain ⟨a, h1, _, h3⟩ := anss_at (x := x) (List.mem_range.mp hi)
      simp [h1, h3]) (by
      intro i hi _
      have li : i < (allc ns).length := by rw [allc_length]; exact List.mem_range.mp hi
      have := res_at (x := y) li
      rw [show resL ns y = bsD (anss ns y) from rfl] at this
      simp [-List.map_map, this])]
    have im := idx_map (A := allc ns) (p := x.ev ns) (f := y.ev ns)
    unfold idxs at im
    rw [allc_length] at im
    rw [im]
    have ea := e_all (bs := ((allc ns).filter (x.ev ns)).map (y.ev ns))
    simp only [e_bind, e_ret, e_lift_some, ea, s_ret, s_bind, o_rt]
    rw [List.all_map, List.all_filter]
    rfl
  rw [r_within]
  simp [v_within, g_check_both_ok A B, pp]
theorem eqvAll_bools : ∀ {as bs : List Bool}, PyData.eqvAll (as.map PyData.bool) (bs.map PyData.bool) = (as == bs)
  | [], [] => by simp [PyData.eqvAll]
  | [], _ :: _ => by simp [PyData.eqvAll]
  | _ :: _, [] => by simp [PyData.eqvAll]
  | a :: as, b :: bs => by
    rw [List.map_cons, List.map_cons, PyData.eqvAll, eqvAll_bools, PyData.eqv]
    rfl
theorem g_alike_ok (A : Ask ns x) (B : Ask ns y) : g_alike [nsD ns, x.D, y.D] = some (.bool (anss ns x == anss ns y)) := by
  have ee : eqM (bsD (anss ns x)) (bsD (anss ns y)) = some (.bool (anss ns x == anss ns y)) := by
    rw [e_eqD sh_bools sh_bools, PyData.eqv, eqvAll_bools]
  have aa : g_are_alike [nsD ns, x.D, y.D] = some (.bool (anss ns x == anss ns y)) := by
    rw [r_are_alike]
    simp only [v_are_alike, s_ret, s_bind, e_op2, e_bind, e_call, e_cons, e_V, List.getElem?_cons_zero, List.getElem?_cons_succ, e_nil, e_lift_some, g_all_answers_ok A, g_all_answers_ok B, ee, e_ret, o_rt]
  rw [r_alike]
  simp [v_alike, g_check_both_ok A B, aa]
end DL
namespace DL
open PySem PySem.Spec PyProof.Rows L2 Lk
theorem e_cut0 {α : Type} {f : α → PyData} {xs : List α} {hi : Nat} : cutD (xs.map f) none (some (hi : Int)) = (xs.take hi).map f := by
  unfold cutD
  rw [HT.sIx_nat, HT.sIx_none, List.drop_zero, List.map_take, Nat.sub_zero, List.length_map]
  by_cases q : hi ≤ xs.length
  · rw [Nat.min_eq_left q]
  · rw [Nat.min_eq_right (by omega), List.take_of_length_le (by simp), List.take_of_length_le (by simp; omega)]
end DL
namespace DL
open PySem PySem.Spec PyProof.Rows L2 Lk
section
variable {r : En} {m : M (List PyData)} {mq : M PQ} {md : M PyData} {i : Nat} {z : PyData} {ds bs : List PyData}
@[simp] theorem e_callQ {g : List PyData → Option PQ} : mCallQ g m r = M.bind m (fun ds => M.lift (g ds)) r := rfl
@[simp] theorem s_setQ : sSetQ i mq r = sBind mq (fun z => match z with
  | .inl d => sPut i d
  | .inr ds => sPutO i ds) r := rfl
@[simp] theorem s_retF : sRetF m r = sBind m (fun ds r => some (.rf ds r)) r := rfl
@[simp] theorem s_retQ : sRetQ mq r = sBind mq (fun z r => match z with
  | .inl d => some (.rt d r)
  | .inr ds => some (.rf ds r)) r := rfl
@[simp] theorem s_retO : sRetO i r = (match r[i]? with
  | some (.ow ds) => some (.rf ds r)
  | _ => none) := rfl
@[simp] theorem q_rt : outQ (some (.rt z r)) = some (.inl z) := rfl
@[simp] theorem q_nx : outQ (some (.nx r)) = some (.inl .none) := rfl
@[simp] theorem q_rf : outQ (some (.rf ds r)) = some (.inr ds) := rfl
@[simp] theorem m_rt : outM (some (.rt z r)) = (ioAt r).map fun bs => (z, bs) := rfl
@[simp] theorem m_nx : outM (some (.nx r)) = (ioAt r).map fun bs => (.none, bs) := rfl
@[simp] theorem m_io : ioAt (.io bs :: r) = some bs := rfl
@[simp] theorem e_bits : mBits md r = M.bind md (fun d => M.lift ((asInt d).map fun i => .int (Builtin.Int.intBits i : Nat))) r := rfl
@[simp] theorem e_callM {g : List PyData → List PyData → Option (PyData × List PyData)} : mCallM i m g r = if (ownOf r[i]?).isSome then (m.bind fun ds r => match ownOf r[i]? with
  | some bs => (g bs ds).map fun z => .ok z.1 (upO i z.2 r)
  | none => none) r else none := rfl
@[simp] theorem e_peek {mt : M Bool} : mPeek mt r = if r.all noIo then (match mt (fz r) with
  | some (.ok b _) => some (.ok b r)
  | some (.ex c p) => some (.ex c p)
  | none => none) else none := rfl
@[simp] theorem e_peekV {md : M PyData} : mPeekV md r = if r.all noIo then (match md (fz r) with
  | some (.ok d _) => if atomD d then some (.ok d r) else none
  | some (.ex c p) => some (.ex c p)
  | none => none) else none := rfl
@[simp] theorem e_peekF {m : M (List PyData)} : mPeekF m r = if r.all noIo then (match m (fz r) with
  | some (.ok ds _) => if ds.all atomD then some (.ok ds r) else none
  | some (.ex c p) => some (.ex c p)
  | none => none) else none := rfl
@[simp] theorem e_callX {g : List PyData → Option PX} : mCallX g m r = M.bind m (fun ds r => match g ds with
  | some (.inl z) => some (.ok z r)
  | some (.inr c) => some (.ex c [])
  | none => none) r := rfl
@[simp] theorem s_raise {c : Str} : sRaise c r = some (.ex c []) := rfl
@[simp] theorem x_rt : outX (some (.rt z r)) = some (.inl z) := rfl
@[simp] theorem x_nx : outX (some (.nx r)) = some (.inl .none) := rfl
@[simp] theorem x_ex {c : Str} : outX (some (.ex c [])) = some (.inr c) := rfl
@[simp] theorem s_okNx {d : PyData} : okNx d r = some (.nx r) := rfl
@[simp] theorem s_try {L : List Str} {g : List PyData → Option PX} {hs : List (Str × SM)} {ok : PyData → SM} : sTry L g m hs ok r = (match m r with
  | some (.ok ds r') => match g ds with
    | some (.inl z) => ok z r'
    | some (.inr c) => if L.contains c then (match pick c hs with
      | some sv => sv r'
      | none => none) else none
    | none => none
  | _ => none) := rfl
end
/-! ## own lists seen as data -/
def fzC : Cel → Cel
  | .ow ds => .pl (.list ds)
  | c => c
theorem fzTo_at {r : En} : ∀ {n j : Nat}, (fzTo n r)[j]? = if j < n then r[j]?.map fzC else r[j]?
  | 0, j => by simp [fzTo]
  | n + 1, j => by
    have ih := @fzTo_at r n
    have hn := ih (j := n)
    rw [if_neg (by omega)] at hn
    have len : ∀ m, (fzTo m r).length = r.length := fun m => by
      induction m with
      | zero => rfl
      | succ m im =>
        rw [fzTo]
        split
        · rw [List.length_set]; exact im
        · exact im
    rw [fzTo]
    by_cases hj : j = n
    · subst hj
      rw [if_pos (by omega)]
      split
      · rename_i ds e
        rw [hn] at e
        rw [List.getElem?_set_self (by rw [len]; exact (List.getElem?_eq_some_iff.mp e).1), e]
        rfl
      · rename_i e
        rw [hn]
        cases h : r[j]? with
        | none => rfl
        | some c =>
          cases c with
          | ow ds => exact (e ds (hn.trans h)).elim
          | _ => rfl
    · have q : (fzTo n r)[j]? = if j < n + 1 then r[j]?.map fzC else r[j]? := by
        rw [ih]
        by_cases h : j < n
        · rw [if_pos h, if_pos (by omega)]
        · rw [if_neg h, if_neg (by omega)]
      split
      · rw [List.getElem?_set_ne (Ne.symm hj)]
        exact q
      · exact q
theorem fz_map {r : En} : fz r = r.map fzC := List.ext_getElem? fun j => by
  unfold fz
  rw [fzTo_at, List.getElem?_map]
  split
  · rfl
  · rename_i h
    rw [List.getElem?_eq_none (by omega)]
    rfl
@[simp] theorem fz_nil : fz [] = [] := rfl
@[simp] theorem fz_cons {c : Cel} {r : En} : fz (c :: r) = fzC c :: fz r := by rw [fz_map, fz_map]; rfl
@[simp] theorem fzC_ow {ds : List PyData} : fzC (.ow ds) = .pl (.list ds) := rfl
@[simp] theorem fzC_pl {d : PyData} : fzC (.pl d) = .pl d := rfl
@[simp] theorem fzC_un : fzC .un = .un := rfl
@[simp] theorem noIo_ow {ds : List PyData} : noIo (.ow ds) = true := rfl
@[simp] theorem noIo_pl {d : PyData} : noIo (.pl d) = true := rfl
@[simp] theorem noIo_un : noIo .un = true := rfl
@[simp] theorem atom_int {i : Int} : atomD (.int i) = true := rfl
@[simp] theorem atom_bool {i : Bool} : atomD (.bool i) = true := rfl
@[simp] theorem atom_none : atomD .none = true := rfl
@[simp] theorem atom_str {s : Str} : atomD (.str s) = true := rfl
end DL
namespace DL
open PySem PySem.Spec PyProof.Rows L2 Lk
variable {ns cs : List Nat} {c : Int} {x : Frm}
/-! ## ordered trees -/
inductive TreeF : Frm → Prop
  | say (b : Bool) : TreeF (.say b)
  | tree (f : Nat) (bs : List Frm) : (∀ b ∈ bs, TreeF b) → TreeF (.tree f bs)
theorem eqv_list {p : Frm → Prop} : ∀ {bs cs : List Frm}, (∀ b ∈ bs, ∀ u, p u → PyData.eqv b.D u.D = true → b = u) → (∀ c ∈ cs, p c) → PyData.eqvAll (bs.map Frm.D) (cs.map Frm.D) = true → bs = cs
  | [], [], _, _, _ => rfl
  | [], _ :: _, _, _, h => by simp [PyData.eqvAll] at h
  | _ :: _, [], _, _, h => by simp [PyData.eqvAll] at h
  | b :: bs, c :: cs, hb, hc, h => by
    rw [List.map_cons, List.map_cons, PyData.eqvAll, Bool.and_eq_true] at h
    rw [hb b (List.mem_cons_self ..) c (hc c (List.mem_cons_self ..)) h.1, eqv_list (fun b' h' => hb b' (List.mem_cons_of_mem _ h')) (fun c' h' => hc c' (List.mem_cons_of_mem _ h')) h.2]
theorem TreeF.eqv {t : Frm} (h : TreeF t) : ∀ u, TreeF u → PyData.eqv t.D u.D = true → t = u := by
  induction h with
  | say b =>
    intro u hu e
    cases hu with
    | say c =>
      rw [Frm.D, Frm.D, PyData.eqv, PyData.eqvAll, PyData.eqvAll, PyData.eqvAll, PyData.eqv, PyData.eqv] at e
      simp at e
      rw [e]
    | tree g cs hc =>
      rw [Frm.D, Frm.D, PyData.eqv, PyData.eqvAll, PyData.eqvAll, PyData.eqvAll] at e
      simp at e
  | tree f bs hb ih =>
    intro u hu e
    cases hu with
    | say c =>
      rw [Frm.D, Frm.D, PyData.eqv, PyData.eqvAll, PyData.eqvAll, PyData.eqvAll] at e
      simp at e
    | tree g cs hc =>
      rw [Frm.D, Frm.D, PyData.eqv, PyData.eqvAll, PyData.eqvAll, PyData.eqvAll, PyData.eqvAll, Frm.Ds_eq, Frm.Ds_eq, eqv_n, PyData.eqv, PyData.eqv] at e
      simp only [Bool.and_eq_true, beq_iff_eq] at e
      rw [e.2.1, eqv_list (p := TreeF) ih hc e.2.2.1]
theorem Sh.mono {n m : Nat} {d : PyData} (h : Sh n d) (hn : n ≤ m) : Sh m d := ⟨h.1, Nat.le_trans h.2 hn⟩
theorem Sh.strS {a : Str} (h : PyData.strOk a = true) : Sh 0 (.str a) := ⟨by rw [PyData.canLay0]; exact h, by rw [PyData.depth]; omega⟩
theorem Sh.tup' {ds : List PyData} {n : Nat} (h : ∀ d ∈ ds, Sh n d) : Sh (n + 1) (.tuple ds) := by
  have := Sh.tup (f := id) (xs := ds) (n := n) h
  rwa [List.map_id] at this
theorem TreeF.sh {t : Frm} (h : TreeF t) : Sh (2 * t.dp + 1) t.D := by
  induction h with
  | say b =>
    rw [Frm.D, Frm.dp] <;> try simp
    refine Sh.tup' (n := 0) fun d hd => ?_
    simp only [List.mem_cons, List.not_mem_nil, or_false] at hd
    rcases hd with rfl | rfl
    · exact Sh.strS (by decide +kernel)
    · exact Sh.bool
  | tree f bs hb ih =>
    rw [Frm.D, Frm.dp, Frm.Ds_eq]
    have : 2 * (1 + Frm.dps bs) + 1 = (2 * Frm.dps bs + 1 + 1) + 1 := by omega
    rw [this]
    refine Sh.tup' fun d hd => ?_
    simp only [List.mem_cons, List.not_mem_nil, or_false] at hd
    rcases hd with rfl | rfl | rfl
    · exact (Sh.strS (by decide +kernel)).mono (by omega)
    · exact Sh.n.mono (by omega)
    · refine Sh.tup fun b hb' => (ih b hb').mono ?_
      have := Frm.dps_le hb'
      omega
@[simp] theorem e_cntT {i : Nat} {m : M (List PyData)} {r : En} : mCntT i m r = M.bind (mV i) (fun d => m.bind fun ds => M.lift (countT d ds)) r := rfl
@[simp] theorem e_tested {g : List PyData → Option PyData} {ma mb : M PyData} {r : En} : mTested g ma mb r = M.bind ma (fun d => mb.bind fun l => M.lift ((tupL l).bind fun t => g [d, t])) r := rfl
@[simp] theorem e_tupL {ds : List PyData} : tupL (.list ds) = some (.tuple ds) := rfl
theorem g_tested_ok {f : Nat} {b0 : Frm} {bs : List Frm} {d : Nat} (hb : ∀ b ∈ b0 :: bs, TreeF b ∧ b.dp ≤ d) (hd : d ≤ 30) : ∃ z : Frm, g_tested [nD f, .tuple ((b0 :: bs).map Frm.D)] = some z.D ∧ (z = b0 ∧ (∀ b ∈ b0 :: bs, b = b0) ∨ z = .tree f (b0 :: bs)) := by
  rw [r_tested]
  have sh1 : SeqAt.shaped (.tuple ((b0 :: bs).map Frm.D)) = true := (Sh.tup (n := 2 * d + 1) fun b h => ((hb b h).1.sh).mono (by have := (hb b h).2; omega)).sh (by omega)
  have sh2 : SeqAt.shaped b0.D = true := (((hb b0 (List.mem_cons_self ..)).1.sh).mono (m := 2 * d + 1) (by have := (hb b0 (List.mem_cons_self ..)).2; omega)).sh (by omega)
  have ct : countT (.tuple ((b0 :: bs).map Frm.D)) [b0.D] = some (.int ((((b0 :: bs).map Frm.D).countP fun z => PyData.eqv z b0.D : Nat) : Int)) := by
    show (if (SeqAt.shaped (.tuple ((b0 :: bs).map Frm.D)) && SeqAt.shaped b0.D) = true then _ else _) = _
    rw [sh1, sh2]
    rfl
  have i0 : ixM (.tuple ((b0 :: bs).map Frm.D)) (.int 0) = some b0.D := e_at0
  have ll : lenM [.tuple ((b0 :: bs).map Frm.D)] = some (.int (((b0 :: bs).length : Nat) : Int)) := by rw [e_lenT, List.length_map]
  generalize hq : (((b0 :: bs).map Frm.D).countP fun z => PyData.eqv z b0.D) = q at ct
  have ee : eqM (.int (q : Int)) (.int (((b0 :: bs).length : Nat) : Int)) = some (.bool (decide (q = (b0 :: bs).length))) := by
    rw [e_eqD (Sh.int).sh (Sh.int).sh, PyData.eqv]
    congr 2
    rw [Bool.eq_iff_iff, beq_iff_eq, decide_eq_true_iff]
    omega
  by_cases e : q = (b0 :: bs).length
  · refine ⟨b0, ?_, .inl ⟨rfl, fun b h => ?_⟩⟩
    · rw [decide_eq_true e] at ee
      simp only [v_tested, s_seq, s_if, s_bind, e_opT, e_bind, e_cntT, e_V, List.getElem?_cons_zero, List.getElem?_cons_succ, e_cons, e_op2, e_ret, e_lift_some, i0, e_nil, ct, e_call, ll, ee, Option.bind_some, e_asBool, if_true, s_ret, o_rt]
    · rw [← hq, List.countP_map] at e
      have := (List.countP_eq_length.mp e) b h
      exact (hb b h).1.eqv _ (hb b0 (List.mem_cons_self ..)).1 this
  · refine ⟨.tree f (b0 :: bs), ?_, .inr rfl⟩
    rw [decide_eq_false e] at ee
    have t3 : tupM [.str "tree", nD f, .tuple ((b0 :: bs).map Frm.D)] = some (.tuple [.str "tree", nD f, .tuple ((b0 :: bs).map Frm.D)]) := rfl
    simp only [v_tested, s_seq, s_if, s_bind, e_opT, e_bind, e_cntT, e_V, List.getElem?_cons_zero, List.getElem?_cons_succ, e_cons, e_op2, e_ret, e_lift_some, i0, e_nil, ct, e_call, ll, ee, Option.bind_some, e_asBool, Bool.false_eq_true, if_false, s_nil, s_ret, o_rt, e_tup, t3]
    rw [Frm.D, Frm.Ds_eq]
/-! ## the levels -/
structure Lev (ns : List Nat) (x : Frm) (j : Nat) (T : List Frm) : Prop where
  len : T.length = prod (ns.take j)
  ok : ∀ t ∈ T, TreeF t ∧ t.Ok ns ∧ t.dp ≤ ns.length - j ∧ t.sz + 1 ≤ 2 * prod (ns.drop j)
  ev : ∀ a t, Case ns a → T[plc 0 (ns.take j) (a.take j)]? = some t → t.ev ns a = x.ev ns a
theorem prod_app : ∀ {xs ys : List Nat}, prod (xs ++ ys) = prod xs * prod ys
  | [], ys => by rw [List.nil_append, prod, Nat.one_mul]
  | x :: xs, ys => by rw [List.cons_append, prod, prod, prod_app, Nat.mul_assoc]
theorem lev_leaf : Lev ns x ns.length ((anss ns x).map Frm.say) where
  len := by rw [List.length_map, anss_len, List.take_of_length_le (Nat.le_refl _)]
  ok := fun t ht => by
    obtain ⟨b, _, rfl⟩ := List.mem_map.mp ht
    refine ⟨.say b, by rw [Frm.Ok]; trivial, by rw [Frm.dp] <;> simp, ?_⟩
    rw [List.drop_eq_nil_of_le (Nat.le_refl _)]
    rw [Frm.sz] <;> simp [prod]
  ev := fun a t ha e => by
    rw [List.take_of_length_le (Nat.le_refl _), List.take_of_length_le (by rw [ha.1]; exact Nat.le_refl _)] at e
    unfold anss at e
    rw [List.map_map, List.getElem?_map, allc_at ha] at e
    cases e
    show Frm.ev ns a (.say (x.ev ns a)) = _
    simp [Frm.ev]
theorem e_rng3 {k n : Nat} (hn : 0 < n) (hk : k * n ≤ 100000) (hn2 : n ≤ 1000) : rng3M [.int 0, nD (k * n), nD n] = some ((List.range k).map fun i => nD (i * n)) := by
  have rs : Builtin.Range.rangeSize 0 ((k * n : Nat) : Int) (n : Int) = k := by
    unfold Builtin.Range.rangeSize
    rw [if_pos (by omega)]
    by_cases z : k = 0
    · subst z
      simp
    · have hp : 0 < k * n := Nat.mul_pos (by omega) hn
      rw [if_pos (by omega)]
      have e : ((k * n : Nat) : Int) - 0 - 1 = ((k * n - 1 : Nat) : Int) := by omega
      have e2 : (k * n - 1) / n = k - 1 := by
        have h1 : k * n - 1 = n * (k - 1) + (n - 1) := by
          obtain ⟨k', rfl⟩ : ∃ k', k = k' + 1 := ⟨k - 1, by omega⟩
          rw [Nat.add_sub_cancel, Nat.succ_mul, Nat.mul_comm n k']
          omega
        rw [h1, Nat.mul_add_div hn, Nat.div_eq_of_lt (by omega), Nat.add_zero]
      rw [e]
      have e3 : ((k * n - 1 : Nat) : Int) / (n : Int) = (((k * n - 1) / n : Nat) : Int) := by omega
      rw [e3, e2]
      omega
  have sm : Builtin.Range.small 0 ((k * n : Nat) : Int) (n : Int) = true := by
    unfold Builtin.Range.small
    rw [rs]
    have fl : ∀ z : Int, -1000000 ≤ z → z ≤ 1000000 → Builtin.Range.rangeFitsLong z = true := fun z h1 h2 => by
      unfold Builtin.Range.rangeFitsLong
      simp
      omega
    have kb : k ≤ k * n := Nat.le_mul_of_pos_right _ hn
    rw [fl 0 (by omega) (by omega), fl _ (by omega) (by omega), fl _ (by omega) (by omega), fl _ (by omega) (by omega), if_pos (by omega), fl _ (by omega) (by omega)]
    simp
  show (if (n : Int) ≠ 0 ∧ (n : Int).natAbs < 1000000 ∧ Builtin.Range.small 0 ((k * n : Nat) : Int) (n : Int) = true ∧ 0 ≤ Builtin.Range.rangeSize 0 ((k * n : Nat) : Int) (n : Int) then _ else _) = _
  rw [rs, sm, if_pos (by refine ⟨by omega, by omega, rfl, by omega⟩)]
  unfold rngC
  rw [Int.toNat_natCast]
  refine congrArg some (List.map_congr_left fun i _ => ?_)
  show PyData.int (0 + (i : Int) * (n : Int)) = PyData.int ((i * n : Nat) : Int)
  rw [Int.zero_add]
  congr 1
theorem szs_bound {m : Nat} : ∀ {bs : List Frm}, (∀ b ∈ bs, b.sz + 1 ≤ m) → Frm.szs bs + bs.length ≤ bs.length * m
  | [], _ => by rw [Frm.szs]; simp
  | b :: bs, h => by
    have h1 := h b (List.mem_cons_self ..)
    have h2 := szs_bound (bs := bs) fun c hc => h c (List.mem_cons_of_mem _ hc)
    rw [Frm.szs, List.length_cons, Nat.succ_mul]
    omega
theorem lev_step {j : Nat} {T : List Frm} (hn : Sz ns) (hl : ns.length ≤ 10) (hj : j < ns.length) (L : Lev ns x (j + 1) T) : ∃ T' : List Frm, Lev ns x j T' ∧ ∃ z : Nat → Frm, T' = (List.range (prod (ns.take j))).map z ∧
    ∀ i, i < prod (ns.take j) → g_tested [nD j, .tuple (((T.drop (i * ns[j])).take ns[j]).map Frm.D)] = some (z i).D := by
  have b6 := hn.2 _ (List.getElem_mem hj)
  have e1 := List.getElem?_eq_getElem hj
  have tk : ns.take (j + 1) = ns.take j ++ [ns[j]] := by rw [List.take_add_one, e1]; rfl
  have dr : ns.drop j = ns[j] :: ns.drop (j + 1) := List.drop_eq_getElem_cons hj
  have lT : T.length = prod (ns.take j) * ns[j] := by rw [L.len, tk, prod_app, prod, prod, Nat.mul_one]
  have grp : ∀ i, i < prod (ns.take j) → ((T.drop (i * ns[j])).take ns[j]).length = ns[j] := fun i hi => by
    have : i * ns[j] + ns[j] ≤ prod (ns.take j) * ns[j] := by
      rw [← Nat.succ_mul]
      exact Nat.mul_le_mul_right _ hi
    rw [List.length_take, List.length_drop]
    omega
  have mem : ∀ i, ∀ b ∈ (T.drop (i * ns[j])).take ns[j], b ∈ T := fun i b hb => List.mem_of_mem_drop (List.mem_of_mem_take hb)
  have step : ∀ i, ∃ z : Frm, i < prod (ns.take j) → g_tested [nD j, .tuple (((T.drop (i * ns[j])).take ns[j]).map Frm.D)] = some z.D ∧ TreeF z ∧ z.Ok ns ∧ z.dp ≤ ns.length - j ∧ z.sz + 1 ≤ 2 * prod (ns.drop j) ∧
      ∀ a b, Case ns a → ((T.drop (i * ns[j])).take ns[j])[a.getD j 0]? = some b → z.ev ns a = b.ev ns a := fun i => by
    by_cases hi : i < prod (ns.take j)
    · have lg := grp i hi
      have mm := mem i
      generalize hg : (T.drop (i * ns[j])).take ns[j] = gr at lg mm
      cases gr with
      | nil => simp at lg; omega
      | cons b0 bs =>
        have pb : prod (ns.drop j) = ns[j] * prod (ns.drop (j + 1)) := by rw [dr, prod]
        obtain ⟨z, gz, hz⟩ := g_tested_ok (f := j) (b0 := b0) (bs := bs) (d := ns.length - (j + 1)) (fun b hb => ⟨(L.ok b (mm b hb)).1, (L.ok b (mm b hb)).2.2.1⟩) (by omega)
        refine ⟨z, fun _ => ⟨gz, ?_⟩⟩
        rcases hz with ⟨rfl, he⟩ | rfl
        · obtain ⟨o1, o2, o3, o4⟩ := L.ok z (mm z (List.mem_cons_self ..))
          refine ⟨o1, o2, by omega, ?_, fun a b _ hb => by rw [he b (List.mem_of_getElem? hb)]⟩
          rw [pb]
          exact Nat.le_trans o4 (Nat.mul_le_mul_left _ (Nat.le_mul_of_pos_left _ (by omega)))
        · refine ⟨.tree _ _ fun b hb => (L.ok b (mm b hb)).1, ?_, ?_, ?_, fun a b ha hb => ?_⟩
          · rw [Frm.Ok]
            exact ⟨by rw [lg]; exact e1, Frm.Oks_iff.mpr fun b hb => (L.ok b (mm b hb)).2.1⟩
          · rw [Frm.dp]
            have := Frm.dps_of (n := ns.length - (j + 1)) fun b hb => (L.ok b (mm b hb)).2.2.1
            omega
          · have sb := szs_bound (m := 2 * prod (ns.drop (j + 1))) fun b hb => (L.ok b (mm b hb)).2.2.2
            rw [Frm.sz, pb]
            rw [lg] at sb
            have e : 2 * (ns[j] * prod (ns.drop (j + 1))) = ns[j] * (2 * prod (ns.drop (j + 1))) := by rw [Nat.mul_left_comm]
            omega
          · rw [Frm.ev, Frm.evs_eq, List.getD_eq_getElem?_getD, List.getElem?_map, hb]
            rfl
    · exact ⟨.say true, fun h => absurd h hi⟩
  obtain ⟨z, hz⟩ := Classical.axiomOfChoice step
  refine ⟨_, ⟨by simp, fun t ht => ?_, fun a t ha e => ?_⟩, z, rfl, fun i hi => (hz i hi).1⟩
  · obtain ⟨i, hi, rfl⟩ := List.mem_map.mp ht
    obtain ⟨_, h1, h2, h3, h4, _⟩ := hz i (List.mem_range.mp hi)
    exact ⟨h1, h2, h3, h4⟩
  · have lt : plc 0 (ns.take j) (a.take j) < prod (ns.take j) := by
      have hc : Case (ns.take j) (a.take j) := ⟨by simp [ha.1], fun i n v h1 h2 => by
        rw [List.getElem?_take] at h1 h2
        split at h1
        · rename_i hij
          rw [if_pos hij] at h2
          exact ha.2 i n v h1 h2
        · cases h1⟩
      have := plc_lt (a := 0) hc
      omega
    rw [List.getElem?_map, List.getElem?_range lt] at e
    cases e
    obtain ⟨c, e2, hc⟩ := ha.at e1
    have gd : a.getD j 0 = c := by rw [List.getD_eq_getElem?_getD, e2]; rfl
    have sn : plc 0 (ns.take (j + 1)) (a.take (j + 1)) = plc 0 (ns.take j) (a.take j) * ns[j] + c := by
      rw [List.take_add_one, List.take_add_one, e1, e2]
      exact plc_snoc (by simp [ha.1])
    have le : plc 0 (ns.take j) (a.take j) * ns[j] + ns[j] ≤ prod (ns.take j) * ns[j] := by
      rw [← Nat.succ_mul]
      exact Nat.mul_le_mul_right _ lt
    have eT : T[plc 0 (ns.take j) (a.take j) * ns[j] + c]? = some T[plc 0 (ns.take j) (a.take j) * ns[j] + c] := List.getElem?_eq_getElem (by omega)
    obtain ⟨_, _, _, _, _, hev⟩ := hz _ lt
    rw [hev a T[plc 0 (ns.take j) (a.take j) * ns[j] + c] ha (by rw [gd, List.getElem?_take, if_pos hc, List.getElem?_drop]; exact eT)]
    exact L.ev a _ ha (by rw [sn]; exact eT)
end DL
namespace DL
open PySem PySem.Spec PyProof.Rows L2 Lk
variable {ns cs : List Nat} {c : Int} {x : Frm}
abbrev noneD (n : Nat) : PyData := .list ((List.replicate n none).map oD)
theorem g_unknown_none (n : Nat) (hn : n ≤ 1000) : g_unknown_fields [noneD n] = some (nsD (List.range n)) := by
  rw [r_unknown_fields]
  have el : lenM [noneD n] = some (nD n) := by rw [e_lenL]; simp [nD]
  have lc := lcm (vs := [1]) (mi := mRng1 (mCons (mCall lenM (mCons (mV 0) mNil)) mNil)) (g := gN 1) (mt := mOpT isM (mOp2 ixM (mV 0) (mV 1)) (M.ret .none)) (me := mV 1) (r := [.pl (noneD n), .un])
    nD (fun _ => true) nD (fun i => [.pl (noneD n), .pl (nD i)]) (xs := List.range n) (by simp only [e_rng1, e_cons, e_call, e_bind, e_V, List.getElem?_cons_zero, e_nil, e_ret, el, e_lift_some, e_rng_n n (by omega)]) (by simp [freeAt]) (by simp; omega) (by simp) (by simp) (by
    intro i hi
    have li := List.mem_range.mp hi
    have e : (List.replicate n (none : Option Nat))[i]? = some none := by rw [List.getElem?_replicate, if_pos li]
    have ix : ixM (noneD n) (nD i) = some (oD none) := ix_mapL e
    have is : isM (oD none) .none = some (.bool true) := rfl
    simp only [e_opT, e_op2, e_bind, e_V, List.getElem?_cons_zero, List.getElem?_cons_succ, ix, e_lift_some, e_ret, is, Option.bind_some, e_asBool]) (by simp)
  rw [List.filter_eq_self.mpr fun _ _ => rfl] at lc
  simp [v_unknown_fields, lc]
theorem g_ordered_completing_ok (A : Ask ns x) (hl : ns.length ≤ 10) : ∃ t : Frm, g_ordered_tree_completing [nsD ns, x.D, noneD ns.length] = some t.D ∧ TreeF t ∧ t.Ok ns ∧ t.dp ≤ 10 ∧ t.sz ≤ 2048 ∧ ∀ a, Case ns a → t.ev ns a = x.ev ns a := by
  have hn := A.sz
  have sm := A.sm
  rw [r_ordered_tree_completing]
  have ga := g_answers_ok A (half_none (ns := ns))
  rw [ans_none] at ga
  have la : (anss ns x).length = prod ns := anss_len
  have e6 := lcy (vs := [6]) (mi := mSeq (mCall g_answers_completing (mCons (mV 0) (mCons (mV 1) (mCons (mV 2) mNil))))) (g := gN 6) (me := mTup (mCons (M.ret (.str "say")) (mCons (mV 6) mNil))) (r := [.pl (nsD ns), .pl x.D, .pl (noneD ns.length), .un, .un, .un, .un, .un])
    PyData.bool (fun b => (Frm.say b).D) (fun b => [.pl (nsD ns), .pl x.D, .pl (noneD ns.length), .un, .un, .un, .pl (.bool b), .un]) (xs := anss ns x) (by simp only [e_seqI, e_call, e_bind, e_cons, e_V, List.getElem?_cons_zero, List.getElem?_cons_succ, e_nil, e_ret, ga, e_lift_some, e_asSeqL]) (by simp [freeAt]) (by omega) (by simp) (by simp) (by
    intro b _
    simp [Frm.D])
  have un := g_unknown_none ns.length (by omega)
  have rv : mSeq (mNew (mRevL (mCall g_unknown_fields (mCons (mV 2) mNil)))) [.pl (nsD ns), .pl x.D, .pl (noneD ns.length), .pl (.list ((anss ns x).map fun b => (Frm.say b).D)), .un, .un, .un, .un] = some (.ok ((List.range ns.length).reverse.map nD) [.pl (nsD ns), .pl x.D, .pl (noneD ns.length), .pl (.list ((anss ns x).map fun b => (Frm.say b).D)), .un, .un, .un, .un]) := by
    simp [mRevL, un]
  obtain ⟨r2, e, j, T, c4, c5, rfl, _, _, hx, hj, L⟩ := for_i (g := gN 4) (b := (sSeq (sSet 5 (mOp2 ixM (mV 0) (mV 4)))
  (sSet 3 (mNew (mLc [7] (mRng3 (mCons (M.ret (.int 0)) (mCons (mCall lenM (mCons (mV 3) mNil)) (mCons (mV 5) mNil)))) (gN 7) mYes (mTested g_tested (mV 4) (mNew (mSlice (mV 3) (mPart (mV 7)) (mPart (mOp2 addM (mV 7) (mV 5))))))))))) nD
    (fun xs r => ∃ (j : Nat) (T : List Frm) (c4 c5 : Cel), r = [.pl (nsD ns), .pl x.D, .pl (noneD ns.length), .pl (.list (T.map Frm.D)), c4, c5, .un, .un] ∧ c4.own = false ∧ c5.own = false ∧ xs = (List.range j).reverse ∧ j ≤ ns.length ∧ Lev ns x j T)
    (xs := (List.range ns.length).reverse) (r := [.pl (nsD ns), .pl x.D, .pl (noneD ns.length), .pl (.list ((anss ns x).map fun b => (Frm.say b).D)), .un, .un, .un, .un])
    ⟨ns.length, (anss ns x).map Frm.say, .un, .un, by rw [List.map_map]; rfl, rfl, rfl, rfl, Nat.le_refl _, lev_leaf⟩ (by
      rintro p xs r ⟨j, T, c4, c5, rfl, h4, h5, hx, hj, L⟩
      cases j with
      | zero => simp at hx
      | succ j =>
        rw [List.range_succ, List.reverse_append] at hx
        obtain ⟨rfl, hx⟩ := List.cons.inj hx
        have lp : p < ns.length := hj
        have e1 := List.getElem?_eq_getElem lp
        have b6 := hn.2 _ (List.getElem_mem lp)
        obtain ⟨T', L', z, rfl, gz⟩ := lev_step hn hl lp L
        have tk : ns.take (p + 1) = ns.take p ++ [ns[p]] := by rw [List.take_add_one, e1]; rfl
        have lT : T.length = prod (ns.take p) * ns[p] := by rw [L.len, tk, prod_app, prod, prod, Nat.mul_one]
        have pp : 0 < prod (ns.drop (p + 1)) := prod_pos fun m hm => by have := hn.2 m (List.mem_of_mem_drop hm); omega
        have pn : prod ns = prod (ns.take p) * ns[p] * prod (ns.drop (p + 1)) := by
          have : ns = ns.take (p + 1) ++ ns.drop (p + 1) := (List.take_append_drop ..).symm
          calc prod ns = prod (ns.take (p + 1) ++ ns.drop (p + 1)) := by rw [← this]
            _ = _ := by rw [prod_app, tk, prod_app, prod, prod, Nat.mul_one]
        have lT2 : prod (ns.take p) * ns[p] ≤ 1024 := Nat.le_trans (Nat.le_trans (Nat.le_mul_of_pos_right _ pp) (Nat.le_of_eq pn.symm)) sm
        have k1 : prod (ns.take p) ≤ 1024 := Nat.le_trans (Nat.le_mul_of_pos_right _ (by omega)) lT2
        have i4 := own_io h4
        have i5 := own_io h5
        have r3 := e_rng3 (k := prod (ns.take p)) (n := ns[p]) (by omega) (by omega) (by omega)
        have el : PyData.int (T.length : Int) = nD (prod (ns.take p) * ns[p]) := by rw [lT]; rfl
        have lc := lcy (vs := [7]) (mi := mRng3 (mCons (M.ret (.int 0)) (mCons (mCall lenM (mCons (mV 3) mNil)) (mCons (mV 5) mNil)))) (g := gN 7) (me := mTested g_tested (mV 4) (mNew (mSlice (mV 3) (mPart (mV 7)) (mPart (mOp2 addM (mV 7) (mV 5))))))
          (r := [.pl (nsD ns), .pl x.D, .pl (noneD ns.length), .pl (.list (T.map Frm.D)), .pl (nD p), .pl (nD ns[p]), .un, .un]) (fun i => nD (i * ns[p])) (fun i => (z i).D) (fun i => [.pl (nsD ns), .pl x.D, .pl (noneD ns.length), .pl (.list (T.map Frm.D)), .pl (nD p), .pl (nD ns[p]), .un, .pl (nD (i * ns[p]))])
          (xs := List.range (prod (ns.take p))) (by simp only [mRng3, e_bind, e_cons, e_ret, e_call, e_V, List.getElem?_cons_zero, List.getElem?_cons_succ, e_nil, e_lift_some, e_lenL, List.length_map, el, r3]) (by simp [freeAt]) (by simp; omega) (by simp) (by simp) (by
          intro i hi
          have li := List.mem_range.mp hi
          have ad : addM (nD (i * ns[p])) (nD ns[p]) = some (nD (i * ns[p] + ns[p])) := rfl
          have ct : cutD (T.map Frm.D) (some ((i * ns[p] : Nat) : Int)) (some ((i * ns[p] + ns[p] : Nat) : Int)) = ((T.drop (i * ns[p])).take ns[p]).map Frm.D := by
            rw [e_cut, Nat.add_sub_cancel_left]
          have ai : ∀ n : Nat, asInt (nD n) = some (n : Int) := fun _ => rfl
          simp only [e_tested, e_bind, e_V, List.getElem?_cons_zero, List.getElem?_cons_succ, e_new, e_slice, e_part, e_op2, ad, e_lift_some, ai, Option.map_some, e_asList, ct, e_ret, e_tupL, Option.bind_some, gz i li])
        refine ⟨[.pl (nsD ns), .pl x.D, .pl (noneD ns.length), .pl (.list (T.map Frm.D)), .pl (nD p), c5, .un, .un], [.pl (nsD ns), .pl x.D, .pl (noneD ns.length), .pl (.list (((List.range (prod (ns.take p))).map z).map Frm.D)), .pl (nD p), .pl (nD ns[p]), .un, .un], by simp [h4], ?_, p, _, .pl (nD p), .pl (nD ns[p]), rfl, rfl, rfl, hx, by omega, L'⟩
        have ix : ixM (nsD ns) (nD p) = some (nD ns[p]) := ix_mapL e1
        simp [-s_put, s_put2, i5, ix, lc])
  have h0 : j = 0 := by
    have := congrArg List.length hx
    simp at this
    omega
  subst h0
  have l1 : T.length = 1 := L.len
  match T, l1 with
  | [t], _ =>
    obtain ⟨h1, h2, h3, h4⟩ := L.ok t (List.mem_cons_self ..)
    refine ⟨t, ?_, h1, h2, by omega, by rw [List.drop_zero] at h4; omega, fun a ha => L.ev a t ha rfl⟩
    simp [v_ordered_tree_completing, e6, rv, e, -e_seqI, -List.map_reverse]
theorem g_ordered_tree_ok (A : Ask ns x) (hl : ns.length ≤ 10) : ∃ t : Frm, g_ordered_tree [nsD ns, x.D] = some t.D ∧ TreeF t ∧ t.Ok ns ∧ t.dp ≤ 10 ∧ t.sz ≤ 2048 ∧ ∀ a, Case ns a → t.ev ns a = x.ev ns a := by
  obtain ⟨t, e, h⟩ := g_ordered_completing_ok A hl
  refine ⟨t, ?_, h⟩
  rw [r_ordered_tree]
  have el : PyData.int (ns.length : Int) = nD ns.length := rfl
  have er := e_rep_none ns.length (by omega)
  simp only [v_ordered_tree, s_seq, s_expr, g_check_small_form_ok A, s_nil, s_ret, s_bind, e_call, e_bind, e_cons, e_V, List.getElem?_cons_zero, List.getElem?_cons_succ, e_nil, e_ret, e_lift_some, e_new, e_rep, e_lst, e_lst1, e_lenL, List.length_map, el, er, e, o_rt]
end DL
namespace DL
open PySem PySem.Spec PyProof.Rows L2 Lk
variable {ns cs : List Nat} {c : Int} {x : Frm}
@[simp] theorem atom_n {i : Nat} : atomD (nD i) = true := rfl
theorem g_q_case_of_place_ok (hn : Sz ns) (hc : Case ns cs) : g_q_case_of_place [nsD ns, nD (plc 0 ns cs)] = some (.inr (cs.map nD)) := by
  rw [r_q_case_of_place]
  have l24 := hn.1
  have lc := hc.1
  have el : PyData.int (ns.length : Int) = nD ns.length := rfl
  obtain ⟨r2, e, i, c4, rfl, _, hx, hi⟩ := for_i (g := gN 4) (b := sSeq (sPutIx 2 (mV 4) (mOp2 modM (mV 3) (mOp2 ixM (mV 0) (mV 4)))) (sSet 3 (mOp2 divM (mV 3) (mOp2 ixM (mV 0) (mV 4))))) nD
    (fun xs r => ∃ i c4, r = [.pl (nsD ns), .pl (nD (plc 0 ns cs)), .ow ((List.replicate i 0 ++ cs.drop i).map nD), .pl (nD (plc 0 (ns.take i) (cs.take i))), c4] ∧ c4.own = false ∧ xs = (List.range i).reverse ∧ i ≤ ns.length)
    (xs := (List.range ns.length).reverse) (r := [.pl (nsD ns), .pl (nD (plc 0 ns cs)), .ow ((List.replicate ns.length 0).map nD), .pl (nD (plc 0 ns cs)), .un])
    ⟨ns.length, .un, by rw [List.take_of_length_le (Nat.le_refl _), List.take_of_length_le (by omega), List.drop_eq_nil_of_le (by omega), List.append_nil], rfl, rfl, Nat.le_refl _⟩ (by
      rintro p xs r ⟨i, c4, rfl, h4, hx, hi⟩
      cases i with
      | zero => simp at hx
      | succ i =>
        rw [List.range_succ, List.reverse_append] at hx
        obtain ⟨rfl, hx⟩ := List.cons.inj hx
        have lp : p < ns.length := hi
        have e1 := List.getElem?_eq_getElem lp
        obtain ⟨d, e2, hd⟩ := hc.at e1
        have b6 := hn.2 _ (List.getElem_mem lp)
        have sn : plc 0 (ns.take (p + 1)) (cs.take (p + 1)) = plc 0 (ns.take p) (cs.take p) * ns[p] + d := by
          rw [List.take_add_one, List.take_add_one, e1, e2]
          exact plc_snoc (by simp [lc])
        have hmod : (plc 0 (ns.take p) (cs.take p) * ns[p] + d) % ns[p] = d := by
          rw [Nat.mul_comm, Nat.mul_add_mod, Nat.mod_eq_of_lt hd]
        have hdiv : (plc 0 (ns.take p) (cs.take p) * ns[p] + d) / ns[p] = plc 0 (ns.take p) (cs.take p) := by
          rw [Nat.mul_comm, Nat.mul_add_div (by omega), Nat.div_eq_of_lt hd, Nat.add_zero]
        have m1 : modM (nD (plc 0 (ns.take (p + 1)) (cs.take (p + 1)))) (nD ns[p]) = some (nD d) := by rw [e_mod_n (by omega), sn, hmod]
        have m2 : divM (nD (plc 0 (ns.take (p + 1)) (cs.take (p + 1)))) (nD ns[p]) = some (nD (plc 0 (ns.take p) (cs.take p))) := by
          have := e_divI (a := (plc 0 (ns.take (p + 1)) (cs.take (p + 1)) : Nat)) (b := (ns[p] : Nat)) (by omega) (by omega)
          unfold nD
          rw [this, ← Int.natCast_ediv, sn, hdiv]
        have len : (List.replicate (p + 1) 0 ++ cs.drop (p + 1)).length = ns.length := by simp; omega
        have ixn : ixN (List.replicate (p + 1) 0 ++ cs.drop (p + 1)).length (p : Int) = some p := by
          unfold ixN
          rw [if_pos (by omega), if_pos (by rw [len]; omega)]
          simp
        have ai : asInt (nD p) = some (p : Int) := rfl
        have st : ((List.replicate (p + 1) 0 ++ cs.drop (p + 1)).map nD).set p (nD d) = (List.replicate p 0 ++ cs.drop p).map nD := by
          rw [← List.map_set]
          congr 1
          refine List.ext_getElem? fun j => ?_
          have hp2 : p < cs.length := by omega
          have cd : cs.drop p = d :: cs.drop (p + 1) := by
            rw [List.drop_eq_getElem_cons hp2]
            congr 1
            exact Option.some.inj ((List.getElem?_eq_getElem hp2).symm.trans e2)
          rw [cd, List.replicate_succ', List.append_assoc]
          rw [List.set_append_right _ _ (by simp)]
          simp
        refine ⟨[.pl (nsD ns), .pl (nD (plc 0 ns cs)), .ow ((List.replicate (p + 1) 0 ++ cs.drop (p + 1)).map nD), .pl (nD (plc 0 (ns.take (p + 1)) (cs.take (p + 1)))), .pl (nD p)], [.pl (nsD ns), .pl (nD (plc 0 ns cs)), .ow ((List.replicate p 0 ++ cs.drop p).map nD), .pl (nD (plc 0 (ns.take p) (cs.take p))), .pl (nD p)], by simp [h4], ?_, p, .pl (nD p), rfl, rfl, hx, by omega⟩
        simp only [s_seq, s_putIx, s_bind, e_op2, e_bind, e_V, List.getElem?_cons_zero, List.getElem?_cons_succ, e_lift_some, ix_mapL e1, m1, e_own_ow, Option.isSome, if_true, ai, List.length_map, ixn, Option.map, s_upO, s_re_ow, st, List.set_cons_succ, List.set_cons_zero, s_set, m2, s_put])
  have h0 : i = 0 := by
    have := congrArg List.length hx
    simp at this
    omega
  subst h0
  have er : repM [.int 0] (nD ns.length) = some ((List.replicate ns.length 0).map nD) := by
    show (if _ then _ else _) = _
    have e1 : ((ns.length : Nat) : Int).natAbs = ns.length := by omega
    have e2 : ((ns.length : Nat) : Int).toNat = ns.length := by omega
    rw [if_pos (by rw [e1, e2]; exact ⟨by omega, by simp; omega⟩), e2, List.map_replicate]
    congr 1
    generalize ns.length = n
    induction n with
    | zero => rfl
    | succ n ih => rw [List.replicate_succ, List.flatten_cons, ih, List.replicate_succ]; rfl
  have rv : mRevR (mCall lenM (mCons (mV 0) mNil)) [.pl (nsD ns), .pl (nD (plc 0 ns cs)), .ow ((List.replicate ns.length 0).map nD), .pl (nD (plc 0 ns cs)), .un] = some (.ok (((List.range ns.length).reverse).map nD) [.pl (nsD ns), .pl (nD (plc 0 ns cs)), .ow ((List.replicate ns.length 0).map nD), .pl (nD (plc 0 ns cs)), .un]) := by
    have q : ns.length ≤ 1000000 := by omega
    have ai : asInt (nD ns.length) = some (ns.length : Int) := rfl
    simp [mRevR, el, ai, q, rng_nat]
  simp only [v_q_case_of_place, s_seq, s_own, s_bind, e_rep, e_bind, e_lst, e_cons, e_ret, e_nil, e_lst1, e_lift_some, e_call, e_V, List.getElem?_cons_zero, List.getElem?_cons_succ, e_lenL, List.length_map, el, er, s_putO, List.set_cons_succ, List.set_cons_zero, s_set, s_put, s_for, rv, e]
  simp
theorem eqv_nsO : ∀ {as bs : List Nat}, PyData.eqvAll (as.map nD) (bs.map nD) = (as == bs)
  | [], [] => by simp [PyData.eqvAll]
  | [], _ :: _ => by simp [PyData.eqvAll]
  | _ :: _, [] => by simp [PyData.eqvAll]
  | a :: as, b :: bs => by
    rw [List.map_cons, List.map_cons, PyData.eqvAll, eqv_nsO, eqv_n]
    rfl
theorem sh_nsO {as : List Nat} : SeqAt.shaped (nsD as) = true := (Sh.list fun _ _ => Sh.n).sh
theorem ne_nsO {as bs : List Nat} : neM (nsD as) (nsD bs) = some (.bool (!(as == bs))) := by
  rw [e_neD sh_nsO sh_nsO, PyData.eqv, eqv_nsO]
theorem eq_nsO {as bs : List Nat} : eqM (nsD as) (nsD bs) = some (.bool (as == bs)) := by
  rw [e_eqD sh_nsO sh_nsO, PyData.eqv, eqv_nsO]
theorem ne_nO {a b : Nat} : neM (nD a) (nD b) = some (.bool (!(a == b))) := by
  rw [e_neD (Sh.n).sh (Sh.n).sh, eqv_n]
theorem g_integerO (n : Nat) : g_law_integer_55dc8 [nD n] = some (.bool true) := by
  have t1 : isTy "int" (nD n) = true := rfl
  have t2 : isTy "bool" (nD n) = false := rfl
  rw [r_law_integer_55dc8]
  simp [v_law_integer_55dc8, t1, t2]
theorem idx_get {α : Type} {A : List α} {p : α → Bool} {i j : Nat} {a : α} (h : (idxs A p)[i]? = some j) (ha : A[j]? = some a) : (A.filter p)[i]? = some a := by
  have e : (idxs A p).map (fun i => A[i]?) = (A.filter p).map some := by
    have h1 := idx_filter (p := p) (f := id) A
    have h2 : (idxs A p).map (fun i => A[i]?) = ((idxs A p).filterMap fun i => (A.map id)[i]?).map some := map_of_filterMap fun i hi => by
      have li := List.mem_range.mp (List.mem_filter.mp hi).1
      exact ⟨A[i], by rw [List.getElem?_map, List.getElem?_eq_getElem li]; rfl, List.getElem?_eq_getElem li⟩
    unfold idxs at h2 ⊢
    rw [h2, h1, List.map_id]
  have e2 := congrArg (fun l => l[i]?) e
  simp only [List.getElem?_map] at e2
  rw [h, Option.map_some, ha] at e2
  cases q : (A.filter p)[i]? with
  | none => rw [q] at e2; cases e2
  | some b => rw [q] at e2; cases e2; rfl
theorem memD_casesO {A : List (List Nat)} {a : List Nat} : notInM (nsD a) (casesD A) = some (.bool (!A.contains a)) := by
  show (if SeqAt.shaped (nsD a) && SeqAt.shaped (casesD A) then _ else _) = _
  rw [sh_nsO, (Sh.list fun _ _ => Sh.list fun _ _ => Sh.n).sh]
  show some (PyData.bool (!memD _ _)) = _
  rw [memD_map (p := fun b => b == a) fun b _ => by rw [PyData.eqv, eqv_nsO]]
  congr 3
  rw [Bool.eq_iff_iff, List.any_eq_true, List.contains_iff_mem]
  exact ⟨fun ⟨b, h, e⟩ => by rw [← beq_iff_eq.mp e]; exact h, fun h => ⟨a, h, beq_self_eq_true a⟩⟩
end DL
namespace DL
open PySem PySem.Spec PyProof.Rows L2 Lk
variable {ns cs : List Nat} {c : Int} {x y : Frm}
abbrev prt (ns : List Nat) (x y : Frm) : List Nat → Bool := fun a => x.ev ns a != y.ev ns a
def oC : Option (List Nat) → PyData
  | none => .none
  | some a => nsD a
theorem ne_nilO {P : List Nat} : neM (nsD P) (.list []) = some (.bool (!P.isEmpty)) := by
  rw [e_neD sh_nsO (Sh.mono (n := 1) ⟨by rw [PyData.canLay0, PyData.canLayAll0], by rw [PyData.depth, PyData.depthAll]; omega⟩ (Nat.le_refl _)).sh, PyData.eqv]
  cases P <;> simp [PyData.eqvAll]
theorem g_parted_ok (A : Ask ns x) (B : Ask ns y) : g_p_parted_places [nsD ns, x.D, y.D] = some (nsD (idxs (allc ns) (prt ns x y))) := by
  have sm := A.sm
  have lr : (anss ns x).length = prod ns := anss_len
  have el : PyData.int (prod ns : Int) = nD (prod ns) := rfl
  rw [r_p_parted_places]
  simp [v_p_parted_places, g_all_answers_ok A, g_all_answers_ok B]
  rw [lcm nD (fun i => ((allc ns)[i]?).any (prt ns x y)) nD (fun i => [.pl (nsD ns), .pl x.D, .pl y.D, .pl (bsD (anss ns x)), .pl (bsD (anss ns y)), .pl (nD i)]) (xs := List.range (prod ns)) (by simp [lr, el, e_rng_n (prod ns) (by omega)]) (by simp [freeAt]) (by simp; omega) (by simp) (by simp) (by
    intro i hi
    obtain ⟨a, h1, _, h3⟩ := anss_at (x := x) (List.mem_range.mp hi)
    obtain ⟨b, h4, _, h6⟩ := anss_at (x := y) (List.mem_range.mp hi)
    rw [h1] at h4
    cases h4
    have nb : neM (.bool (x.ev ns a)) (.bool (y.ev ns a)) = some (.bool (x.ev ns a != y.ev ns a)) := by
      rw [e_neD (Sh.bool).sh (Sh.bool).sh, PyData.eqv]
      rfl
    simp [h1, h3, h6, nb]) (by simp)]
  unfold idxs
  rw [allc_length]
  simp
/-- the first case that parts them -/
theorem part_first (hn : Sz ns) : (idxs (allc ns) (prt ns x y) = [] ∧ (allc ns).filter (prt ns x y) = []) ∨ ∃ a P F, Case ns a ∧ idxs (allc ns) (prt ns x y) = plc 0 ns a :: P ∧ (allc ns).filter (prt ns x y) = a :: F := by
  cases hP : idxs (allc ns) (prt ns x y) with
  | nil =>
    refine .inl ⟨rfl, ?_⟩
    have := idx_len (A := allc ns) (p := prt ns x y)
    rw [hP, List.countP_eq_length_filter] at this
    exact List.eq_nil_of_length_eq_zero this.symm
  | cons i P =>
    obtain ⟨a, h1, h2⟩ := idx_at (A := allc ns) (p := prt ns x y) (i := i) (by rw [hP]; exact List.mem_cons_self ..)
    have hc : Case ns a := mem_allc.mp (List.mem_of_getElem? h1)
    have hp := plc_of h1
    have gt := idx_get (A := allc ns) (p := prt ns x y) (i := 0) (j := i) (by rw [hP]; rfl) h1
    cases hF : (allc ns).filter (prt ns x y) with
    | nil => rw [hF] at gt; cases gt
    | cons b F =>
      rw [hF] at gt
      cases gt
      exact .inr ⟨a, P, F, hc, by rw [hp], rfl⟩
theorem g_parting_ok (A : Ask ns x) (B : Ask ns y) : g_parting_case [nsD ns, x.D, y.D] = some (oC ((allc ns).filter (prt ns x y)).head?) ∧
    ((((allc ns).filter (prt ns x y)).head? = none ∧ g_q_parting_case [nsD ns, x.D, y.D] = some (.inl .none)) ∨ ∃ a, ((allc ns).filter (prt ns x y)).head? = some a ∧ Case ns a ∧ g_q_parting_case [nsD ns, x.D, y.D] = some (.inr (a.map nD))) := by
  have pp := g_parted_ok A B
  have cb := g_check_both_ok A B
  rw [r_parting_case, r_q_parting_case]
  rcases part_first (x := x) (y := y) A.sz with ⟨h1, h2⟩ | ⟨a, P, F, hc, h1, h2⟩
  · rw [h1] at pp
    rw [h2]
    have ne : neM (nsD []) (.list []) = some (.bool false) := by rw [ne_nilO]; rfl
    refine ⟨?_, .inl ⟨rfl, ?_⟩⟩
    · simp [-List.map_nil, v_parting_case, cb, pp, oC, ne]
    · simp [-List.map_nil, v_q_parting_case, cb, pp, mInl, ne]
  · rw [h1] at pp
    rw [h2]
    have ne := ne_nilO (P := plc 0 ns a :: P)
    have ix : ixM (nsD (plc 0 ns a :: P)) (.int 0) = some (nD (plc 0 ns a)) := e_at0
    have gc := g_case_of_place_ok A.sz hc
    have gq := g_q_case_of_place_ok A.sz hc
    refine ⟨?_, .inr ⟨a, rfl, hc, ?_⟩⟩
    · simp [-List.map_cons, v_parting_case, cb, pp, oC, ne, ix, gc]
    · simp [-List.map_cons, v_q_parting_case, cb, pp, ne, ix, gq]
theorem g_case_is_some {a : List Nat} (h : a.length ≤ 1000) : g_law_case_is_da430 [nsD a, nsD a] = some (.bool true) := by
  rw [r_law_case_is_da430]
  have lcx := lcy (vs := [2]) (mi := mSeq (mV 0)) (g := gN 2) (me := mCall g_law_integer_55dc8 (mCons (mV 2) mNil)) (r := [.pl (nsD a), .pl (nsD a), .un]) nD (fun _ => .bool true) (fun v => [.pl (nsD a), .pl (nsD a), .pl (nD v)]) (xs := a) (by simp) (by simp [freeAt]) (by omega) (by simp) (by simp) (by
    intro v _
    simp [g_integerO])
  have al : allM [.list (a.map fun _ => PyData.bool true)] = some (.bool true) := by
    have := e_all (bs := a.map fun _ => true)
    rw [List.map_map] at this
    refine Eq.trans this ?_
    simp
  simp [-List.map_map, v_law_case_is_da430, lcx, al, eq_nsO]
theorem g_case_is_none : g_law_case_is_da430 [.none, .none] = some (.bool true) := by
  rw [r_law_case_is_da430]
  simp [v_law_case_is_da430]
theorem g_truth (b : Bool) : g_law_truth_badf5 [.bool b, .bool b] = some (.bool true) := by
  rw [r_law_truth_badf5]
  have e : eqM (.bool b) (.bool b) = some (.bool true) := by
    rw [e_eqD (Sh.bool).sh (Sh.bool).sh, PyData.eqv]
    simp
  simp [v_law_truth_badf5, e]
theorem eq_bsO {as bs : List Bool} : eqM (bsD as) (bsD bs) = some (.bool (as == bs)) := by
  rw [e_eqD sh_bools sh_bools, PyData.eqv, eqvAll_bools]
theorem eq_nO {a b : Nat} : eqM (nD a) (nD b) = some (.bool (a == b)) := by
  rw [e_eqD (Sh.n).sh (Sh.n).sh, eqv_n]
theorem g_asked_ok (A : Ask ns x) (B : Ask ns y) {w : Nat} (hw : w < 4) : g_law_asked_5fd05 [nsD ns, x.D, y.D, bsD (anss ns x), bsD (anss ns y), casesD (allc ns), nD w] = some (.bool true) := by
  have hn := A.sz
  have l24 := hn.1
  have sm := A.sm
  have lr : (anss ns x).length = prod ns := anss_len
  have el : PyData.int ((anss ns x).length : Int) = nD (prod ns) := by rw [lr]; rfl
  rw [r_law_asked_5fd05]
  have lc8 := lcm (vs := [10]) (mi := mRng1 (mCons (mCall lenM (mCons (mV 3) mNil)) mNil)) (g := gN 10) (mt := mOpT neM (mOp2 ixM (mV 3) (mV 10)) (mOp2 ixM (mV 4) (mV 10))) (me := mV 10)
    (r := [.pl (nsD ns), .pl x.D, .pl y.D, .pl (bsD (anss ns x)), .pl (bsD (anss ns y)), .pl (casesD (allc ns)), .pl (nD w), .un, .un, .un, .un])
    nD (fun i => ((allc ns)[i]?).any (prt ns x y)) nD (fun i => [.pl (nsD ns), .pl x.D, .pl y.D, .pl (bsD (anss ns x)), .pl (bsD (anss ns y)), .pl (casesD (allc ns)), .pl (nD w), .un, .un, .un, .pl (nD i)]) (xs := List.range (prod ns)) (by simp [el, e_rng_n (prod ns) (by omega)]) (by simp [freeAt]) (by simp; omega) (by simp) (by simp) (by
    intro i hi
    obtain ⟨a, h1, _, h3⟩ := anss_at (x := x) (List.mem_range.mp hi)
    obtain ⟨b, h4, _, h6⟩ := anss_at (x := y) (List.mem_range.mp hi)
    rw [h1] at h4
    cases h4
    have nb : neM (.bool (x.ev ns a)) (.bool (y.ev ns a)) = some (.bool (x.ev ns a != y.ev ns a)) := by
      rw [e_neD (Sh.bool).sh (Sh.bool).sh, PyData.eqv]
      rfl
    simp [h1, h3, h6, nb]) (by simp)
  have ei : (List.range (prod ns)).filter (fun i => ((allc ns)[i]?).any (prt ns x y)) = idxs (allc ns) (prt ns x y) := by
    unfold idxs
    rw [allc_length]
  rw [ei] at lc8
  have ew : ∀ k : Nat, eqM (nD w) (.int (k : Int)) = some (.bool (w == k)) := fun k => eq_nO
  have e0 := ew 0
  have e1 := ew 1
  have e2 := ew 2
  have : w = 0 ∨ w = 1 ∨ w = 2 ∨ w = 3 := by omega
  rcases this with rfl | rfl | rfl | rfl
  · have al := g_alike_ok A B
    simp [v_law_asked_5fd05, al, eq_bsO, g_truth]
  · have wi := g_within_ok A B
    have lc7 := lcm (vs := [10]) (mi := mRng1 (mCons (mCall lenM (mCons (mV 3) mNil)) mNil)) (g := gN 10) (mt := mTru (mOp2 ixM (mV 3) (mV 10))) (me := mOp2 ixM (mV 4) (mV 10))
      (r := [.pl (nsD ns), .pl x.D, .pl y.D, .pl (bsD (anss ns x)), .pl (bsD (anss ns y)), .pl (casesD (allc ns)), .pl (nD 1), .un, .un, .un, .un])
      nD (fun i => ((allc ns)[i]?).any (x.ev ns)) (resD (allc ns) (y.ev ns)) (fun i => [.pl (nsD ns), .pl x.D, .pl y.D, .pl (bsD (anss ns x)), .pl (bsD (anss ns y)), .pl (casesD (allc ns)), .pl (nD 1), .un, .un, .un, .pl (nD i)]) (xs := List.range (prod ns)) (by simp [el, e_rng_n (prod ns) (by omega)]) (by simp [freeAt]) (by simp; omega) (by simp) (by simp) (by
      intro i hi
      obtain ⟨a, h1, _, h3⟩ := anss_at (x := x) (List.mem_range.mp hi)
      simp [h1, h3]) (by
      intro i hi _
      have li : i < (allc ns).length := by rw [allc_length]; exact List.mem_range.mp hi
      have := res_at (x := y) li
      rw [show resL ns y = bsD (anss ns y) from rfl] at this
      simp [-List.map_map, this])
    have im := idx_map (A := allc ns) (p := x.ev ns) (f := y.ev ns)
    unfold idxs at im
    rw [allc_length] at im
    rw [im] at lc7
    have ea := e_all (bs := ((allc ns).filter (x.ev ns)).map (y.ev ns))
    have hh : (((allc ns).filter (x.ev ns)).map (y.ev ns)).all id = (allc ns).all fun a => !x.ev ns a || y.ev ns a := by
      rw [List.all_map, List.all_filter]
      rfl
    have ea' : allM [.list ((((allc ns).filter (x.ev ns)).map (y.ev ns)).map PyData.bool)] = some (.bool ((allc ns).all fun a => !x.ev ns a || y.ev ns a)) := by
      rw [← hh]
      exact ea
    simp [-List.map_map, v_law_asked_5fd05, lc7, ea', wi, g_truth]
  · have cp := g_count_parted_ok A B
    have li : PyData.int ((idxs (allc ns) (prt ns x y)).length : Int) = nD ((allc ns).countP (prt ns x y)) := by rw [idx_len]; rfl
    simp [v_law_asked_5fd05, lc8, cp, li, g_integerO, eq_nO]
  · have lF : ((allc ns).filter (prt ns x y)).length ≤ 1024 := Nat.le_trans (List.length_filter_le ..) (by rw [allc_length]; exact sm)
    have lI : (idxs (allc ns) (prt ns x y)).length ≤ 1024 := by rw [idx_len, List.countP_eq_length_filter]; exact lF
    have pg := (g_parting_ok A B).1
    have pq := (g_parting_ok A B).2
    obtain ⟨I, hI⟩ : ∃ I, I = idxs (allc ns) (prt ns x y) := ⟨_, rfl⟩
    have mI : ∀ i ∈ I, ∃ a, (allc ns)[i]? = some a := fun i hi => by
      rw [hI] at hi
      obtain ⟨a, h1, _⟩ := idx_at hi
      exact ⟨a, h1⟩
    rw [← hI] at lc8 lI
    obtain ⟨g, hg⟩ : ∃ g : Nat → List Nat, g = fun i => (allc ns).getD i [] := ⟨_, rfl⟩
    have ga : ∀ i a, (allc ns)[i]? = some a → g i = a := fun i a h => by rw [hg]; simp [h]
    have lc10 := lcy (vs := [10]) (mi := mSeq (mV 8)) (g := gN 10) (me := mOp2 ixM (mV 5) (mV 10))
      (r := [.pl (nsD ns), .pl x.D, .pl y.D, .pl (bsD (anss ns x)), .pl (bsD (anss ns y)), .pl (casesD (allc ns)), .pl (nD 3), .un, .pl (nsD I), .un, .un])
      nD (fun i => nsD (g i)) (fun i => [.pl (nsD ns), .pl x.D, .pl y.D, .pl (bsD (anss ns x)), .pl (bsD (anss ns y)), .pl (casesD (allc ns)), .pl (nD 3), .un, .pl (nsD I), .un, .pl (nD i)]) (xs := I) (by simp) (by simp [freeAt]) (by omega) (by simp) (by simp) (by
      intro i hi
      obtain ⟨a, ha⟩ := mI i hi
      have ix : ixM (casesD (allc ns)) (nD i) = some (nsD a) := ix_mapL ha
      simp [ix, ga i a ha])
    have ad : addM (.list (I.map fun i => nsD (g i))) (.list [.none]) = some (.list ((I.map fun i => nsD (g i)) ++ [.none])) := addL_ok (by simp; omega)
    rcases part_first (x := x) (y := y) hn with ⟨h1, h2⟩ | ⟨a, P, F, hc, h1, h2⟩
    · have hI0 : I = [] := by rw [hI, h1]
      rw [h2] at pg pq
      have q1 : g_q_parting_case [nsD ns, x.D, y.D] = some (.inl .none) := by
        rcases pq with ⟨_, h⟩ | ⟨b, h, _⟩
        · exact h
        · cases h
      have pg' : g_parting_case [nsD ns, x.D, y.D] = some .none := pg
      have ix : ixM (.list ((I.map fun i => nsD (g i)) ++ [.none])) (.int 0) = some .none := by rw [hI0]; rfl
      simp [-List.map_map, v_law_asked_5fd05, lc8, lc10, ad, ix, q1, pg', g_case_is_none]
    · have hIa : I = plc 0 ns a :: P := by rw [hI, h1]
      rw [h2] at pg pq
      have q1 : g_q_parting_case [nsD ns, x.D, y.D] = some (.inr (a.map nD)) := by
        rcases pq with ⟨h, _⟩ | ⟨b, h, _, h3⟩
        · cases h
        · cases h; exact h3
      have pg' : g_parting_case [nsD ns, x.D, y.D] = some (nsD a) := pg
      have ix : ixM (.list ((I.map fun i => nsD (g i)) ++ [.none])) (.int 0) = some (nsD a) := by
        rw [hIa, List.map_cons, List.cons_append, ga _ _ (allc_at hc)]
        exact e_at0
      have la : a.length ≤ 1000000 := by rw [hc.1]; omega
      have gc := g_case_is_some (a := a) (by rw [hc.1]; omega)
      simp [-List.map_map, v_law_asked_5fd05, lc8, lc10, ad, ix, q1, pg', gc, la]
end DL
namespace DL
open PySem PySem.Spec PyProof.Rows L2 Lk
variable {ns cs : List Nat} {c : Int} {x y : Frm}
theorem g_table_ok {bs : List Bool} {s : PyData} : g_law_table_6dbb7 [s, bsD bs] = some (Frm.table bs).D := by
  rw [r_law_table_6dbb7]
  simp [v_law_table_6dbb7, Frm.D]
theorem g_second_ok (A : Ask ns x) (hd1 : x.dp ≤ 40) (hs1 : x.sz ≤ 100) {cells : List Int} (hb : ∀ c ∈ cells, Bits c) (hl : cells.length ≤ 1000) : ∃ y : Frm, g_law_second_9359c [nsD ns, x.D, bsD (anss ns x), isD cells] = some y.D ∧ Ask ns y := by
  have hn := A.sz
  have sm := A.sm
  have p1 : 0 < prod ns := prod_pos fun m hm => by have := hn.2 m hm; omega
  have lr : (anss ns x).length = prod ns := anss_len
  rw [r_law_second_9359c]
  have bh : Bits (hd cells) := by
    cases cells with
    | nil => exact Bits.zero
    | cons a l => exact hb a (List.mem_cons_self ..)
  have ha : addM (.list (cells.map PyData.int)) (.list [.int 0]) = some (.list (cells.map PyData.int ++ [.int 0])) := addL_ok (by omega)
  have d0 : g_law_draw_48e0b [.int (hd cells), .int 83, .int 6] = some (nD (drw (hd cells) 83 6)) := g_draw (k := 83) (l := 6) bh (by decide) (by decide)
  have b0 := drw_lt (k := 83) (l := 6) bh (by decide) (by decide)
  have d1 : g_law_draw_48e0b [.int (hd cells), .int 84, .int 3] = some (nD (drw (hd cells) 84 3)) := g_draw (k := 84) (l := 3) bh (by decide) (by decide)
  have b1 := drw_lt (k := 84) (l := 3) bh (by decide) (by decide)
  have dk : ∀ k, k < 3 → g_law_draw_48e0b [.int (hd cells), nD (85 + k), nD (prod ns)] = some (nD (drw (hd cells) (85 + k) (prod ns))) ∧ drw (hd cells) (85 + k) (prod ns) < prod ns := fun k hk => ⟨g_draw bh (by omega) p1, drw_lt bh (by omega) p1⟩
  obtain ⟨f, e2, okf, df, sf⟩ := g_form_ok hn (by omega) hb hl
  have hh : atI (cells.map PyData.int ++ [.int 0]) 0 = some (.int (hd cells)) := hd_ok
  generalize hd cells = c0 at bh d0 b0 d1 b1 dk hh
  have tb : ∀ bs : List Bool, bs.length = prod ns → Ask ns (.table bs) := fun bs hbs => ⟨hn, sm, by rw [Frm.Ok]; exact ⟨sm, hbs⟩, by rw [Frm.dp] <;> simp, by rw [Frm.sz] <;> simp⟩
  generalize drw c0 83 6 = w at d0 b0
  by_cases w0 : w = 0
  · subst w0
    refine ⟨.neg (.neg x), ?_, ⟨hn, sm, by rw [Frm.Ok, Frm.Ok]; exact A.ok, by rw [Frm.dp, Frm.dp]; omega, by rw [Frm.sz, Frm.sz]; omega⟩⟩
    simp [v_law_second_9359c, ha, hh, d0, Frm.D]
  by_cases w1 : w = 1
  · subst w1
    refine ⟨.table (anss ns x), ?_, tb _ lr⟩
    simp [v_law_second_9359c, ha, hh, d0, g_table_ok]
  by_cases w23 : w = 2 ∨ w = 3
  · have ad : addM (nD (drw c0 84 3)) (.int 1) = some (nD (drw c0 84 3 + 1)) := rfl
    obtain ⟨r2, e, bs, c7, c8, rfl, _, _, hbs, _⟩ := for_i (g := gN 7) (b := (sSeq (sSet 8 (mCall g_law_draw_48e0b (mCons (mV 4) (mCons (mOp2 addM (M.ret (.int 85)) (mV 7)) (mCons (mLenO 6) mNil)))))
  (sPutIx 6 (mV 8) (mNotV (mIxO 6 (mV 8)))))) nD
      (fun xs r => ∃ (bs : List Bool) (c7 c8 : Cel), r = [.pl (nsD ns), .pl x.D, .pl (bsD (anss ns x)), .pl (isD cells), .pl (.int c0), .pl (nD w), .ow (bs.map PyData.bool), c7, c8] ∧ c7.own = false ∧ c8.own = false ∧ bs.length = prod ns ∧ ∀ k ∈ xs, k < 3)
      (xs := List.range (drw c0 84 3 + 1)) (r := [.pl (nsD ns), .pl x.D, .pl (bsD (anss ns x)), .pl (isD cells), .pl (.int c0), .pl (nD w), .ow ((anss ns x).map PyData.bool), .un, .un]) ⟨_, .un, .un, rfl, rfl, rfl, lr, fun k hk => by have := List.mem_range.mp hk; omega⟩ (by
        rintro k xs r ⟨bs, c7, c8, rfl, h7, h8, hbs, hk⟩
        obtain ⟨dq, lt⟩ := dk k (hk k (List.mem_cons_self ..))
        have a85 : addM (.int 85) (nD k) = some (nD (85 + k)) := by
          show some (PyData.int _) = some (PyData.int _)
          congr 2
        generalize drw c0 (85 + k) (prod ns) = q at dq lt
        have lb : PyData.int (bs.length : Int) = nD (prod ns) := by rw [hbs]; rfl
        have eb : bs[q]? = some bs[q] := List.getElem?_eq_getElem (by omega)
        have at_ : atI (bs.map PyData.bool) (q : Int) = some (.bool bs[q]) := by
          have : ixM (.list (bs.map PyData.bool)) (nD q) = some (.bool bs[q]) := ix_mapL eb
          exact this
        have ai : asInt (nD q) = some (q : Int) := rfl
        have ixn : ixN bs.length (q : Int) = some q := by
          unfold ixN
          rw [if_pos (by omega), if_pos (by omega)]
          simp
        have i8 := own_io h8
        refine ⟨[.pl (nsD ns), .pl x.D, .pl (bsD (anss ns x)), .pl (isD cells), .pl (.int c0), .pl (nD w), .ow (bs.map PyData.bool), .pl (nD k), c8], [.pl (nsD ns), .pl x.D, .pl (bsD (anss ns x)), .pl (isD cells), .pl (.int c0), .pl (nD w), .ow ((bs.set q (!bs[q])).map PyData.bool), .pl (nD k), .pl (nD q)], by simp [h7], ?_, _, _, _, rfl, rfl, rfl, by rw [List.length_set]; exact hbs, fun j hj => hk j (List.mem_cons_of_mem _ hj)⟩
        simp [-s_put, s_put2, i8, a85, lb, dq, at_, ai, ixn])
    refine ⟨.table bs, ?_, tb _ hbs⟩
    have t23 : (w == 2 || w == 3) = true := by rcases w23 with rfl | rfl <;> rfl
    have lT : PyData.int ((drw c0 84 3 : Nat) : Int) = nD (drw c0 84 3) := rfl
    rcases w23 with rfl | rfl
    · simp [v_law_second_9359c, ha, hh, d0, d1, ad, e_rng_n (drw c0 84 3 + 1) (by omega)]
      rw [e]
      simp [g_table_ok]
    · simp [v_law_second_9359c, ha, hh, d0, d1, ad, e_rng_n (drw c0 84 3 + 1) (by omega)]
      rw [e]
      simp [g_table_ok]
  · have n2 : ¬ w = 2 := fun h => w23 (.inl h)
    have n3 : ¬ w = 3 := fun h => w23 (.inr h)
    refine ⟨f, ?_, ⟨hn, sm, okf, by omega, by omega⟩⟩
    simp [v_law_second_9359c, ha, hh, d0, w0, w1, n2, n3, e2]
end DL
namespace DL
open PySem PySem.Spec PyProof.Rows L2 Lk
variable {ns cs : List Nat} {c : Int} {x y : Frm}
def tail61 : SM := (sSeq (sSet 9 (mCall g_law_draw_48e0b (mCons (mV 1) (mCons (M.ret (.int 41)) (mCons (M.ret (.int 4)) mNil)))))
  (sSeq (sFor (mRng1 (mCons (M.ret (.int 4)) mNil)) (gN 10)
    (sSeq (sIf (mNotT (mTru (mCall g_law_asked_5fd05 (mCons (mV 3) (mCons (mV 5) (mCons (mV 7) (mCons (mV 6) (mCons (mV 8) (mCons (mV 4) (mCons (mOp2 modM (mCall intM (mCons (mOp2 addM (mV 9) (mV 10)) mNil)) (M.ret (.int 4))) mNil))))))))))
    (sRet (M.ret (.bool false)))
    sNil)
  (sIf (mNotT (mTru (mCall g_law_asked_5fd05 (mCons (mV 3) (mCons (mV 7) (mCons (mV 5) (mCons (mV 8) (mCons (mV 6) (mCons (mV 4) (mCons (mOp2 modM (mCall intM (mCons (mOp2 addM (mV 9) (mOp2 mulM (M.ret (.int 3)) (mV 10))) mNil)) (M.ret (.int 4))) mNil))))))))))
    (sRet (M.ret (.bool false)))
    sNil)))
  (sSeq (sIf (mOpT gtM (mV 2) (M.ret (.int 64)))
    (sSeq (sSet 11 (mCall g_ordered_tree (mCons (mNew (mCallF listM (mCons (mV 3) mNil))) (mCons (mV 5) mNil))))
  (sSeq (sIf (mNotT (mTru (mCall g_law_asked_5fd05 (mCons (mV 3) (mCons (mV 11) (mCons (mV 7) (mCons (mV 6) (mCons (mV 8) (mCons (mV 4) (mCons (mV 9) mNil))))))))))
    (sRet (M.ret (.bool false)))
    sNil)
  (sRet (mCall g_law_asked_5fd05 (mCons (mV 3) (mCons (mV 5) (mCons (mV 11) (mCons (mV 6) (mCons (mV 6) (mCons (mV 4) (mCons (mOp2 modM (mCall intM (mCons (mOp2 addM (mV 9) (M.ret (.int 1))) mNil)) (M.ret (.int 4))) mNil)))))))))))
    sNil)
  (sRet (mCall g_law_asked_5fd05 (mCons (mV 3) (mCons (mV 5) (mCons (mV 5) (mCons (mV 6) (mCons (mV 6) (mCons (mV 4) (mCons (mV 9) mNil))))))))))))
def mid61 : SM := (sSeq (sSet 6 (mNew (mLc [12] (mSeq (mV 4)) (gN 12) mYes (mCall (g_law_said_e4d74 FU) (mCons (mV 3) (mCons (mV 5) (mCons (mV 12) mNil)))))))
  (sSeq (sSet 7 (mCall g_law_second_9359c (mCons (mV 3) (mCons (mV 5) (mCons (mV 6) (mCons (mNew (mSlice (mV 0) (mPart (M.ret (.int 14))) (mPart (mOp2 addM (M.ret (.int 15)) (mOp2 divM (mOp2 mulM (M.ret (.int 13)) (M.ret (.int 64))) (mV 2)))))) mNil))))))
  (sSeq (sIf (mAnd (mOpT gtM (mV 2) (M.ret (.int 64))) (mOpT eqM (mCall g_law_draw_48e0b (mCons (mV 1) (mCons (M.ret (.int 49)) (mCons (M.ret (.int 2)) mNil)))) (M.ret (.int 1))))
    (sSet 7 (mCall g_law_part_518aa (mCons (mV 3) (mCons (mCall g_law_cell_98eb9 (mCons (mV 0) (mCons (M.ret (.int 2)) mNil))) mNil))))
    sNil)
  (sSeq (sSet 8 (mNew (mLc [12] (mSeq (mV 4)) (gN 12) mYes (mCall (g_law_said_e4d74 FU) (mCons (mV 3) (mCons (mV 7) (mCons (mV 12) mNil)))))))
  (sSeq (sIf (mOpT eqM (mCall g_law_draw_48e0b (mCons (mV 1) (mCons (M.ret (.int 40)) (mCons (M.ret (.int 2)) mNil)))) (M.ret (.int 1)))
    (sAsg (mTup (mCons (mV 7) (mCons (mV 5) (mCons (mV 8) (mCons (mV 6) mNil))))) (gTupD 4 (gConsD (gN 5) (gConsD (gN 7) (gConsD (gN 6) (gConsD (gN 8) gNilD))))))
    sNil)
  tail61)))))
theorem split61 : v_law_k61 = (sSeq (sSet 1 (mCall g_law_cell_98eb9 (mCons (mV 0) (mCons (M.ret (.int 0)) mNil))))
  (sSeq (sSet 2 (M.ret (.int 64)))
  (sSeq (sIf (mOpT eqM (mCall g_law_draw_48e0b (mCons (mV 1) (mCons (M.ret (.int 48)) (mCons (M.ret (.int 16)) mNil)))) (M.ret (.int 3)))
    (sSet 2 (M.ret (.int 1024)))
    sNil)
  (sSeq (sSet 3 (mCall g_law_sizes_48d55 (mCons (mV 1) (mCons (M.ret (.int 0)) (mCons (mV 2) mNil)))))
  (sSeq (sSet 4 (mCall g_law_cases_72b18 (mCons (mV 3) mNil)))
  (sSeq (sSet 5 (mCall g_law_form_06328 (mCons (mV 3) (mCons (mNew (mSlice (mV 0) (mPart (M.ret (.int 1))) (mPart (M.ret (.int 14))))) mNil))))
  (sSeq (sIf (mOpT gtM (mV 2) (M.ret (.int 64)))
    (sSet 5 (mCall g_law_part_518aa (mCons (mV 3) (mCons (mCall g_law_cell_98eb9 (mCons (mV 0) (mCons (M.ret (.int 1)) mNil))) mNil))))
    sNil)
  mid61))))))) := rfl
theorem anss_eq {t : Frm} (h : ∀ a, Case ns a → t.ev ns a = x.ev ns a) : anss ns t = anss ns x := List.map_congr_left fun a ha => h a (mem_allc.mp ha)
theorem tail61_ok (A : Ask ns x) (B : Ask ns y) (hl : ns.length ≤ 10) (hc : Bits c) {m : Nat} {s : PyData} : outD (tail61 [.pl s, .pl (.int c), .pl (nD m), .pl (nsD ns), .pl (casesD (allc ns)), .pl x.D, .pl (bsD (anss ns x)), .pl y.D, .pl (bsD (anss ns y)), .un, .un, .un, .un]) = some (.bool true) := by
  have d41 : g_law_draw_48e0b [.int c, .int 41, .int 4] = some (nD (drw c 41 4)) := g_draw (k := 41) (l := 4) hc (by decide) (by decide)
  have b41 := drw_lt (k := 41) (l := 4) hc (by decide) (by decide)
  generalize drw c 41 4 = st at d41 b41
  have md : ∀ n : Nat, modM (nD n) (.int 4) = some (nD (n % 4)) := fun n => e_mod_n (b := 4) (by decide)
  have ad : ∀ a b : Nat, addM (nD a) (nD b) = some (nD (a + b)) := fun a b => rfl
  have i1 : ∀ n : Nat, intM [nD n] = some (nD n) := fun _ => rfl
  obtain ⟨r2, e, c10, rfl, h10, _⟩ := for_i (g := gN 10) (b := (sSeq (sIf (mNotT (mTru (mCall g_law_asked_5fd05 (mCons (mV 3) (mCons (mV 5) (mCons (mV 7) (mCons (mV 6) (mCons (mV 8) (mCons (mV 4) (mCons (mOp2 modM (mCall intM (mCons (mOp2 addM (mV 9) (mV 10)) mNil)) (M.ret (.int 4))) mNil))))))))))
    (sRet (M.ret (.bool false)))
    sNil)
  (sIf (mNotT (mTru (mCall g_law_asked_5fd05 (mCons (mV 3) (mCons (mV 7) (mCons (mV 5) (mCons (mV 8) (mCons (mV 6) (mCons (mV 4) (mCons (mOp2 modM (mCall intM (mCons (mOp2 addM (mV 9) (mOp2 mulM (M.ret (.int 3)) (mV 10))) mNil)) (M.ret (.int 4))) mNil))))))))))
    (sRet (M.ret (.bool false)))
    sNil))) nD
    (fun xs r => ∃ c10 : Cel, r = [.pl s, .pl (.int c), .pl (nD m), .pl (nsD ns), .pl (casesD (allc ns)), .pl x.D, .pl (bsD (anss ns x)), .pl y.D, .pl (bsD (anss ns y)), .pl (nD st), c10, .un, .un] ∧ c10.own = false ∧ ∀ k ∈ xs, k < 4)
    (xs := List.range 4) (r := [.pl s, .pl (.int c), .pl (nD m), .pl (nsD ns), .pl (casesD (allc ns)), .pl x.D, .pl (bsD (anss ns x)), .pl y.D, .pl (bsD (anss ns y)), .pl (nD st), .un, .un, .un]) ⟨.un, rfl, rfl, fun k hk => List.mem_range.mp hk⟩ (by
      rintro k xs r ⟨c10, rfl, h10, hk⟩
      have k4 := hk k (List.mem_cons_self ..)
      have m3 : mulM (.int 3) (nD k) = some (nD (3 * k)) := mul_ok (a := 3) (by omega) (by omega)
      have a1 := g_asked_ok A B (w := (st + k) % 4) (Nat.mod_lt _ (by decide))
      have a2 := g_asked_ok B A (w := (st + 3 * k) % 4) (Nat.mod_lt _ (by decide))
      refine ⟨[.pl s, .pl (.int c), .pl (nD m), .pl (nsD ns), .pl (casesD (allc ns)), .pl x.D, .pl (bsD (anss ns x)), .pl y.D, .pl (bsD (anss ns y)), .pl (nD st), .pl (nD k), .un, .un], _, by simp [h10], ?_, .pl (nD k), rfl, rfl, fun j hj => hk j (List.mem_cons_of_mem _ hj)⟩
      simp [ad, m3, i1, md, a1, a2])
  have r4 : rngM [.int 4] = some ((List.range 4).map nD) := e_rng_n 4 (by decide)
  obtain ⟨t, et, _, okt, dt, st', evt⟩ := g_ordered_tree_ok A hl
  have T : Ask ns t := ⟨A.sz, A.sm, okt, by omega, by omega⟩
  have at1 := g_asked_ok T B b41
  rw [anss_eq evt] at at1
  have at2 := g_asked_ok A T (w := (st + 1) % 4) (Nat.mod_lt _ (by decide))
  rw [anss_eq evt] at at2
  have at3 := g_asked_ok A A b41
  have a1 : addM (nD st) (.int 1) = some (nD (st + 1)) := rfl
  by_cases q : 64 < m
  · simp [tail61, d41, r4, e, q, et, at1, at2, a1, i1, md]
  · simp [tail61, d41, r4, e, q, at3]
theorem said_all (A : Ask ns x) {e : List Nat → En} {r : En} {mi : M (List PyData)} {i j k : Nat} (hi : mi r = some (.ok ((allc ns).map nsD) r)) (hf : freeAt r [i] = true)
    (hg : ∀ a ∈ allc ns, gN i (nsD a) (wipeE r [i]) = some (e a)) (hw : ∀ a ∈ allc ns, wipeE (e a) [i] = wipeE r [i]) (h3 : ∀ a, (e a)[j]? = some (.pl (nsD ns))) (h5 : ∀ a, (e a)[k]? = some (.pl x.D)) (h12 : ∀ a, (e a)[i]? = some (.pl (nsD a))) :
    mLc [i] mi (gN i) mYes (mCall (g_law_said_e4d74 FU) (mCons (mV j) (mCons (mV k) (mCons (mV i) mNil)))) r = some (.ok ((anss ns x).map PyData.bool) r) := by
  have := lcy (vs := [i]) (mi := mi) (g := gN i) (me := mCall (g_law_said_e4d74 FU) (mCons (mV j) (mCons (mV k) (mCons (mV i) mNil)))) (r := r) nsD (fun a => .bool (x.ev ns a)) e (xs := allc ns) hi hf (by rw [allc_length]; have := A.sm; omega) hg hw (by
    intro a ha
    have hs := g_said_ok A.sz (mem_allc.mp ha) x FU A.ok A.dp
    simp [h3, h5, h12, hs])
  rw [this]
  unfold anss
  rw [List.map_map]
  rfl
theorem mid61_ok {l : List Int} (A : Ask ns x) (hd1 : x.dp ≤ 40) (hs1 : x.sz ≤ 100) (hl : ns.length ≤ 10) (hb : ∀ z ∈ l, Bits z) (hc : Bits c) (ll : l.length ≤ 63) {m : Nat} (hm : m = 64 ∨ m = 1024) :
    outD (mid61 [.pl (isD l), .pl (.int c), .pl (nD m), .pl (nsD ns), .pl (casesD (allc ns)), .pl x.D, .un, .un, .un, .un, .un, .un, .un]) = some (.bool true) := by
  have hn := A.sz
  have sm := A.sm
  have s6 := said_all A (i := 12) (j := 3) (k := 5) (mi := mSeq (mV 4)) (r := [.pl (isD l), .pl (.int c), .pl (nD m), .pl (nsD ns), .pl (casesD (allc ns)), .pl x.D, .un, .un, .un, .un, .un, .un, .un])
    (e := fun a => [.pl (isD l), .pl (.int c), .pl (nD m), .pl (nsD ns), .pl (casesD (allc ns)), .pl x.D, .un, .un, .un, .un, .un, .un, .pl (nsD a)]) (by simp) (by simp [freeAt]) (by simp) (by simp) (by simp) (by simp) (by simp)
  have s8 : ∀ y : Frm, Ask ns y → mLc [12] (mSeq (mV 4)) (gN 12) mYes (mCall (g_law_said_e4d74 FU) (mCons (mV 3) (mCons (mV 7) (mCons (mV 12) mNil)))) [.pl (isD l), .pl (.int c), .pl (nD m), .pl (nsD ns), .pl (casesD (allc ns)), .pl x.D, .pl (bsD (anss ns x)), .pl y.D, .un, .un, .un, .un, .un] =
      some (.ok ((anss ns y).map PyData.bool) [.pl (isD l), .pl (.int c), .pl (nD m), .pl (nsD ns), .pl (casesD (allc ns)), .pl x.D, .pl (bsD (anss ns x)), .pl y.D, .un, .un, .un, .un, .un]) := fun y B => said_all B (i := 12) (j := 3) (k := 7)
    (e := fun a => [.pl (isD l), .pl (.int c), .pl (nD m), .pl (nsD ns), .pl (casesD (allc ns)), .pl x.D, .pl (bsD (anss ns x)), .pl y.D, .un, .un, .un, .un, .pl (nsD a)]) (by simp) (by simp [freeAt]) (by simp) (by simp) (by simp) (by simp) (by simp)
  have d49 : g_law_draw_48e0b [.int c, .int 49, .int 2] = some (nD (drw c 49 2)) := g_draw (k := 49) (l := 2) hc (by decide) (by decide)
  have d40 : g_law_draw_48e0b [.int c, .int 40, .int 2] = some (nD (drw c 40 2)) := g_draw (k := 40) (l := 2) hc (by decide) (by decide)
  have b2 := bits_getD hb (k := 2)
  have g2 : g_law_cell_98eb9 [isD l, .int 2] = some (.int (l.getD 2 0)) := g_cell_ok (k := 2)
  generalize l.getD 2 0 = c2 at b2 g2
  obtain ⟨z, ez, okz, dz, sz⟩ := g_part_ok b2 hn (by omega)
  have Z : Ask ns z := ⟨hn, sm, okz, by omega, by omega⟩
  have mm : mulM (.int 13) (.int 64) = some (.int 832) := by rfl
  obtain ⟨h, cu, ⟨q, dv, aq⟩, hcu, ct⟩ : ∃ (h : Nat) (cu : List Int), (∃ q : Int, divM (.int 832) (nD m) = some (.int q) ∧ addM (.int 15) (.int q) = some (nD h)) ∧ cu = (l.drop 14).take (h - 14) ∧ cutD (l.map PyData.int) (some 14) (some (h : Int)) = cu.map PyData.int := by
    rcases hm with rfl | rfl
    · exact ⟨28, _, ⟨13, by rfl, by rfl⟩, rfl, e_cut (lo := 14) (hi := 28)⟩
    · exact ⟨15, _, ⟨0, by rfl, by rfl⟩, rfl, e_cut (lo := 14) (hi := 15)⟩
  have bc : ∀ z ∈ cu, Bits z := fun z h => by rw [hcu] at h; exact hb z (List.mem_of_mem_drop (List.mem_of_mem_take h))
  have lc : cu.length ≤ 1000 := by rw [hcu]; simp; omega
  obtain ⟨y, ey, B⟩ := g_second_ok A hd1 hs1 bc lc
  have aih : asInt (nD h) = some (h : Int) := rfl
  have gt : gtM (nD m) (.int 64) = some (.bool (decide (64 < m))) := by
    show some (PyData.bool (decide ((64 : Int) < m))) = _
    congr 2
    simp
    omega
  have X1 := tail61_ok (c := c) A B hl hc (m := m) (s := isD l)
  have X2 := tail61_ok (c := c) B A hl hc (m := m) (s := isD l)
  have X3 := tail61_ok (c := c) A Z hl hc (m := m) (s := isD l)
  have X4 := tail61_ok (c := c) Z A hl hc (m := m) (s := isD l)
  have t4 : ∀ a b c d : PyData, tupM [a, b, c, d] = some (.tuple [a, b, c, d]) := fun _ _ _ _ => rfl
  have sB := s8 y B
  have sZ := s8 z Z
  by_cases q1 : 64 < m
  · by_cases q2 : drw c 49 2 = 1
    · by_cases q3 : drw c 40 2 = 1
      · simp [mid61, s6, mm, dv, aq, aih, ct, ey, gt, q1, d49, q2, g2, ez, sZ, d40, q3, t4, X4]
      · simp [mid61, s6, mm, dv, aq, aih, ct, ey, gt, q1, d49, q2, g2, ez, sZ, d40, q3, t4, X3]
    · by_cases q3 : drw c 40 2 = 1
      · simp [mid61, s6, mm, dv, aq, aih, ct, ey, gt, q1, d49, q2, sB, d40, q3, t4, X2]
      · simp [mid61, s6, mm, dv, aq, aih, ct, ey, gt, q1, d49, q2, sB, d40, q3, t4, X1]
  · by_cases q3 : drw c 40 2 = 1
    · simp [mid61, s6, mm, dv, aq, aih, ct, ey, gt, q1, sB, d40, q3, t4, X2]
    · simp [mid61, s6, mm, dv, aq, aih, ct, ey, gt, q1, sB, d40, q3, t4, X1]
theorem true_k61 (l : List Int) (hl : l.length ≤ 63) (hb : ∀ z ∈ l, Builtin.Int.intBits z ≤ 1048576) : g_law_k61 [.list (l.map PyData.int)] = some (.bool true) := by
  rw [r_law_k61, split61]
  have hb' : ∀ z ∈ l, Bits z := hb
  have b0 := bits_getD hb' (k := 0)
  have g0 : g_law_cell_98eb9 [isD l, .int 0] = some (.int (l.getD 0 0)) := g_cell_ok (k := 0)
  have b1 := bits_getD hb' (k := 1)
  have g1 : g_law_cell_98eb9 [isD l, .int 1] = some (.int (l.getD 1 0)) := g_cell_ok (k := 1)
  generalize l.getD 0 0 = c0 at b0 g0
  generalize l.getD 1 0 = c1 at b1 g1
  have d1 : g_law_draw_48e0b [.int c0, .int 48, .int 16] = some (nD (drw c0 48 16)) := g_draw (k := 48) (l := 16) b0 (by decide) (by decide)
  have cut1 : cutD (l.map PyData.int) (some 1) (some 14) = ((l.drop 1).take 13).map PyData.int := e_cut (lo := 1) (hi := 14)
  have bc1 : ∀ z ∈ (l.drop 1).take 13, Bits z := fun z h => hb z (List.mem_of_mem_drop (List.mem_of_mem_take h))
  have lc1 : ((l.drop 1).take 13).length ≤ 1000 := by simp; omega
  generalize (l.drop 1).take 13 = cells1 at cut1 bc1 lc1
  by_cases q : drw c0 48 16 = 3
  · obtain ⟨ns, e1, hn, l10, hp⟩ := g_sizes_ok (m := 0) (k := 1024) b0 (by decide) (by decide) (by decide)
    have e1' : g_law_sizes_48d55 [.int c0, .int 0, .int 1024] = some (nsD ns) := e1
    have p0 : prodM 0 ns = prod ns := by unfold prodM; simp
    rw [p0] at hp
    have cs := g_cases_ok hn (by omega)
    obtain ⟨x, e2, okx, dx, sx⟩ := g_form_ok hn (by omega) bc1 lc1
    obtain ⟨y, e3, oky, dy, sy⟩ := g_part_ok b1 hn (by omega)
    have T := mid61_ok (l := l) (c := c0) (m := 1024) (⟨hn, hp, oky, by omega, by omega⟩ : Ask ns y) (by omega) (by omega) l10 hb' b0 hl (.inr rfl)
    have T' : outD (mid61 [.pl (isD l), .pl (.int c0), .pl (.int 1024), .pl (nsD ns), .pl (casesD (allc ns)), .pl y.D, .un, .un, .un, .un, .un, .un, .un]) = some (.bool true) := T
    simp [g0, g1, d1, q, e1', cs, cut1, e2, e3, T']
  · obtain ⟨ns, e1, hn, l10, hp⟩ := g_sizes_ok (m := 0) (k := 64) b0 (by decide) (by decide) (by decide)
    have e1' : g_law_sizes_48d55 [.int c0, .int 0, .int 64] = some (nsD ns) := e1
    have p0 : prodM 0 ns = prod ns := by unfold prodM; simp
    rw [p0] at hp
    have cs := g_cases_ok hn (by omega)
    obtain ⟨x, e2, okx, dx, sx⟩ := g_form_ok hn (by omega) bc1 lc1
    have T := mid61_ok (l := l) (c := c0) (m := 64) (⟨hn, by omega, okx, by omega, by omega⟩ : Ask ns x) (by omega) (by omega) l10 hb' b0 hl (.inl rfl)
    have T' : outD (mid61 [.pl (isD l), .pl (.int c0), .pl (.int 64), .pl (nsD ns), .pl (casesD (allc ns)), .pl x.D, .un, .un, .un, .un, .un, .un, .un]) = some (.bool true) := T
    simp [g0, g1, d1, q, e1', cs, cut1, e2, T']
end DL
namespace DL
open PySem PySem.Spec PyProof.Rows L2 Lk
theorem all_mk {l : PySem.W.OpenLaw} {w : World} {K : PySem.W.Frag} {h : Heap} {mg : Str → Option Value} {fa : Addr} (X : K.In h) (G : h.Ns mainGlobals mg) (hfa : mg "law" = some (.ref fa))
    {f0 : Addr} {od0 an0 : Option Addr} {sl0 : Array (Option Value)} {oc0 kV0 dc0 pm0 cd0 ct0 : Value}
    {f1 : Addr} {od1 an1 : Option Addr} {sl1 : Array (Option Value)} {oc1 kV1 dc1 pm1 cd1 ct1 : Value}
    {f2 : Addr} {od2 an2 : Option Addr} {sl2 : Array (Option Value)} {oc2 kV2 dc2 pm2 cd2 ct2 : Value}
    {f3 : Addr} {od3 an3 : Option Addr} {sl3 : Array (Option Value)} {oc3 kV3 dc3 pm3 cd3 ct3 : Value}
    {f4 : Addr} {od4 an4 : Option Addr} {sl4 : Array (Option Value)} {oc4 kV4 dc4 pm4 cd4 ct4 : Value}
    {f5 : Addr} {od5 an5 : Option Addr} {sl5 : Array (Option Value)} {oc5 kV5 dc5 pm5 cd5 ct5 : Value}
    {f6 : Addr} {od6 an6 : Option Addr} {sl6 : Array (Option Value)} {oc6 kV6 dc6 pm6 cd6 ct6 : Value}
    {f7 : Addr} {od7 an7 : Option Addr} {sl7 : Array (Option Value)} {oc7 kV7 dc7 pm7 cd7 ct7 : Value}
    {f8 : Addr} {od8 an8 : Option Addr} {sl8 : Array (Option Value)} {oc8 kV8 dc8 pm8 cd8 ct8 : Value}
    {f9 : Addr} {od9 an9 : Option Addr} {sl9 : Array (Option Value)} {oc9 kV9 dc9 pm9 cd9 ct9 : Value}
    {f10 : Addr} {od10 an10 : Option Addr} {sl10 : Array (Option Value)} {oc10 kV10 dc10 pm10 cd10 ct10 : Value}
    {f11 : Addr} {od11 an11 : Option Addr} {sl11 : Array (Option Value)} {oc11 kV11 dc11 pm11 cd11 ct11 : Value}
    {f12 : Addr} {od12 an12 : Option Addr} {sl12 : Array (Option Value)} {oc12 kV12 dc12 pm12 cd12 ct12 : Value}
    {f13 : Addr} {od13 an13 : Option Addr} {sl13 : Array (Option Value)} {oc13 kV13 dc13 pm13 cd13 ct13 : Value}
    {f14 : Addr} {od14 an14 : Option Addr} {sl14 : Array (Option Value)} {oc14 kV14 dc14 pm14 cd14 ct14 : Value}
    {f15 : Addr} {od15 an15 : Option Addr} {sl15 : Array (Option Value)} {oc15 kV15 dc15 pm15 cd15 ct15 : Value}
    {f16 : Addr} {od16 an16 : Option Addr} {sl16 : Array (Option Value)} {oc16 kV16 dc16 pm16 cd16 ct16 : Value}
    {f17 : Addr} {od17 an17 : Option Addr} {sl17 : Array (Option Value)} {oc17 kV17 dc17 pm17 cd17 ct17 : Value}
    {f18 : Addr} {od18 an18 : Option Addr} {sl18 : Array (Option Value)} {oc18 kV18 dc18 pm18 cd18 ct18 : Value}
    {f19 : Addr} {od19 an19 : Option Addr} {sl19 : Array (Option Value)} {oc19 kV19 dc19 pm19 cd19 ct19 : Value}
    {f20 : Addr} {od20 an20 : Option Addr} {sl20 : Array (Option Value)} {oc20 kV20 dc20 pm20 cd20 ct20 : Value}
    {f21 : Addr} {od21 an21 : Option Addr} {sl21 : Array (Option Value)} {oc21 kV21 dc21 pm21 cd21 ct21 : Value}
    {f22 : Addr} {od22 an22 : Option Addr} {sl22 : Array (Option Value)} {oc22 kV22 dc22 pm22 cd22 ct22 : Value}
    {f23 : Addr} {od23 an23 : Option Addr} {sl23 : Array (Option Value)} {oc23 kV23 dc23 pm23 cd23 ct23 : Value}
    {f24 : Addr} {od24 an24 : Option Addr} {sl24 : Array (Option Value)} {oc24 kV24 dc24 pm24 cd24 ct24 : Value}
    {f25 : Addr} {od25 an25 : Option Addr} {sl25 : Array (Option Value)} {oc25 kV25 dc25 pm25 cd25 ct25 : Value}
    {f26 : Addr} {od26 an26 : Option Addr} {sl26 : Array (Option Value)} {oc26 kV26 dc26 pm26 cd26 ct26 : Value}
    {f27 : Addr} {od27 an27 : Option Addr} {sl27 : Array (Option Value)} {oc27 kV27 dc27 pm27 cd27 ct27 : Value}
    {f28 : Addr} {od28 an28 : Option Addr} {sl28 : Array (Option Value)} {oc28 kV28 dc28 pm28 cd28 ct28 : Value}
    {f29 : Addr} {od29 an29 : Option Addr} {sl29 : Array (Option Value)} {oc29 kV29 dc29 pm29 cd29 ct29 : Value}
    {f30 : Addr} {od30 an30 : Option Addr} {sl30 : Array (Option Value)} {oc30 kV30 dc30 pm30 cd30 ct30 : Value}
    {f31 : Addr} {od31 an31 : Option Addr} {sl31 : Array (Option Value)} {oc31 kV31 dc31 pm31 cd31 ct31 : Value}
    {f32 : Addr} {od32 an32 : Option Addr} {sl32 : Array (Option Value)} {oc32 kV32 dc32 pm32 cd32 ct32 : Value}
    {f33 : Addr} {od33 an33 : Option Addr} {sl33 : Array (Option Value)} {oc33 kV33 dc33 pm33 cd33 ct33 : Value}
    {f34 : Addr} {od34 an34 : Option Addr} {sl34 : Array (Option Value)} {oc34 kV34 dc34 pm34 cd34 ct34 : Value}
    {f35 : Addr} {od35 an35 : Option Addr} {sl35 : Array (Option Value)} {oc35 kV35 dc35 pm35 cd35 ct35 : Value}
    {f36 : Addr} {od36 an36 : Option Addr} {sl36 : Array (Option Value)} {oc36 kV36 dc36 pm36 cd36 ct36 : Value}
    {f37 : Addr} {od37 an37 : Option Addr} {sl37 : Array (Option Value)} {oc37 kV37 dc37 pm37 cd37 ct37 : Value}
    {f38 : Addr} {od38 an38 : Option Addr} {sl38 : Array (Option Value)} {oc38 kV38 dc38 pm38 cd38 ct38 : Value}
    {f39 : Addr} {od39 an39 : Option Addr} {sl39 : Array (Option Value)} {oc39 kV39 dc39 pm39 cd39 ct39 : Value}
    {f40 : Addr} {od40 an40 : Option Addr} {sl40 : Array (Option Value)} {oc40 kV40 dc40 pm40 cd40 ct40 : Value}
    {f41 : Addr} {od41 an41 : Option Addr} {sl41 : Array (Option Value)} {oc41 kV41 dc41 pm41 cd41 ct41 : Value}
    {f42 : Addr} {od42 an42 : Option Addr} {sl42 : Array (Option Value)} {oc42 kV42 dc42 pm42 cd42 ct42 : Value}
    {f43 : Addr} {od43 an43 : Option Addr} {sl43 : Array (Option Value)} {oc43 kV43 dc43 pm43 cd43 ct43 : Value}
    {f44 : Addr} {od44 an44 : Option Addr} {sl44 : Array (Option Value)} {oc44 kV44 dc44 pm44 cd44 ct44 : Value}
    {f45 : Addr} {od45 an45 : Option Addr} {sl45 : Array (Option Value)} {oc45 kV45 dc45 pm45 cd45 ct45 : Value}
    {f46 : Addr} {od46 an46 : Option Addr} {sl46 : Array (Option Value)} {oc46 kV46 dc46 pm46 cd46 ct46 : Value}
    {f47 : Addr} {od47 an47 : Option Addr} {sl47 : Array (Option Value)} {oc47 kV47 dc47 pm47 cd47 ct47 : Value}
    {f48 : Addr} {od48 an48 : Option Addr} {sl48 : Array (Option Value)} {oc48 kV48 dc48 pm48 cd48 ct48 : Value}
    {f49 : Addr} {od49 an49 : Option Addr} {sl49 : Array (Option Value)} {oc49 kV49 dc49 pm49 cd49 ct49 : Value}
    {f50 : Addr} {od50 an50 : Option Addr} {sl50 : Array (Option Value)} {oc50 kV50 dc50 pm50 cd50 ct50 : Value}
    {f51 : Addr} {od51 an51 : Option Addr} {sl51 : Array (Option Value)} {oc51 kV51 dc51 pm51 cd51 ct51 : Value}
    {f52 : Addr} {od52 an52 : Option Addr} {sl52 : Array (Option Value)} {oc52 kV52 dc52 pm52 cd52 ct52 : Value}
    {f53 : Addr} {od53 an53 : Option Addr} {sl53 : Array (Option Value)} {oc53 kV53 dc53 pm53 cd53 ct53 : Value}
    {f54 : Addr} {od54 an54 : Option Addr} {sl54 : Array (Option Value)} {oc54 kV54 dc54 pm54 cd54 ct54 : Value}
    {f55 : Addr} {od55 an55 : Option Addr} {sl55 : Array (Option Value)} {oc55 kV55 dc55 pm55 cd55 ct55 : Value}
    {f56 : Addr} {od56 an56 : Option Addr} {sl56 : Array (Option Value)} {oc56 kV56 dc56 pm56 cd56 ct56 : Value}
    {f57 : Addr} {od57 an57 : Option Addr} {sl57 : Array (Option Value)} {oc57 kV57 dc57 pm57 cd57 ct57 : Value}
    {f58 : Addr} {od58 an58 : Option Addr} {sl58 : Array (Option Value)} {oc58 kV58 dc58 pm58 cd58 ct58 : Value}
    {f59 : Addr} {od59 an59 : Option Addr} {sl59 : Array (Option Value)} {oc59 kV59 dc59 pm59 cd59 ct59 : Value}
    {f60 : Addr} {od60 an60 : Option Addr} {sl60 : Array (Option Value)} {oc60 kV60 dc60 pm60 cd60 ct60 : Value}
    {f61 : Addr} {od61 an61 : Option Addr} {sl61 : Array (Option Value)} {oc61 kV61 dc61 pm61 cd61 ct61 : Value}
    {f62 : Addr} {od62 an62 : Option Addr} {sl62 : Array (Option Value)} {oc62 kV62 dc62 pm62 cd62 ct62 : Value}
    {f63 : Addr} {od63 an63 : Option Addr} {sl63 : Array (Option Value)} {oc63 kV63 dc63 pm63 cd63 ct63 : Value}
    {f64 : Addr} {od64 an64 : Option Addr} {sl64 : Array (Option Value)} {oc64 kV64 dc64 pm64 cd64 ct64 : Value}
    {f65 : Addr} {od65 an65 : Option Addr} {sl65 : Array (Option Value)} {oc65 kV65 dc65 pm65 cd65 ct65 : Value}
    {f66 : Addr} {od66 an66 : Option Addr} {sl66 : Array (Option Value)} {oc66 kV66 dc66 pm66 cd66 ct66 : Value}
    {t0 : Tok}
    {t1 : Tok}
    {t2 : Tok}
    {t3 : Tok}
    {tj0 : Addr} {odj0 : Option Addr} {nj0 : Nat} {slj0 : Array (Option Value)} {u0_0 u0_1 u0_2 : Tok}
    (a0 : PySem.W.nsIn K mainGlobals "is_integer" = some (some (.ref f0))) (l0 : K.lookup f0 = some ⟨oc0, od0, .func (PySem.W.fnOf "is_integer" "is_integer" (defArgs s_is_integer) (defBody s_is_integer) (defScope s_is_integer) .none kV0 dc0 pm0 an0 cd0 ct0), sl0⟩)
    (c0 : PySem.W.codeIn K cd0 "is_integer" = true) (k0 : PySem.W.keepIn K (.ref f0) = true)
    (a1 : PySem.W.nsIn K mainGlobals "is_sizes" = some (some (.ref f1))) (l1 : K.lookup f1 = some ⟨oc1, od1, .func (PySem.W.fnOf "is_sizes" "is_sizes" (defArgs s_is_sizes) (defBody s_is_sizes) (defScope s_is_sizes) .none kV1 dc1 pm1 an1 cd1 ct1), sl1⟩)
    (c1 : PySem.W.codeIn K cd1 "is_sizes" = true) (k1 : PySem.W.keepIn K (.ref f1) = true)
    (a2 : PySem.W.nsIn K mainGlobals "check_sizes" = some (some (.ref f2))) (l2 : K.lookup f2 = some ⟨oc2, od2, .func (PySem.W.fnOf "check_sizes" "check_sizes" (defArgs s_check_sizes) (defBody s_check_sizes) (defScope s_check_sizes) .none kV2 dc2 pm2 an2 cd2 ct2), sl2⟩)
    (c2 : PySem.W.codeIn K cd2 "check_sizes" = true) (k2 : PySem.W.keepIn K (.ref f2) = true)
    (a3 : PySem.W.nsIn K mainGlobals "number_of_cases" = some (some (.ref f3))) (l3 : K.lookup f3 = some ⟨oc3, od3, .func (PySem.W.fnOf "number_of_cases" "number_of_cases" (defArgs s_number_of_cases) (defBody s_number_of_cases) (defScope s_number_of_cases) .none kV3 dc3 pm3 an3 cd3 ct3), sl3⟩)
    (c3 : PySem.W.codeIn K cd3 "number_of_cases" = true) (k3 : PySem.W.keepIn K (.ref f3) = true)
    (a4 : PySem.W.nsIn K mainGlobals "is_small_sheet" = some (some (.ref f4))) (l4 : K.lookup f4 = some ⟨oc4, od4, .func (PySem.W.fnOf "is_small_sheet" "is_small_sheet" (defArgs s_is_small_sheet) (defBody s_is_small_sheet) (defScope s_is_small_sheet) .none kV4 dc4 pm4 an4 cd4 ct4), sl4⟩)
    (c4 : PySem.W.codeIn K cd4 "is_small_sheet" = true) (k4 : PySem.W.keepIn K (.ref f4) = true)
    (a5 : PySem.W.nsIn K mainGlobals "check_small" = some (some (.ref f5))) (l5 : K.lookup f5 = some ⟨oc5, od5, .func (PySem.W.fnOf "check_small" "check_small" (defArgs s_check_small) (defBody s_check_small) (defScope s_check_small) .none kV5 dc5 pm5 an5 cd5 ct5), sl5⟩)
    (c5 : PySem.W.codeIn K cd5 "check_small" = true) (k5 : PySem.W.keepIn K (.ref f5) = true)
    (a6 : PySem.W.nsIn K mainGlobals "inner_forms" = some (some (.ref f6))) (l6 : K.lookup f6 = some ⟨oc6, od6, .func (PySem.W.fnOf "inner_forms" "inner_forms" (defArgs s_inner_forms) (defBody s_inner_forms) (defScope s_inner_forms) .none kV6 dc6 pm6 an6 cd6 ct6), sl6⟩)
    (c6 : PySem.W.codeIn K cd6 "inner_forms" = true) (k6 : PySem.W.keepIn K (.ref f6) = true)
    (a7 : PySem.W.nsIn K mainGlobals "_is_tuple_of" = some (some (.ref f7))) (l7 : K.lookup f7 = some ⟨oc7, od7, .func (PySem.W.fnOf "_is_tuple_of" "_is_tuple_of" (defArgs s_p_is_tuple_of) (defBody s_p_is_tuple_of) (defScope s_p_is_tuple_of) .none kV7 dc7 pm7 an7 cd7 ct7), sl7⟩)
    (c7 : PySem.W.codeIn K cd7 "_is_tuple_of" = true) (k7 : PySem.W.keepIn K (.ref f7) = true)
    (a8 : PySem.W.nsIn K mainGlobals "_is_results" = some (some (.ref f8))) (l8 : K.lookup f8 = some ⟨oc8, od8, .func (PySem.W.fnOf "_is_results" "_is_results" (defArgs s_p_is_results) (defBody s_p_is_results) (defScope s_p_is_results) .none kV8 dc8 pm8 an8 cd8 ct8), sl8⟩)
    (c8 : PySem.W.codeIn K cd8 "_is_results" = true) (k8 : PySem.W.keepIn K (.ref f8) = true)
    (a9 : PySem.W.nsIn K mainGlobals "_is_short_form_outside" = some (some (.ref f9))) (l9 : K.lookup f9 = some ⟨oc9, od9, .func (PySem.W.fnOf "_is_short_form_outside" "_is_short_form_outside" (defArgs s_p_is_short_form_outside) (defBody s_p_is_short_form_outside) (defScope s_p_is_short_form_outside) .none kV9 dc9 pm9 an9 cd9 ct9), sl9⟩)
    (c9 : PySem.W.codeIn K cd9 "_is_short_form_outside" = true) (k9 : PySem.W.keepIn K (.ref f9) = true)
    (a10 : PySem.W.nsIn K mainGlobals "is_integer_below" = some (some (.ref f10))) (l10 : K.lookup f10 = some ⟨oc10, od10, .func (PySem.W.fnOf "is_integer_below" "is_integer_below" (defArgs s_is_integer_below) (defBody s_is_integer_below) (defScope s_is_integer_below) .none kV10 dc10 pm10 an10 cd10 ct10), sl10⟩)
    (c10 : PySem.W.codeIn K cd10 "is_integer_below" = true) (k10 : PySem.W.keepIn K (.ref f10) = true)
    (a11 : PySem.W.nsIn K mainGlobals "are_ascending_below" = some (some (.ref f11))) (l11 : K.lookup f11 = some ⟨oc11, od11, .func (PySem.W.fnOf "are_ascending_below" "are_ascending_below" (defArgs s_are_ascending_below) (defBody s_are_ascending_below) (defScope s_are_ascending_below) .none kV11 dc11 pm11 an11 cd11 ct11), sl11⟩)
    (c11 : PySem.W.codeIn K cd11 "are_ascending_below" = true) (k11 : PySem.W.keepIn K (.ref f11) = true)
    (a12 : PySem.W.nsIn K mainGlobals "_is_test" = some (some (.ref f12))) (l12 : K.lookup f12 = some ⟨oc12, od12, .func (PySem.W.fnOf "_is_test" "_is_test" (defArgs s_p_is_test) (defBody s_p_is_test) (defScope s_p_is_test) .none kV12 dc12 pm12 an12 cd12 ct12), sl12⟩)
    (c12 : PySem.W.codeIn K cd12 "_is_test" = true) (k12 : PySem.W.keepIn K (.ref f12) = true)
    (a13 : PySem.W.nsIn K mainGlobals "_is_condition" = some (some (.ref f13))) (l13 : K.lookup f13 = some ⟨oc13, od13, .func (PySem.W.fnOf "_is_condition" "_is_condition" (defArgs s_p_is_condition) (defBody s_p_is_condition) (defScope s_p_is_condition) .none kV13 dc13 pm13 an13 cd13 ct13), sl13⟩)
    (c13 : PySem.W.codeIn K cd13 "_is_condition" = true) (k13 : PySem.W.keepIn K (.ref f13) = true)
    (a14 : PySem.W.nsIn K mainGlobals "is_conditions" = some (some (.ref f14))) (l14 : K.lookup f14 = some ⟨oc14, od14, .func (PySem.W.fnOf "is_conditions" "is_conditions" (defArgs s_is_conditions) (defBody s_is_conditions) (defScope s_is_conditions) .none kV14 dc14 pm14 an14 cd14 ct14), sl14⟩)
    (c14 : PySem.W.codeIn K cd14 "is_conditions" = true) (k14 : PySem.W.keepIn K (.ref f14) = true)
    (a15 : PySem.W.nsIn K mainGlobals "_is_rule" = some (some (.ref f15))) (l15 : K.lookup f15 = some ⟨oc15, od15, .func (PySem.W.fnOf "_is_rule" "_is_rule" (defArgs s_p_is_rule) (defBody s_p_is_rule) (defScope s_p_is_rule) .none kV15 dc15 pm15 an15 cd15 ct15), sl15⟩)
    (c15 : PySem.W.codeIn K cd15 "_is_rule" = true) (k15 : PySem.W.keepIn K (.ref f15) = true)
    (a16 : PySem.W.nsIn K mainGlobals "_is_rules" = some (some (.ref f16))) (l16 : K.lookup f16 = some ⟨oc16, od16, .func (PySem.W.fnOf "_is_rules" "_is_rules" (defArgs s_p_is_rules) (defBody s_p_is_rules) (defScope s_p_is_rules) .none kV16 dc16 pm16 an16 cd16 ct16), sl16⟩)
    (c16 : PySem.W.codeIn K cd16 "_is_rules" = true) (k16 : PySem.W.keepIn K (.ref f16) = true)
    (a17 : PySem.W.nsIn K mainGlobals "_are_integers" = some (some (.ref f17))) (l17 : K.lookup f17 = some ⟨oc17, od17, .func (PySem.W.fnOf "_are_integers" "_are_integers" (defArgs s_p_are_integers) (defBody s_p_are_integers) (defScope s_p_are_integers) .none kV17 dc17 pm17 an17 cd17 ct17), sl17⟩)
    (c17 : PySem.W.codeIn K cd17 "_are_integers" = true) (k17 : PySem.W.keepIn K (.ref f17) = true)
    (a18 : PySem.W.nsIn K mainGlobals "_is_weights" = some (some (.ref f18))) (l18 : K.lookup f18 = some ⟨oc18, od18, .func (PySem.W.fnOf "_is_weights" "_is_weights" (defArgs s_p_is_weights) (defBody s_p_is_weights) (defScope s_p_is_weights) .none kV18 dc18 pm18 an18 cd18 ct18), sl18⟩)
    (c18 : PySem.W.codeIn K cd18 "_is_weights" = true) (k18 : PySem.W.keepIn K (.ref f18) = true)
    (a19 : PySem.W.nsIn K mainGlobals "_is_long_form_outside" = some (some (.ref f19))) (l19 : K.lookup f19 = some ⟨oc19, od19, .func (PySem.W.fnOf "_is_long_form_outside" "_is_long_form_outside" (defArgs s_p_is_long_form_outside) (defBody s_p_is_long_form_outside) (defScope s_p_is_long_form_outside) .none kV19 dc19 pm19 an19 cd19 ct19), sl19⟩)
    (c19 : PySem.W.codeIn K cd19 "_is_long_form_outside" = true) (k19 : PySem.W.keepIn K (.ref f19) = true)
    (a20 : PySem.W.nsIn K mainGlobals "_is_form_outside" = some (some (.ref f20))) (l20 : K.lookup f20 = some ⟨oc20, od20, .func (PySem.W.fnOf "_is_form_outside" "_is_form_outside" (defArgs s_p_is_form_outside) (defBody s_p_is_form_outside) (defScope s_p_is_form_outside) .none kV20 dc20 pm20 an20 cd20 ct20), sl20⟩)
    (c20 : PySem.W.codeIn K cd20 "_is_form_outside" = true) (k20 : PySem.W.keepIn K (.ref f20) = true)
    (a21 : PySem.W.nsIn K mainGlobals "has_form_shape" = some (some (.ref f21))) (l21 : K.lookup f21 = some ⟨oc21, od21, .func (PySem.W.fnOf "has_form_shape" "has_form_shape" (defArgs s_has_form_shape) (defBody s_has_form_shape) (defScope s_has_form_shape) .none kV21 dc21 pm21 an21 cd21 ct21), sl21⟩)
    (c21 : PySem.W.codeIn K cd21 "has_form_shape" = true) (k21 : PySem.W.keepIn K (.ref f21) = true)
    (a22 : PySem.W.nsIn K mainGlobals "check_form" = some (some (.ref f22))) (l22 : K.lookup f22 = some ⟨oc22, od22, .func (PySem.W.fnOf "check_form" "check_form" (defArgs s_check_form) (defBody s_check_form) (defScope s_check_form) .none kV22 dc22 pm22 an22 cd22 ct22), sl22⟩)
    (c22 : PySem.W.codeIn K cd22 "check_form" = true) (k22 : PySem.W.keepIn K (.ref f22) = true)
    (a23 : PySem.W.nsIn K mainGlobals "check_small_form" = some (some (.ref f23))) (l23 : K.lookup f23 = some ⟨oc23, od23, .func (PySem.W.fnOf "check_small_form" "check_small_form" (defArgs s_check_small_form) (defBody s_check_small_form) (defScope s_check_small_form) .none kV23 dc23 pm23 an23 cd23 ct23), sl23⟩)
    (c23 : PySem.W.codeIn K cd23 "check_small_form" = true) (k23 : PySem.W.keepIn K (.ref f23) = true)
    (a24 : PySem.W.nsIn K mainGlobals "unknown_fields" = some (some (.ref f24))) (l24 : K.lookup f24 = some ⟨oc24, od24, .func (PySem.W.fnOf "unknown_fields" "unknown_fields" (defArgs s_unknown_fields) (defBody s_unknown_fields) (defScope s_unknown_fields) .none kV24 dc24 pm24 an24 cd24 ct24), sl24⟩)
    (c24 : PySem.W.codeIn K cd24 "unknown_fields" = true) (k24 : PySem.W.keepIn K (.ref f24) = true)
    (a25 : PySem.W.nsIn K mainGlobals "list_completing" = some (some (.ref f25))) (l25 : K.lookup f25 = some ⟨oc25, od25, .func (PySem.W.fnOf "list_completing" "list_completing" (defArgs s_list_completing) (defBody s_list_completing) (defScope s_list_completing) .none kV25 dc25 pm25 an25 cd25 ct25), sl25⟩)
    (c25 : PySem.W.codeIn K cd25 "list_completing" = true) (k25 : PySem.W.keepIn K (.ref f25) = true)
    (a26 : PySem.W.nsIn K mainGlobals "_join_answers" = some (some (.ref f26))) (l26 : K.lookup f26 = some ⟨oc26, od26, .func (PySem.W.fnOf "_join_answers" "_join_answers" (defArgs s_p_join_answers) (defBody s_p_join_answers) (defScope s_p_join_answers) .none kV26 dc26 pm26 an26 cd26 ct26), sl26⟩)
    (c26 : PySem.W.codeIn K cd26 "_join_answers" = true) (k26 : PySem.W.keepIn K (.ref f26) = true)
    (a27 : PySem.W.nsIn K mainGlobals "place_of_case" = some (some (.ref f27))) (l27 : K.lookup f27 = some ⟨oc27, od27, .func (PySem.W.fnOf "place_of_case" "place_of_case" (defArgs s_place_of_case) (defBody s_place_of_case) (defScope s_place_of_case) .none kV27 dc27 pm27 an27 cd27 ct27), sl27⟩)
    (c27 : PySem.W.codeIn K cd27 "place_of_case" = true) (k27 : PySem.W.keepIn K (.ref f27) = true)
    (a28 : PySem.W.nsIn K mainGlobals "sum_of_weights" = some (some (.ref f28))) (l28 : K.lookup f28 = some ⟨oc28, od28, .func (PySem.W.fnOf "sum_of_weights" "sum_of_weights" (defArgs s_sum_of_weights) (defBody s_sum_of_weights) (defScope s_sum_of_weights) .none kV28 dc28 pm28 an28 cd28 ct28), sl28⟩)
    (c28 : PySem.W.codeIn K cd28 "sum_of_weights" = true) (k28 : PySem.W.keepIn K (.ref f28) = true)
    (a29 : PySem.W.nsIn K mainGlobals "fits" = some (some (.ref f29))) (l29 : K.lookup f29 = some ⟨oc29, od29, .func (PySem.W.fnOf "fits" "fits" (defArgs s_fits) (defBody s_fits) (defScope s_fits) .none kV29 dc29 pm29 an29 cd29 ct29), sl29⟩)
    (c29 : PySem.W.codeIn K cd29 "fits" = true) (k29 : PySem.W.keepIn K (.ref f29) = true)
    (a30 : PySem.W.nsIn K mainGlobals "_first_result" = some (some (.ref f30))) (l30 : K.lookup f30 = some ⟨oc30, od30, .func (PySem.W.fnOf "_first_result" "_first_result" (defArgs s_p_first_result) (defBody s_p_first_result) (defScope s_p_first_result) .none kV30 dc30 pm30 an30 cd30 ct30), sl30⟩)
    (c30 : PySem.W.codeIn K cd30 "_first_result" = true) (k30 : PySem.W.keepIn K (.ref f30) = true)
    (a31 : PySem.W.nsIn K mainGlobals "_says_alone" = some (some (.ref f31))) (l31 : K.lookup f31 = some ⟨oc31, od31, .func (PySem.W.fnOf "_says_alone" "_says_alone" (defArgs s_p_says_alone) (defBody s_p_says_alone) (defScope s_p_says_alone) .none kV31 dc31 pm31 an31 cd31 ct31), sl31⟩)
    (c31 : PySem.W.codeIn K cd31 "_says_alone" = true) (k31 : PySem.W.keepIn K (.ref f31) = true)
    (a32 : PySem.W.nsIn K mainGlobals "says" = some (some (.ref f32))) (l32 : K.lookup f32 = some ⟨oc32, od32, .func (PySem.W.fnOf "says" "says" (defArgs s_says) (defBody s_says) (defScope s_says) .none kV32 dc32 pm32 an32 cd32 ct32), sl32⟩)
    (c32 : PySem.W.codeIn K cd32 "says" = true) (k32 : PySem.W.keepIn K (.ref f32) = true)
    (a33 : PySem.W.nsIn K mainGlobals "answers_completing" = some (some (.ref f33))) (l33 : K.lookup f33 = some ⟨oc33, od33, .func (PySem.W.fnOf "answers_completing" "answers_completing" (defArgs s_answers_completing) (defBody s_answers_completing) (defScope s_answers_completing) .none kV33 dc33 pm33 an33 cd33 ct33), sl33⟩)
    (c33 : PySem.W.codeIn K cd33 "answers_completing" = true) (k33 : PySem.W.keepIn K (.ref f33) = true)
    (a34 : PySem.W.nsIn K mainGlobals "tested" = some (some (.ref f34))) (l34 : K.lookup f34 = some ⟨oc34, od34, .func (PySem.W.fnOf "tested" "tested" (defArgs s_tested) (defBody s_tested) (defScope s_tested) .none kV34 dc34 pm34 an34 cd34 ct34), sl34⟩)
    (c34 : PySem.W.codeIn K cd34 "tested" = true) (k34 : PySem.W.keepIn K (.ref f34) = true)
    (a35 : PySem.W.nsIn K mainGlobals "ordered_tree_completing" = some (some (.ref f35))) (l35 : K.lookup f35 = some ⟨oc35, od35, .func (PySem.W.fnOf "ordered_tree_completing" "ordered_tree_completing" (defArgs s_ordered_tree_completing) (defBody s_ordered_tree_completing) (defScope s_ordered_tree_completing) .none kV35 dc35 pm35 an35 cd35 ct35), sl35⟩)
    (c35 : PySem.W.codeIn K cd35 "ordered_tree_completing" = true) (k35 : PySem.W.keepIn K (.ref f35) = true)
    (a36 : PySem.W.nsIn K mainGlobals "ordered_tree" = some (some (.ref f36))) (l36 : K.lookup f36 = some ⟨oc36, od36, .func (PySem.W.fnOf "ordered_tree" "ordered_tree" (defArgs s_ordered_tree) (defBody s_ordered_tree) (defScope s_ordered_tree) .none kV36 dc36 pm36 an36 cd36 ct36), sl36⟩)
    (c36 : PySem.W.codeIn K cd36 "ordered_tree" = true) (k36 : PySem.W.keepIn K (.ref f36) = true)
    (a37 : PySem.W.nsIn K mainGlobals "_law_cell" = some (some (.ref f37))) (l37 : K.lookup f37 = some ⟨oc37, od37, .func (PySem.W.fnOf "_law_cell" "_law_cell" (defArgs s_law_cell_98eb9) (defBody s_law_cell_98eb9) (defScope s_law_cell_98eb9) .none kV37 dc37 pm37 an37 cd37 ct37), sl37⟩)
    (c37 : PySem.W.codeIn K cd37 "_law_cell" = true) (k37 : PySem.W.keepIn K (.ref f37) = true)
    (a38 : PySem.W.nsIn K mainGlobals "_law_draw" = some (some (.ref f38))) (l38 : K.lookup f38 = some ⟨oc38, od38, .func (PySem.W.fnOf "_law_draw" "_law_draw" (defArgs s_law_draw_48e0b) (defBody s_law_draw_48e0b) (defScope s_law_draw_48e0b) .none kV38 dc38 pm38 an38 cd38 ct38), sl38⟩)
    (c38 : PySem.W.codeIn K cd38 "_law_draw" = true) (k38 : PySem.W.keepIn K (.ref f38) = true)
    (a39 : PySem.W.nsIn K mainGlobals "_law_sizes" = some (some (.ref f39))) (l39 : K.lookup f39 = some ⟨oc39, od39, .func (PySem.W.fnOf "_law_sizes" "_law_sizes" (defArgs s_law_sizes_48d55) (defBody s_law_sizes_48d55) (defScope s_law_sizes_48d55) .none kV39 dc39 pm39 an39 cd39 ct39), sl39⟩)
    (c39 : PySem.W.codeIn K cd39 "_law_sizes" = true) (k39 : PySem.W.keepIn K (.ref f39) = true)
    (a40 : PySem.W.nsIn K mainGlobals "_law_cases" = some (some (.ref f40))) (l40 : K.lookup f40 = some ⟨oc40, od40, .func (PySem.W.fnOf "_law_cases" "_law_cases" (defArgs s_law_cases_72b18) (defBody s_law_cases_72b18) (defScope s_law_cases_72b18) .none kV40 dc40 pm40 an40 cd40 ct40), sl40⟩)
    (c40 : PySem.W.codeIn K cd40 "_law_cases" = true) (k40 : PySem.W.keepIn K (.ref f40) = true)
    (a41 : PySem.W.nsIn K mainGlobals "_law_values" = some (some (.ref f41))) (l41 : K.lookup f41 = some ⟨oc41, od41, .func (PySem.W.fnOf "_law_values" "_law_values" (defArgs s_law_values_1b941) (defBody s_law_values_1b941) (defScope s_law_values_1b941) .none kV41 dc41 pm41 an41 cd41 ct41), sl41⟩)
    (c41 : PySem.W.codeIn K cd41 "_law_values" = true) (k41 : PySem.W.keepIn K (.ref f41) = true)
    (a42 : PySem.W.nsIn K mainGlobals "_law_conditions" = some (some (.ref f42))) (l42 : K.lookup f42 = some ⟨oc42, od42, .func (PySem.W.fnOf "_law_conditions" "_law_conditions" (defArgs s_law_conditions_05f1f) (defBody s_law_conditions_05f1f) (defScope s_law_conditions_05f1f) .none kV42 dc42 pm42 an42 cd42 ct42), sl42⟩)
    (c42 : PySem.W.codeIn K cd42 "_law_conditions" = true) (k42 : PySem.W.keepIn K (.ref f42) = true)
    (a43 : PySem.W.nsIn K mainGlobals "_law_card" = some (some (.ref f43))) (l43 : K.lookup f43 = some ⟨oc43, od43, .func (PySem.W.fnOf "_law_card" "_law_card" (defArgs s_law_card_4ab7e) (defBody s_law_card_4ab7e) (defScope s_law_card_4ab7e) .none kV43 dc43 pm43 an43 cd43 ct43), sl43⟩)
    (c43 : PySem.W.codeIn K cd43 "_law_card" = true) (k43 : PySem.W.keepIn K (.ref f43) = true)
    (a44 : PySem.W.nsIn K mainGlobals "_law_leaf" = some (some (.ref f44))) (l44 : K.lookup f44 = some ⟨oc44, od44, .func (PySem.W.fnOf "_law_leaf" "_law_leaf" (defArgs s_law_leaf_52ac9) (defBody s_law_leaf_52ac9) (defScope s_law_leaf_52ac9) .none kV44 dc44 pm44 an44 cd44 ct44), sl44⟩)
    (c44 : PySem.W.codeIn K cd44 "_law_leaf" = true) (k44 : PySem.W.keepIn K (.ref f44) = true)
    (a45 : PySem.W.nsIn K mainGlobals "_law_part" = some (some (.ref f45))) (l45 : K.lookup f45 = some ⟨oc45, od45, .func (PySem.W.fnOf "_law_part" "_law_part" (defArgs s_law_part_518aa) (defBody s_law_part_518aa) (defScope s_law_part_518aa) .none kV45 dc45 pm45 an45 cd45 ct45), sl45⟩)
    (c45 : PySem.W.codeIn K cd45 "_law_part" = true) (k45 : PySem.W.keepIn K (.ref f45) = true)
    (a46 : PySem.W.nsIn K mainGlobals "_law_form" = some (some (.ref f46))) (l46 : K.lookup f46 = some ⟨oc46, od46, .func (PySem.W.fnOf "_law_form" "_law_form" (defArgs s_law_form_06328) (defBody s_law_form_06328) (defScope s_law_form_06328) .none kV46 dc46 pm46 an46 cd46 ct46), sl46⟩)
    (c46 : PySem.W.codeIn K cd46 "_law_form" = true) (k46 : PySem.W.keepIn K (.ref f46) = true)
    (a47 : PySem.W.nsIn K mainGlobals "_law_said" = some (some (.ref f47))) (l47 : K.lookup f47 = some ⟨oc47, od47, .func (PySem.W.fnOf "_law_said" "_law_said" (defArgs s_law_said_e4d74) (defBody s_law_said_e4d74) (defScope s_law_said_e4d74) .none kV47 dc47 pm47 an47 cd47 ct47), sl47⟩)
    (c47 : PySem.W.codeIn K cd47 "_law_said" = true) (k47 : PySem.W.keepIn K (.ref f47) = true)
    (a48 : PySem.W.nsIn K mainGlobals "_law_table" = some (some (.ref f48))) (l48 : K.lookup f48 = some ⟨oc48, od48, .func (PySem.W.fnOf "_law_table" "_law_table" (defArgs s_law_table_6dbb7) (defBody s_law_table_6dbb7) (defScope s_law_table_6dbb7) .none kV48 dc48 pm48 an48 cd48 ct48), sl48⟩)
    (c48 : PySem.W.codeIn K cd48 "_law_table" = true) (k48 : PySem.W.keepIn K (.ref f48) = true)
    (a49 : PySem.W.nsIn K mainGlobals "_law_second" = some (some (.ref f49))) (l49 : K.lookup f49 = some ⟨oc49, od49, .func (PySem.W.fnOf "_law_second" "_law_second" (defArgs s_law_second_9359c) (defBody s_law_second_9359c) (defScope s_law_second_9359c) .none kV49 dc49 pm49 an49 cd49 ct49), sl49⟩)
    (c49 : PySem.W.codeIn K cd49 "_law_second" = true) (k49 : PySem.W.keepIn K (.ref f49) = true)
    (a50 : PySem.W.nsIn K mainGlobals "all_answers" = some (some (.ref f50))) (l50 : K.lookup f50 = some ⟨oc50, od50, .func (PySem.W.fnOf "all_answers" "all_answers" (defArgs s_all_answers) (defBody s_all_answers) (defScope s_all_answers) .none kV50 dc50 pm50 an50 cd50 ct50), sl50⟩)
    (c50 : PySem.W.codeIn K cd50 "all_answers" = true) (k50 : PySem.W.keepIn K (.ref f50) = true)
    (a51 : PySem.W.nsIn K mainGlobals "are_alike" = some (some (.ref f51))) (l51 : K.lookup f51 = some ⟨oc51, od51, .func (PySem.W.fnOf "are_alike" "are_alike" (defArgs s_are_alike) (defBody s_are_alike) (defScope s_are_alike) .none kV51 dc51 pm51 an51 cd51 ct51), sl51⟩)
    (c51 : PySem.W.codeIn K cd51 "are_alike" = true) (k51 : PySem.W.keepIn K (.ref f51) = true)
    (a52 : PySem.W.nsIn K mainGlobals "_check_both" = some (some (.ref f52))) (l52 : K.lookup f52 = some ⟨oc52, od52, .func (PySem.W.fnOf "_check_both" "_check_both" (defArgs s_p_check_both) (defBody s_p_check_both) (defScope s_p_check_both) .none kV52 dc52 pm52 an52 cd52 ct52), sl52⟩)
    (c52 : PySem.W.codeIn K cd52 "_check_both" = true) (k52 : PySem.W.keepIn K (.ref f52) = true)
    (a53 : PySem.W.nsIn K mainGlobals "alike" = some (some (.ref f53))) (l53 : K.lookup f53 = some ⟨oc53, od53, .func (PySem.W.fnOf "alike" "alike" (defArgs s_alike) (defBody s_alike) (defScope s_alike) .none kV53 dc53 pm53 an53 cd53 ct53), sl53⟩)
    (c53 : PySem.W.codeIn K cd53 "alike" = true) (k53 : PySem.W.keepIn K (.ref f53) = true)
    (a54 : PySem.W.nsIn K mainGlobals "is_within" = some (some (.ref f54))) (l54 : K.lookup f54 = some ⟨oc54, od54, .func (PySem.W.fnOf "is_within" "is_within" (defArgs s_is_within) (defBody s_is_within) (defScope s_is_within) .none kV54 dc54 pm54 an54 cd54 ct54), sl54⟩)
    (c54 : PySem.W.codeIn K cd54 "is_within" = true) (k54 : PySem.W.keepIn K (.ref f54) = true)
    (a55 : PySem.W.nsIn K mainGlobals "within" = some (some (.ref f55))) (l55 : K.lookup f55 = some ⟨oc55, od55, .func (PySem.W.fnOf "within" "within" (defArgs s_within) (defBody s_within) (defScope s_within) .none kV55 dc55 pm55 an55 cd55 ct55), sl55⟩)
    (c55 : PySem.W.codeIn K cd55 "within" = true) (k55 : PySem.W.keepIn K (.ref f55) = true)
    (a56 : PySem.W.nsIn K mainGlobals "case_of_place" = some (some (.ref f56))) (l56 : K.lookup f56 = some ⟨oc56, od56, .func (PySem.W.fnOf "case_of_place" "case_of_place" (defArgs s_case_of_place) (defBody s_case_of_place) (defScope s_case_of_place) .none kV56 dc56 pm56 an56 cd56 ct56), sl56⟩)
    (c56 : PySem.W.codeIn K cd56 "case_of_place" = true) (k56 : PySem.W.keepIn K (.ref f56) = true)
    (a57 : PySem.W.nsIn K mainGlobals "_parted_places" = some (some (.ref f57))) (l57 : K.lookup f57 = some ⟨oc57, od57, .func (PySem.W.fnOf "_parted_places" "_parted_places" (defArgs s_p_parted_places) (defBody s_p_parted_places) (defScope s_p_parted_places) .none kV57 dc57 pm57 an57 cd57 ct57), sl57⟩)
    (c57 : PySem.W.codeIn K cd57 "_parted_places" = true) (k57 : PySem.W.keepIn K (.ref f57) = true)
    (a58 : PySem.W.nsIn K mainGlobals "parting_case" = some (some (.ref f58))) (l58 : K.lookup f58 = some ⟨oc58, od58, .func (PySem.W.fnOf "parting_case" "parting_case" (defArgs s_parting_case) (defBody s_parting_case) (defScope s_parting_case) .none kV58 dc58 pm58 an58 cd58 ct58), sl58⟩)
    (c58 : PySem.W.codeIn K cd58 "parting_case" = true) (k58 : PySem.W.keepIn K (.ref f58) = true)
    (a59 : PySem.W.nsIn K mainGlobals "case_of_place" = some (some (.ref f59))) (l59 : K.lookup f59 = some ⟨oc59, od59, .func (PySem.W.fnOf "case_of_place" "case_of_place" (defArgs s_case_of_place) (defBody s_case_of_place) (defScope s_case_of_place) .none kV59 dc59 pm59 an59 cd59 ct59), sl59⟩)
    (c59 : PySem.W.codeIn K cd59 "case_of_place" = true) (k59 : PySem.W.keepIn K (.ref f59) = true)
    (a60 : PySem.W.nsIn K mainGlobals "parting_case" = some (some (.ref f60))) (l60 : K.lookup f60 = some ⟨oc60, od60, .func (PySem.W.fnOf "parting_case" "parting_case" (defArgs s_parting_case) (defBody s_parting_case) (defScope s_parting_case) .none kV60 dc60 pm60 an60 cd60 ct60), sl60⟩)
    (c60 : PySem.W.codeIn K cd60 "parting_case" = true) (k60 : PySem.W.keepIn K (.ref f60) = true)
    (a61 : PySem.W.nsIn K mainGlobals "count_parted" = some (some (.ref f61))) (l61 : K.lookup f61 = some ⟨oc61, od61, .func (PySem.W.fnOf "count_parted" "count_parted" (defArgs s_count_parted) (defBody s_count_parted) (defScope s_count_parted) .none kV61 dc61 pm61 an61 cd61 ct61), sl61⟩)
    (c61 : PySem.W.codeIn K cd61 "count_parted" = true) (k61 : PySem.W.keepIn K (.ref f61) = true)
    (a62 : PySem.W.nsIn K mainGlobals "_law_integer" = some (some (.ref f62))) (l62 : K.lookup f62 = some ⟨oc62, od62, .func (PySem.W.fnOf "_law_integer" "_law_integer" (defArgs s_law_integer_55dc8) (defBody s_law_integer_55dc8) (defScope s_law_integer_55dc8) .none kV62 dc62 pm62 an62 cd62 ct62), sl62⟩)
    (c62 : PySem.W.codeIn K cd62 "_law_integer" = true) (k62 : PySem.W.keepIn K (.ref f62) = true)
    (a63 : PySem.W.nsIn K mainGlobals "_law_case_is" = some (some (.ref f63))) (l63 : K.lookup f63 = some ⟨oc63, od63, .func (PySem.W.fnOf "_law_case_is" "_law_case_is" (defArgs s_law_case_is_da430) (defBody s_law_case_is_da430) (defScope s_law_case_is_da430) .none kV63 dc63 pm63 an63 cd63 ct63), sl63⟩)
    (c63 : PySem.W.codeIn K cd63 "_law_case_is" = true) (k63 : PySem.W.keepIn K (.ref f63) = true)
    (a64 : PySem.W.nsIn K mainGlobals "_law_truth" = some (some (.ref f64))) (l64 : K.lookup f64 = some ⟨oc64, od64, .func (PySem.W.fnOf "_law_truth" "_law_truth" (defArgs s_law_truth_badf5) (defBody s_law_truth_badf5) (defScope s_law_truth_badf5) .none kV64 dc64 pm64 an64 cd64 ct64), sl64⟩)
    (c64 : PySem.W.codeIn K cd64 "_law_truth" = true) (k64 : PySem.W.keepIn K (.ref f64) = true)
    (a65 : PySem.W.nsIn K mainGlobals "_law_asked" = some (some (.ref f65))) (l65 : K.lookup f65 = some ⟨oc65, od65, .func (PySem.W.fnOf "_law_asked" "_law_asked" (defArgs s_law_asked_5fd05) (defBody s_law_asked_5fd05) (defScope s_law_asked_5fd05) .none kV65 dc65 pm65 an65 cd65 ct65), sl65⟩)
    (c65 : PySem.W.codeIn K cd65 "_law_asked" = true) (k65 : PySem.W.keepIn K (.ref f65) = true)
    (a66 : PySem.W.nsIn K mainGlobals "law" = some (some (.ref f66))) (l66 : K.lookup f66 = some ⟨oc66, od66, .func (PySem.W.fnOf "law" "law" (defArgs s_law_k61) (defBody s_law_k61) (defScope s_law_k61) .none kV66 dc66 pm66 an66 cd66 ct66), sl66⟩)
    (c66 : PySem.W.codeIn K cd66 "law" = true) (k66 : PySem.W.keepIn K (.ref f66) = true)
    (n0 : PySem.W.nsIn K mainGlobals "GREATEST_SIZE" = some (some (.int 6 t0)))
    (n1 : PySem.W.nsIn K mainGlobals "LEAST_SIZE" = some (some (.int 2 t1)))
    (n2 : PySem.W.nsIn K mainGlobals "MOST_CASES_OF_SMALL" = some (some (.int 1024 t2)))
    (n3 : PySem.W.nsIn K mainGlobals "MOST_FIELDS" = some (some (.int 24 t3)))
    (aj0 : PySem.W.nsIn K mainGlobals "JOINING_WORDS" = some (some (.ref tj0))) (lj0 : K.lookup tj0 = some ⟨.type "tuple", odj0, .seq #[.str "and" u0_0, .str "or" u0_1, .str "odd" u0_2] nj0, slj0⟩)
    (z0 : PySem.W.nsIn K mainGlobals "all" = some none)
    (z1 : PySem.W.nsIn K mainGlobals "bool" = some none)
    (z2 : PySem.W.nsIn K mainGlobals "int" = some none)
    (z3 : PySem.W.nsIn K mainGlobals "isinstance" = some none)
    (z4 : PySem.W.nsIn K mainGlobals "len" = some none)
    (z5 : PySem.W.nsIn K mainGlobals "list" = some none)
    (z6 : PySem.W.nsIn K mainGlobals "range" = some none)
    (z7 : PySem.W.nsIn K mainGlobals "reversed" = some none)
    (z8 : PySem.W.nsIn K mainGlobals "str" = some none)
    (z9 : PySem.W.nsIn K mainGlobals "sum" = some none)
    (z10 : PySem.W.nsIn K mainGlobals "tuple" = some none)
    : ∃ fd : FuncData, (∀ (s : Shared) (v : Value), BindsTo s fd ⟨[v], []⟩ [("script", v)]) ∧ ∀ base : Heap, K.In base → base.Ns mainGlobals mg → Lk.FnG l.prog w K mg base CX0 69 fa fd ["script"] (spLaw K g_law_k61) := by
  have e := hfa.symm.trans (PySem.W.mg_of X G a66)
  cases e
  have F0 := fun_mk (st := s_is_integer) l0 c0 k0
  have g0 := PySem.W.mg_of X G a0
  have b0 := F0.binds (ps := ["value"]) fun _ _ _ _ _ _ us hl => match us, hl with | [_], _ => rfl
  have F1 := fun_mk (st := s_is_sizes) l1 c1 k1
  have g1 := PySem.W.mg_of X G a1
  have b1 := F1.binds (ps := ["value"]) fun _ _ _ _ _ _ us hl => match us, hl with | [_], _ => rfl
  have F2 := fun_mk (st := s_check_sizes) l2 c2 k2
  have g2 := PySem.W.mg_of X G a2
  have b2 := F2.binds (ps := ["sizes"]) fun _ _ _ _ _ _ us hl => match us, hl with | [_], _ => rfl
  have F3 := fun_mk (st := s_number_of_cases) l3 c3 k3
  have g3 := PySem.W.mg_of X G a3
  have b3 := F3.binds (ps := ["sizes"]) fun _ _ _ _ _ _ us hl => match us, hl with | [_], _ => rfl
  have F4 := fun_mk (st := s_is_small_sheet) l4 c4 k4
  have g4 := PySem.W.mg_of X G a4
  have b4 := F4.binds (ps := ["sizes"]) fun _ _ _ _ _ _ us hl => match us, hl with | [_], _ => rfl
  have F5 := fun_mk (st := s_check_small) l5 c5 k5
  have g5 := PySem.W.mg_of X G a5
  have b5 := F5.binds (ps := ["sizes"]) fun _ _ _ _ _ _ us hl => match us, hl with | [_], _ => rfl
  have F6 := fun_mk (st := s_inner_forms) l6 c6 k6
  have g6 := PySem.W.mg_of X G a6
  have b6 := F6.binds (ps := ["form"]) fun _ _ _ _ _ _ us hl => match us, hl with | [_], _ => rfl
  have F7 := fun_mk (st := s_p_is_tuple_of) l7 c7 k7
  have g7 := PySem.W.mg_of X G a7
  have b7 := F7.binds (ps := ["value", "length"]) fun _ _ _ _ _ _ us hl => match us, hl with | [_, _], _ => rfl
  have F8 := fun_mk (st := s_p_is_results) l8 c8 k8
  have g8 := PySem.W.mg_of X G a8
  have b8 := F8.binds (ps := ["sizes", "value"]) fun _ _ _ _ _ _ us hl => match us, hl with | [_, _], _ => rfl
  have F9 := fun_mk (st := s_p_is_short_form_outside) l9 c9 k9
  have g9 := PySem.W.mg_of X G a9
  have b9 := F9.binds (ps := ["sizes", "word", "part"]) fun _ _ _ _ _ _ us hl => match us, hl with | [_, _, _], _ => rfl
  have F10 := fun_mk (st := s_is_integer_below) l10 c10 k10
  have g10 := PySem.W.mg_of X G a10
  have b10 := F10.binds (ps := ["value", "limit"]) fun _ _ _ _ _ _ us hl => match us, hl with | [_, _], _ => rfl
  have F11 := fun_mk (st := s_are_ascending_below) l11 c11 k11
  have g11 := PySem.W.mg_of X G a11
  have b11 := F11.binds (ps := ["values", "limit"]) fun _ _ _ _ _ _ us hl => match us, hl with | [_, _], _ => rfl
  have F12 := fun_mk (st := s_p_is_test) l12 c12 k12
  have g12 := PySem.W.mg_of X G a12
  have b12 := F12.binds (ps := ["sizes", "field", "values"]) fun _ _ _ _ _ _ us hl => match us, hl with | [_, _, _], _ => rfl
  have F13 := fun_mk (st := s_p_is_condition) l13 c13 k13
  have g13 := PySem.W.mg_of X G a13
  have b13 := F13.binds (ps := ["sizes", "value"]) fun _ _ _ _ _ _ us hl => match us, hl with | [_, _], _ => rfl
  have F14 := fun_mk (st := s_is_conditions) l14 c14 k14
  have g14 := PySem.W.mg_of X G a14
  have b14 := F14.binds (ps := ["sizes", "value"]) fun _ _ _ _ _ _ us hl => match us, hl with | [_, _], _ => rfl
  have F15 := fun_mk (st := s_p_is_rule) l15 c15 k15
  have g15 := PySem.W.mg_of X G a15
  have b15 := F15.binds (ps := ["sizes", "value"]) fun _ _ _ _ _ _ us hl => match us, hl with | [_, _], _ => rfl
  have F16 := fun_mk (st := s_p_is_rules) l16 c16 k16
  have g16 := PySem.W.mg_of X G a16
  have b16 := F16.binds (ps := ["sizes", "value"]) fun _ _ _ _ _ _ us hl => match us, hl with | [_, _], _ => rfl
  have F17 := fun_mk (st := s_p_are_integers) l17 c17 k17
  have g17 := PySem.W.mg_of X G a17
  have b17 := F17.binds (ps := ["values"]) fun _ _ _ _ _ _ us hl => match us, hl with | [_], _ => rfl
  have F18 := fun_mk (st := s_p_is_weights) l18 c18 k18
  have g18 := PySem.W.mg_of X G a18
  have b18 := F18.binds (ps := ["sizes", "value"]) fun _ _ _ _ _ _ us hl => match us, hl with | [_, _], _ => rfl
  have F19 := fun_mk (st := s_p_is_long_form_outside) l19 c19 k19
  have g19 := PySem.W.mg_of X G a19
  have b19 := F19.binds (ps := ["sizes", "word", "part", "second_part"]) fun _ _ _ _ _ _ us hl => match us, hl with | [_, _, _, _], _ => rfl
  have F20 := fun_mk (st := s_p_is_form_outside) l20 c20 k20
  have g20 := PySem.W.mg_of X G a20
  have b20 := F20.binds (ps := ["sizes", "value"]) fun _ _ _ _ _ _ us hl => match us, hl with | [_, _], _ => rfl
  have F21 := fun_mk (st := s_has_form_shape) l21 c21 k21
  have g21 := PySem.W.mg_of X G a21
  have b21 := F21.binds (ps := ["sizes", "value"]) fun _ _ _ _ _ _ us hl => match us, hl with | [_, _], _ => rfl
  have F22 := fun_mk (st := s_check_form) l22 c22 k22
  have g22 := PySem.W.mg_of X G a22
  have b22 := F22.binds (ps := ["sizes", "form"]) fun _ _ _ _ _ _ us hl => match us, hl with | [_, _], _ => rfl
  have F23 := fun_mk (st := s_check_small_form) l23 c23 k23
  have g23 := PySem.W.mg_of X G a23
  have b23 := F23.binds (ps := ["sizes", "form"]) fun _ _ _ _ _ _ us hl => match us, hl with | [_, _], _ => rfl
  have F24 := fun_mk (st := s_unknown_fields) l24 c24 k24
  have g24 := PySem.W.mg_of X G a24
  have b24 := F24.binds (ps := ["half"]) fun _ _ _ _ _ _ us hl => match us, hl with | [_], _ => rfl
  have F25 := fun_mk (st := s_list_completing) l25 c25 k25
  have g25 := PySem.W.mg_of X G a25
  have b25 := F25.binds (ps := ["sizes", "half"]) fun _ _ _ _ _ _ us hl => match us, hl with | [_, _], _ => rfl
  have F26 := fun_mk (st := s_p_join_answers) l26 c26 k26
  have g26 := PySem.W.mg_of X G a26
  have b26 := F26.binds (ps := ["word", "results"]) fun _ _ _ _ _ _ us hl => match us, hl with | [_, _], _ => rfl
  have F27 := fun_mk (st := s_place_of_case) l27 c27 k27
  have g27 := PySem.W.mg_of X G a27
  have b27 := F27.binds (ps := ["sizes", "case"]) fun _ _ _ _ _ _ us hl => match us, hl with | [_, _], _ => rfl
  have F28 := fun_mk (st := s_sum_of_weights) l28 c28 k28
  have g28 := PySem.W.mg_of X G a28
  have b28 := F28.binds (ps := ["weights", "case"]) fun _ _ _ _ _ _ us hl => match us, hl with | [_, _], _ => rfl
  have F29 := fun_mk (st := s_fits) l29 c29 k29
  have g29 := PySem.W.mg_of X G a29
  have b29 := F29.binds (ps := ["conditions", "case"]) fun _ _ _ _ _ _ us hl => match us, hl with | [_, _], _ => rfl
  have F30 := fun_mk (st := s_p_first_result) l30 c30 k30
  have g30 := PySem.W.mg_of X G a30
  have b30 := F30.binds (ps := ["rules", "last", "case"]) fun _ _ _ _ _ _ us hl => match us, hl with | [_, _, _], _ => rfl
  have F31 := fun_mk (st := s_p_says_alone) l31 c31 k31
  have g31 := PySem.W.mg_of X G a31
  have b31 := F31.binds (ps := ["sizes", "form", "case"]) fun _ _ _ _ _ _ us hl => match us, hl with | [_, _, _], _ => rfl
  have F32 := fun_mk (st := s_says) l32 c32 k32
  have g32 := PySem.W.mg_of X G a32
  have b32 := F32.binds (ps := ["sizes", "form", "case"]) fun _ _ _ _ _ _ us hl => match us, hl with | [_, _, _], _ => rfl
  have F33 := fun_mk (st := s_answers_completing) l33 c33 k33
  have g33 := PySem.W.mg_of X G a33
  have b33 := F33.binds (ps := ["sizes", "form", "half"]) fun _ _ _ _ _ _ us hl => match us, hl with | [_, _, _], _ => rfl
  have F34 := fun_mk (st := s_tested) l34 c34 k34
  have g34 := PySem.W.mg_of X G a34
  have b34 := F34.binds (ps := ["field", "branches"]) fun _ _ _ _ _ _ us hl => match us, hl with | [_, _], _ => rfl
  have F35 := fun_mk (st := s_ordered_tree_completing) l35 c35 k35
  have g35 := PySem.W.mg_of X G a35
  have b35 := F35.binds (ps := ["sizes", "form", "half"]) fun _ _ _ _ _ _ us hl => match us, hl with | [_, _, _], _ => rfl
  have F36 := fun_mk (st := s_ordered_tree) l36 c36 k36
  have g36 := PySem.W.mg_of X G a36
  have b36 := F36.binds (ps := ["sizes", "form"]) fun _ _ _ _ _ _ us hl => match us, hl with | [_, _], _ => rfl
  have F37 := fun_mk (st := s_law_cell_98eb9) l37 c37 k37
  have g37 := PySem.W.mg_of X G a37
  have b37 := F37.binds (ps := ["script", "k"]) fun _ _ _ _ _ _ us hl => match us, hl with | [_, _], _ => rfl
  have F38 := fun_mk (st := s_law_draw_48e0b) l38 c38 k38
  have g38 := PySem.W.mg_of X G a38
  have b38 := F38.binds (ps := ["cell", "k", "limit"]) fun _ _ _ _ _ _ us hl => match us, hl with | [_, _, _], _ => rfl
  have F39 := fun_mk (st := s_law_sizes_48d55) l39 c39 k39
  have g39 := PySem.W.mg_of X G a39
  have b39 := F39.binds (ps := ["cell", "more", "most"]) fun _ _ _ _ _ _ us hl => match us, hl with | [_, _, _], _ => rfl
  have F40 := fun_mk (st := s_law_cases_72b18) l40 c40 k40
  have g40 := PySem.W.mg_of X G a40
  have b40 := F40.binds (ps := ["sizes"]) fun _ _ _ _ _ _ us hl => match us, hl with | [_], _ => rfl
  have F41 := fun_mk (st := s_law_values_1b941) l41 c41 k41
  have g41 := PySem.W.mg_of X G a41
  have b41 := F41.binds (ps := ["cell", "k", "size"]) fun _ _ _ _ _ _ us hl => match us, hl with | [_, _, _], _ => rfl
  have F42 := fun_mk (st := s_law_conditions_05f1f) l42 c42 k42
  have g42 := PySem.W.mg_of X G a42
  have b42 := F42.binds (ps := ["sizes", "cell"]) fun _ _ _ _ _ _ us hl => match us, hl with | [_, _], _ => rfl
  have F43 := fun_mk (st := s_law_card_4ab7e) l43 c43 k43
  have g43 := PySem.W.mg_of X G a43
  have b43 := F43.binds (ps := ["sizes", "cell"]) fun _ _ _ _ _ _ us hl => match us, hl with | [_, _], _ => rfl
  have F44 := fun_mk (st := s_law_leaf_52ac9) l44 c44 k44
  have g44 := PySem.W.mg_of X G a44
  have b44 := F44.binds (ps := ["sizes", "cell"]) fun _ _ _ _ _ _ us hl => match us, hl with | [_, _], _ => rfl
  have F45 := fun_mk (st := s_law_part_518aa) l45 c45 k45
  have g45 := PySem.W.mg_of X G a45
  have b45 := F45.binds (ps := ["sizes", "cell"]) fun _ _ _ _ _ _ us hl => match us, hl with | [_, _], _ => rfl
  have F46 := fun_mk (st := s_law_form_06328) l46 c46 k46
  have g46 := PySem.W.mg_of X G a46
  have b46 := F46.binds (ps := ["sizes", "cells"]) fun _ _ _ _ _ _ us hl => match us, hl with | [_, _], _ => rfl
  have F47 := fun_mk (st := s_law_said_e4d74) l47 c47 k47
  have g47 := PySem.W.mg_of X G a47
  have b47 := F47.binds (ps := ["sizes", "form", "case"]) fun _ _ _ _ _ _ us hl => match us, hl with | [_, _, _], _ => rfl
  have F48 := fun_mk (st := s_law_table_6dbb7) l48 c48 k48
  have g48 := PySem.W.mg_of X G a48
  have b48 := F48.binds (ps := ["sizes", "results"]) fun _ _ _ _ _ _ us hl => match us, hl with | [_, _], _ => rfl
  have F49 := fun_mk (st := s_law_second_9359c) l49 c49 k49
  have g49 := PySem.W.mg_of X G a49
  have b49 := F49.binds (ps := ["sizes", "form", "results", "cells"]) fun _ _ _ _ _ _ us hl => match us, hl with | [_, _, _, _], _ => rfl
  have F50 := fun_mk (st := s_all_answers) l50 c50 k50
  have g50 := PySem.W.mg_of X G a50
  have b50 := F50.binds (ps := ["sizes", "form"]) fun _ _ _ _ _ _ us hl => match us, hl with | [_, _], _ => rfl
  have F51 := fun_mk (st := s_are_alike) l51 c51 k51
  have g51 := PySem.W.mg_of X G a51
  have b51 := F51.binds (ps := ["sizes", "one", "other"]) fun _ _ _ _ _ _ us hl => match us, hl with | [_, _, _], _ => rfl
  have F52 := fun_mk (st := s_p_check_both) l52 c52 k52
  have g52 := PySem.W.mg_of X G a52
  have b52 := F52.binds (ps := ["sizes", "one", "other"]) fun _ _ _ _ _ _ us hl => match us, hl with | [_, _, _], _ => rfl
  have F53 := fun_mk (st := s_alike) l53 c53 k53
  have g53 := PySem.W.mg_of X G a53
  have b53 := F53.binds (ps := ["sizes", "one", "other"]) fun _ _ _ _ _ _ us hl => match us, hl with | [_, _, _], _ => rfl
  have F54 := fun_mk (st := s_is_within) l54 c54 k54
  have g54 := PySem.W.mg_of X G a54
  have b54 := F54.binds (ps := ["sizes", "one", "other"]) fun _ _ _ _ _ _ us hl => match us, hl with | [_, _, _], _ => rfl
  have F55 := fun_mk (st := s_within) l55 c55 k55
  have g55 := PySem.W.mg_of X G a55
  have b55 := F55.binds (ps := ["sizes", "one", "other"]) fun _ _ _ _ _ _ us hl => match us, hl with | [_, _, _], _ => rfl
  have F56 := fun_mk (st := s_case_of_place) l56 c56 k56
  have g56 := PySem.W.mg_of X G a56
  have b56 := F56.binds (ps := ["sizes", "place"]) fun _ _ _ _ _ _ us hl => match us, hl with | [_, _], _ => rfl
  have F57 := fun_mk (st := s_p_parted_places) l57 c57 k57
  have g57 := PySem.W.mg_of X G a57
  have b57 := F57.binds (ps := ["sizes", "one", "other"]) fun _ _ _ _ _ _ us hl => match us, hl with | [_, _, _], _ => rfl
  have F58 := fun_mk (st := s_parting_case) l58 c58 k58
  have g58 := PySem.W.mg_of X G a58
  have b58 := F58.binds (ps := ["sizes", "one", "other"]) fun _ _ _ _ _ _ us hl => match us, hl with | [_, _, _], _ => rfl
  have F59 := fun_mk (st := s_case_of_place) l59 c59 k59
  have g59 := PySem.W.mg_of X G a59
  have b59 := F59.binds (ps := ["sizes", "place"]) fun _ _ _ _ _ _ us hl => match us, hl with | [_, _], _ => rfl
  have F60 := fun_mk (st := s_parting_case) l60 c60 k60
  have g60 := PySem.W.mg_of X G a60
  have b60 := F60.binds (ps := ["sizes", "one", "other"]) fun _ _ _ _ _ _ us hl => match us, hl with | [_, _, _], _ => rfl
  have F61 := fun_mk (st := s_count_parted) l61 c61 k61
  have g61 := PySem.W.mg_of X G a61
  have b61 := F61.binds (ps := ["sizes", "one", "other"]) fun _ _ _ _ _ _ us hl => match us, hl with | [_, _, _], _ => rfl
  have F62 := fun_mk (st := s_law_integer_55dc8) l62 c62 k62
  have g62 := PySem.W.mg_of X G a62
  have b62 := F62.binds (ps := ["found"]) fun _ _ _ _ _ _ us hl => match us, hl with | [_], _ => rfl
  have F63 := fun_mk (st := s_law_case_is_da430) l63 c63 k63
  have g63 := PySem.W.mg_of X G a63
  have b63 := F63.binds (ps := ["found", "due"]) fun _ _ _ _ _ _ us hl => match us, hl with | [_, _], _ => rfl
  have F64 := fun_mk (st := s_law_truth_badf5) l64 c64 k64
  have g64 := PySem.W.mg_of X G a64
  have b64 := F64.binds (ps := ["found", "due"]) fun _ _ _ _ _ _ us hl => match us, hl with | [_, _], _ => rfl
  have F65 := fun_mk (st := s_law_asked_5fd05) l65 c65 k65
  have g65 := PySem.W.mg_of X G a65
  have b65 := F65.binds (ps := ["sizes", "one", "other", "ours", "theirs", "cases", "word"]) fun _ _ _ _ _ _ us hl => match us, hl with | [_, _, _, _, _, _, _], _ => rfl
  have F66 := fun_mk (st := s_law_k61) l66 c66 k66
  have g66 := PySem.W.mg_of X G a66
  have m_GREATEST_SIZE : ∃ t, mg "GREATEST_SIZE" = some (.int 6 t) := ⟨_, PySem.W.mg_of X G n0⟩
  have m_LEAST_SIZE : ∃ t, mg "LEAST_SIZE" = some (.int 2 t) := ⟨_, PySem.W.mg_of X G n1⟩
  have m_MOST_CASES_OF_SMALL : ∃ t, mg "MOST_CASES_OF_SMALL" = some (.int 1024 t) := ⟨_, PySem.W.mg_of X G n2⟩
  have m_MOST_FIELDS : ∃ t, mg "MOST_FIELDS" = some (.int 24 t) := ⟨_, PySem.W.mg_of X G n3⟩
  have m_JOINING_WORDS : CTup K mg "JOINING_WORDS" c_JOINING_WORDS := ⟨tj0, PySem.W.mg_of X G aj0, fun H => Dq.tup (xs := [.str "and", .str "or", .str "odd"]) (.inr ⟨_, _, _, lj0, rfl, rfl, by show 3 ≤ sizeLine; decide, .cons ⟨_, rfl⟩ (.cons ⟨_, rfl⟩ (.cons ⟨_, rfl⟩ (.nil)))⟩) (.cons (.str _) (.cons (.str _) (.cons (.str _) (.nil))))⟩
  have y_all := PySem.W.mg_none_of X G z0
  have y_bool := PySem.W.mg_none_of X G z1
  have y_int := PySem.W.mg_none_of X G z2
  have y_isinstance := PySem.W.mg_none_of X G z3
  have y_len := PySem.W.mg_none_of X G z4
  have y_list := PySem.W.mg_none_of X G z5
  have y_range := PySem.W.mg_none_of X G z6
  have y_reversed := PySem.W.mg_none_of X G z7
  have y_str := PySem.W.mg_none_of X G z8
  have y_sum := PySem.W.mg_none_of X G z9
  have y_tuple := PySem.W.mg_none_of X G z10
  refine ⟨PySem.W.fnOf "law" "law" (defArgs s_law_k61) (defBody s_law_k61) (defScope s_law_k61) .none kV66 dc66 pm66 an66 cd66 ct66, fun s v => .of_eq rfl, fun base _ _ => ?_⟩
  have H_is_integer : Has l.prog w K mg base 1 "is_integer" ["value"] (spD K g_is_integer) := t_is_integer (k := 0) F0 b0 g0 y_bool y_int y_isinstance
  have H_is_sizes : Has l.prog w K mg base 2 "is_sizes" ["value"] (spD K g_is_sizes) := t_is_sizes (k := 1) F1 b1 g1 y_all m_GREATEST_SIZE m_LEAST_SIZE m_MOST_FIELDS y_isinstance y_len y_list (H_is_integer.mono (by decide))
  have H_check_sizes : Has l.prog w K mg base 3 "check_sizes" ["sizes"] (spD K g_check_sizes) := t_check_sizes (k := 2) F2 b2 g2 (H_is_sizes.mono (by decide))
  have H_number_of_cases : Has l.prog w K mg base 1 "number_of_cases" ["sizes"] (spD K g_number_of_cases) := t_number_of_cases (k := 0) F3 b3 g3 
  have H_is_small_sheet : Has l.prog w K mg base 2 "is_small_sheet" ["sizes"] (spD K g_is_small_sheet) := t_is_small_sheet (k := 1) F4 b4 g4 m_MOST_CASES_OF_SMALL (H_number_of_cases.mono (by decide))
  have H_check_small : Has l.prog w K mg base 3 "check_small" ["sizes"] (spD K g_check_small) := t_check_small (k := 2) F5 b5 g5 (H_is_small_sheet.mono (by decide))
  have H_inner_forms : Has l.prog w K mg base 1 "inner_forms" ["form"] (spD K g_inner_forms) := t_inner_forms (k := 0) F6 b6 g6 m_JOINING_WORDS
  have H_p_is_tuple_of : Has l.prog w K mg base 1 "_is_tuple_of" ["value", "length"] (spD K g_p_is_tuple_of) := t_p_is_tuple_of (k := 0) F7 b7 g7 y_isinstance y_len y_tuple
  have H_p_is_results : Has l.prog w K mg base 3 "_is_results" ["sizes", "value"] (spD K g_p_is_results) := t_p_is_results (k := 2) F8 b8 g8 y_all y_bool y_isinstance (H_number_of_cases.mono (by decide)) (H_is_small_sheet.mono (by decide)) (H_p_is_tuple_of.mono (by decide))
  have H_p_is_short_form_outside : Has l.prog w K mg base 4 "_is_short_form_outside" ["sizes", "word", "part"] (spD K g_p_is_short_form_outside) := t_p_is_short_form_outside (k := 3) F9 b9 g9 y_bool m_JOINING_WORDS y_isinstance y_tuple (H_p_is_results.mono (by decide))
  have H_is_integer_below : Has l.prog w K mg base 2 "is_integer_below" ["value", "limit"] (spD K g_is_integer_below) := t_is_integer_below (k := 1) F10 b10 g10 (H_is_integer.mono (by decide))
  have H_are_ascending_below : Has l.prog w K mg base 3 "are_ascending_below" ["values", "limit"] (spD K g_are_ascending_below) := t_are_ascending_below (k := 2) F11 b11 g11 (H_is_integer_below.mono (by decide))
  have H_p_is_test : Has l.prog w K mg base 4 "_is_test" ["sizes", "field", "values"] (spD K g_p_is_test) := t_p_is_test (k := 3) F12 b12 g12 y_isinstance y_len y_tuple (H_is_integer_below.mono (by decide)) (H_are_ascending_below.mono (by decide))
  have H_p_is_condition : Has l.prog w K mg base 5 "_is_condition" ["sizes", "value"] (spD K g_p_is_condition) := t_p_is_condition (k := 4) F13 b13 g13 (H_p_is_tuple_of.mono (by decide)) (H_p_is_test.mono (by decide))
  have H_is_conditions : Has l.prog w K mg base 6 "is_conditions" ["sizes", "value"] (spD K g_is_conditions) := t_is_conditions (k := 5) F14 b14 g14 y_all y_isinstance y_len y_tuple (H_are_ascending_below.mono (by decide)) (H_p_is_condition.mono (by decide))
  have H_p_is_rule : Has l.prog w K mg base 7 "_is_rule" ["sizes", "value"] (spD K g_p_is_rule) := t_p_is_rule (k := 6) F15 b15 g15 y_bool y_isinstance (H_is_conditions.mono (by decide)) (H_p_is_tuple_of.mono (by decide))
  have H_p_is_rules : Has l.prog w K mg base 8 "_is_rules" ["sizes", "value"] (spD K g_p_is_rules) := t_p_is_rules (k := 7) F16 b16 g16 y_all y_isinstance y_tuple (H_p_is_rule.mono (by decide))
  have H_p_are_integers : Has l.prog w K mg base 2 "_are_integers" ["values"] (spD K g_p_are_integers) := t_p_are_integers (k := 1) F17 b17 g17 y_all (H_is_integer.mono (by decide))
  have H_p_is_weights : Has l.prog w K mg base 3 "_is_weights" ["sizes", "value"] (spD K g_p_is_weights) := t_p_is_weights (k := 2) F18 b18 g18 y_all y_len y_range (H_p_is_tuple_of.mono (by decide)) (H_p_are_integers.mono (by decide))
  have H_p_is_long_form_outside : Has l.prog w K mg base 9 "_is_long_form_outside" ["sizes", "word", "part", "second_part"] (spD K g_p_is_long_form_outside) := t_p_is_long_form_outside (k := 8) F19 b19 g19 y_bool y_isinstance y_len (H_is_integer.mono (by decide)) (H_is_integer_below.mono (by decide)) (H_p_is_tuple_of.mono (by decide)) (H_p_is_test.mono (by decide)) (H_p_is_rules.mono (by decide)) (H_p_is_weights.mono (by decide))
  have H_p_is_form_outside : Has l.prog w K mg base 10 "_is_form_outside" ["sizes", "value"] (spD K g_p_is_form_outside) := t_p_is_form_outside (k := 9) F20 b20 g20 y_isinstance y_len y_str y_tuple (H_p_is_short_form_outside.mono (by decide)) (H_p_is_long_form_outside.mono (by decide))
  have H_has_form_shape : Has l.prog w K mg base 11 "has_form_shape" ["sizes", "value"] (spD K g_has_form_shape) := t_has_form_shape (k := 10) F21 b21 g21 (H_inner_forms.mono (by decide)) (H_p_is_form_outside.mono (by decide))
  have H_check_form : Has l.prog w K mg base 12 "check_form" ["sizes", "form"] (spD K g_check_form) := t_check_form (k := 11) F22 b22 g22 (H_has_form_shape.mono (by decide))
  have H_check_small_form : Has l.prog w K mg base 13 "check_small_form" ["sizes", "form"] (spD K g_check_small_form) := t_check_small_form (k := 12) F23 b23 g23 (H_check_sizes.mono (by decide)) (H_check_small.mono (by decide)) (H_check_form.mono (by decide))
  have H_unknown_fields : Has l.prog w K mg base 1 "unknown_fields" ["half"] (spD K g_unknown_fields) := t_unknown_fields (k := 0) F24 b24 g24 y_len y_range
  have H_list_completing : Has l.prog w K mg base 1 "list_completing" ["sizes", "half"] (spD K g_list_completing) := t_list_completing (k := 0) F25 b25 g25 y_len y_list y_range
  have H_p_join_answers : Has l.prog w K mg base 1 "_join_answers" ["word", "results"] (spD K g_p_join_answers) := t_p_join_answers (k := 0) F26 b26 g26 
  have H_place_of_case : Has l.prog w K mg base 1 "place_of_case" ["sizes", "case"] (spD K g_place_of_case) := t_place_of_case (k := 0) F27 b27 g27 y_len y_range
  have H_sum_of_weights : Has l.prog w K mg base 1 "sum_of_weights" ["weights", "case"] (spD K g_sum_of_weights) := t_sum_of_weights (k := 0) F28 b28 g28 y_len y_range y_sum
  have H_fits : Has l.prog w K mg base 1 "fits" ["conditions", "case"] (spD K g_fits) := t_fits (k := 0) F29 b29 g29 y_all
  have H_p_first_result : Has l.prog w K mg base 2 "_first_result" ["rules", "last", "case"] (spD K g_p_first_result) := t_p_first_result (k := 1) F30 b30 g30 (H_fits.mono (by decide))
  have H_p_says_alone : Has l.prog w K mg base 3 "_says_alone" ["sizes", "form", "case"] (spD K g_p_says_alone) := t_p_says_alone (k := 2) F31 b31 g31 (H_place_of_case.mono (by decide)) (H_sum_of_weights.mono (by decide)) (H_p_first_result.mono (by decide))
  have H_says : Has l.prog w K mg base 63 "says" ["sizes", "form", "case"] (spD K (g_says FU)) := t_says (k := 3) F32 b32 g32 m_JOINING_WORDS (H_p_join_answers.mono (by decide)) (H_p_says_alone.mono (by decide)) FU
  have H_answers_completing : Has l.prog w K mg base 64 "answers_completing" ["sizes", "form", "half"] (spD K g_answers_completing) := t_answers_completing (k := 63) F33 b33 g33 (H_list_completing.mono (by decide)) (H_says.mono (by decide))
  have H_tested : Has l.prog w K mg base 1 "tested" ["field", "branches"] (spT K g_tested) := t_tested (k := 0) F34 b34 g34 y_len
  have H_ordered_tree_completing : Has l.prog w K mg base 65 "ordered_tree_completing" ["sizes", "form", "half"] (spD K g_ordered_tree_completing) := t_ordered_tree_completing (k := 64) F35 b35 g35 y_len y_range y_tuple (H_unknown_fields.mono (by decide)) (H_answers_completing.mono (by decide)) (H_tested.mono (by decide))
  have H_ordered_tree : Has l.prog w K mg base 66 "ordered_tree" ["sizes", "form"] (spD K g_ordered_tree) := t_ordered_tree (k := 65) F36 b36 g36 y_len (H_check_small_form.mono (by decide)) (H_ordered_tree_completing.mono (by decide))
  have H_law_cell_98eb9 : Has l.prog w K mg base 1 "_law_cell" ["script", "k"] (spD K g_law_cell_98eb9) := t_law_cell_98eb9 (k := 0) F37 b37 g37 y_len
  have H_law_draw_48e0b : Has l.prog w K mg base 1 "_law_draw" ["cell", "k", "limit"] (spD K g_law_draw_48e0b) := t_law_draw_48e0b (k := 0) F38 b38 g38 y_int
  have H_law_sizes_48d55 : Has l.prog w K mg base 2 "_law_sizes" ["cell", "more", "most"] (spD K g_law_sizes_48d55) := t_law_sizes_48d55 (k := 1) F39 b39 g39 y_range (H_law_draw_48e0b.mono (by decide))
  have H_law_cases_72b18 : Has l.prog w K mg base 1 "_law_cases" ["sizes"] (spD K g_law_cases_72b18) := t_law_cases_72b18 (k := 0) F40 b40 g40 y_range
  have H_law_values_1b941 : Has l.prog w K mg base 2 "_law_values" ["cell", "k", "size"] (spD K g_law_values_1b941) := t_law_values_1b941 (k := 1) F41 b41 g41 y_range y_tuple (H_law_draw_48e0b.mono (by decide))
  have H_law_conditions_05f1f : Has l.prog w K mg base 3 "_law_conditions" ["sizes", "cell"] (spD K g_law_conditions_05f1f) := t_law_conditions_05f1f (k := 2) F42 b42 g42 y_len y_range y_tuple (H_law_draw_48e0b.mono (by decide)) (H_law_values_1b941.mono (by decide))
  have H_law_card_4ab7e : Has l.prog w K mg base 2 "_law_card" ["sizes", "cell"] (spD K g_law_card_4ab7e) := t_law_card_4ab7e (k := 1) F43 b43 g43 y_len y_range y_tuple (H_law_draw_48e0b.mono (by decide))
  have H_law_leaf_52ac9 : Has l.prog w K mg base 4 "_law_leaf" ["sizes", "cell"] (spD K g_law_leaf_52ac9) := t_law_leaf_52ac9 (k := 3) F44 b44 g44 y_int y_len y_range y_tuple (H_law_draw_48e0b.mono (by decide)) (H_law_values_1b941.mono (by decide)) (H_law_conditions_05f1f.mono (by decide)) (H_law_card_4ab7e.mono (by decide))
  have H_law_part_518aa : Has l.prog w K mg base 5 "_law_part" ["sizes", "cell"] (spD K g_law_part_518aa) := t_law_part_518aa (k := 4) F45 b45 g45 (H_law_draw_48e0b.mono (by decide)) (H_law_leaf_52ac9.mono (by decide))
  have H_law_form_06328 : Has l.prog w K mg base 6 "_law_form" ["sizes", "cells"] (spD K g_law_form_06328) := t_law_form_06328 (k := 5) F46 b46 g46 y_int y_len y_range y_tuple (H_law_draw_48e0b.mono (by decide)) (H_law_conditions_05f1f.mono (by decide)) (H_law_leaf_52ac9.mono (by decide)) (H_law_part_518aa.mono (by decide))
  have H_law_said_e4d74 : Has l.prog w K mg base 60 "_law_said" ["sizes", "form", "case"] (spD K (g_law_said_e4d74 FU)) := t_law_said_e4d74 (k := 0) F47 b47 g47 y_all y_int y_len y_range y_sum FU
  have H_law_table_6dbb7 : Has l.prog w K mg base 1 "_law_table" ["sizes", "results"] (spD K g_law_table_6dbb7) := t_law_table_6dbb7 (k := 0) F48 b48 g48 y_tuple
  have H_law_second_9359c : Has l.prog w K mg base 7 "_law_second" ["sizes", "form", "results", "cells"] (spD K g_law_second_9359c) := t_law_second_9359c (k := 6) F49 b49 g49 y_len y_list y_range (H_law_draw_48e0b.mono (by decide)) (H_law_form_06328.mono (by decide)) (H_law_table_6dbb7.mono (by decide))
  have H_all_answers : Has l.prog w K mg base 65 "all_answers" ["sizes", "form"] (spD K g_all_answers) := t_all_answers (k := 64) F50 b50 g50 y_len (H_answers_completing.mono (by decide))
  have H_are_alike : Has l.prog w K mg base 66 "are_alike" ["sizes", "one", "other"] (spD K g_are_alike) := t_are_alike (k := 65) F51 b51 g51 (H_all_answers.mono (by decide))
  have H_p_check_both : Has l.prog w K mg base 13 "_check_both" ["sizes", "one", "other"] (spD K g_p_check_both) := t_p_check_both (k := 12) F52 b52 g52 (H_check_sizes.mono (by decide)) (H_check_small.mono (by decide)) (H_check_form.mono (by decide))
  have H_alike : Has l.prog w K mg base 67 "alike" ["sizes", "one", "other"] (spD K g_alike) := t_alike (k := 66) F53 b53 g53 (H_are_alike.mono (by decide)) (H_p_check_both.mono (by decide))
  have H_is_within : Has l.prog w K mg base 66 "is_within" ["sizes", "one", "other"] (spD K g_is_within) := t_is_within (k := 65) F54 b54 g54 y_all y_len y_range (H_all_answers.mono (by decide))
  have H_within : Has l.prog w K mg base 67 "within" ["sizes", "one", "other"] (spD K g_within) := t_within (k := 66) F55 b55 g55 (H_is_within.mono (by decide)) (H_p_check_both.mono (by decide))
  have H_case_of_place : Has l.prog w K mg base 1 "case_of_place" ["sizes", "place"] (spD K g_case_of_place) := t_case_of_place (k := 0) F56 b56 g56 y_len y_range y_reversed
  have H_p_parted_places : Has l.prog w K mg base 66 "_parted_places" ["sizes", "one", "other"] (spD K g_p_parted_places) := t_p_parted_places (k := 65) F57 b57 g57 y_len y_range (H_all_answers.mono (by decide))
  have H_parting_case : Has l.prog w K mg base 67 "parting_case" ["sizes", "one", "other"] (spD K g_parting_case) := t_parting_case (k := 66) F58 b58 g58 (H_case_of_place.mono (by decide)) (H_p_check_both.mono (by decide)) (H_p_parted_places.mono (by decide))
  have H_q_case_of_place : Has l.prog w K mg base 1 "case_of_place" ["sizes", "place"] (spQ K g_q_case_of_place) := t_q_case_of_place (k := 0) F59 b59 g59 y_len y_range y_reversed
  have H_q_parting_case : Has l.prog w K mg base 67 "parting_case" ["sizes", "one", "other"] (spQ K g_q_parting_case) := t_q_parting_case (k := 66) F60 b60 g60 (H_q_case_of_place.mono (by decide)) (H_p_check_both.mono (by decide)) (H_p_parted_places.mono (by decide))
  have H_count_parted : Has l.prog w K mg base 67 "count_parted" ["sizes", "one", "other"] (spD K g_count_parted) := t_count_parted (k := 66) F61 b61 g61 y_len (H_p_check_both.mono (by decide)) (H_p_parted_places.mono (by decide))
  have H_law_integer_55dc8 : Has l.prog w K mg base 1 "_law_integer" ["found"] (spD K g_law_integer_55dc8) := t_law_integer_55dc8 (k := 0) F62 b62 g62 y_bool y_int y_isinstance
  have H_law_case_is_da430 : Has l.prog w K mg base 2 "_law_case_is" ["found", "due"] (spD K g_law_case_is_da430) := t_law_case_is_da430 (k := 1) F63 b63 g63 y_all y_isinstance y_list (H_law_integer_55dc8.mono (by decide))
  have H_law_truth_badf5 : Has l.prog w K mg base 1 "_law_truth" ["found", "due"] (spD K g_law_truth_badf5) := t_law_truth_badf5 (k := 0) F64 b64 g64 y_bool y_isinstance
  have H_law_asked_5fd05 : Has l.prog w K mg base 68 "_law_asked" ["sizes", "one", "other", "ours", "theirs", "cases", "word"] (spD K g_law_asked_5fd05) := t_law_asked_5fd05 (k := 67) F65 b65 g65 y_all y_len y_list y_range (H_alike.mono (by decide)) (H_within.mono (by decide)) (H_parting_case.mono (by decide)) (H_q_parting_case.mono (by decide)) (H_count_parted.mono (by decide)) (H_law_integer_55dc8.mono (by decide)) (H_law_case_is_da430.mono (by decide)) (H_law_truth_badf5.mono (by decide))
  have LB : Binds K _ ["script"] [] := F66.binds (ps := ["script"]) fun _ _ _ _ _ _ us hl => match us, hl with | [_], _ => rfl
  exact Lk.FnG.ofOk (law_fn (f_law_k61 (k := 68) F66 LB g66 y_int y_list y_range (H_ordered_tree.mono (by decide)) (H_law_cell_98eb9.mono (by decide)) (H_law_draw_48e0b.mono (by decide)) (H_law_sizes_48d55.mono (by decide)) (H_law_cases_72b18.mono (by decide)) (H_law_part_518aa.mono (by decide)) (H_law_form_06328.mono (by decide)) (H_law_said_e4d74.mono (by decide)) (H_law_second_9359c.mono (by decide)) (H_law_asked_5fd05.mono (by decide))))
end DL
open PySem PySem.W PyProof.Rows in
set_option maxRecDepth 100000 in
set_option maxHeartbeats 0 in
theorem PySem.Challenge.cw_leastreasons_k61_two_forms_compared_holds : PySem.Challenge.rw_leastreasons_k61_two_forms_compared.Holds := by
  w_on; o_law; k_head; (case hw => w_witness2)
  k_fill
  refine Lk.walk_ofGB (l := PySem.Challenge.rw_leastreasons_k61_two_forms_compared) (n := 63) (k := 69) (x := "script") (sp := fun w => DL.spLaw _ DL.g_law_k61) rfl (by decide) rfl ⟨rfl, by decide, by decide⟩ (fun w h Y => PySem.W.kIn_of Y) ?F (fun _ _ a ns hl hb _ hS => ⟨a, ns, rfl, hS, DL.true_k61 ns hl hb, fun _ => rfl⟩)
  case F =>
    intro w mg fa h KX G hmg
    refine' DL.all_mk KX G hmg ?a0 ?l0 ?c0 ?k0 ?a1 ?l1 ?c1 ?k1 ?a2 ?l2 ?c2 ?k2 ?a3 ?l3 ?c3 ?k3 ?a4 ?l4 ?c4 ?k4 ?a5 ?l5 ?c5 ?k5 ?a6 ?l6 ?c6 ?k6 ?a7 ?l7 ?c7 ?k7 ?a8 ?l8 ?c8 ?k8 ?a9 ?l9 ?c9 ?k9 ?a10 ?l10 ?c10 ?k10 ?a11 ?l11 ?c11 ?k11 ?a12 ?l12 ?c12 ?k12 ?a13 ?l13 ?c13 ?k13 ?a14 ?l14 ?c14 ?k14 ?a15 ?l15 ?c15 ?k15 ?a16 ?l16 ?c16 ?k16 ?a17 ?l17 ?c17 ?k17 ?a18 ?l18 ?c18 ?k18 ?a19 ?l19 ?c19 ?k19 ?a20 ?l20 ?c20 ?k20 ?a21 ?l21 ?c21 ?k21 ?a22 ?l22 ?c22 ?k22 ?a23 ?l23 ?c23 ?k23 ?a24 ?l24 ?c24 ?k24 ?a25 ?l25 ?c25 ?k25 ?a26 ?l26 ?c26 ?k26 ?a27 ?l27 ?c27 ?k27 ?a28 ?l28 ?c28 ?k28 ?a29 ?l29 ?c29 ?k29 ?a30 ?l30 ?c30 ?k30 ?a31 ?l31 ?c31 ?k31 ?a32 ?l32 ?c32 ?k32 ?a33 ?l33 ?c33 ?k33 ?a34 ?l34 ?c34 ?k34 ?a35 ?l35 ?c35 ?k35 ?a36 ?l36 ?c36 ?k36 ?a37 ?l37 ?c37 ?k37 ?a38 ?l38 ?c38 ?k38 ?a39 ?l39 ?c39 ?k39 ?a40 ?l40 ?c40 ?k40 ?a41 ?l41 ?c41 ?k41 ?a42 ?l42 ?c42 ?k42 ?a43 ?l43 ?c43 ?k43 ?a44 ?l44 ?c44 ?k44 ?a45 ?l45 ?c45 ?k45 ?a46 ?l46 ?c46 ?k46 ?a47 ?l47 ?c47 ?k47 ?a48 ?l48 ?c48 ?k48 ?a49 ?l49 ?c49 ?k49 ?a50 ?l50 ?c50 ?k50 ?a51 ?l51 ?c51 ?k51 ?a52 ?l52 ?c52 ?k52 ?a53 ?l53 ?c53 ?k53 ?a54 ?l54 ?c54 ?k54 ?a55 ?l55 ?c55 ?k55 ?a56 ?l56 ?c56 ?k56 ?a57 ?l57 ?c57 ?k57 ?a58 ?l58 ?c58 ?k58 ?a59 ?l59 ?c59 ?k59 ?a60 ?l60 ?c60 ?k60 ?a61 ?l61 ?c61 ?k61 ?a62 ?l62 ?c62 ?k62 ?a63 ?l63 ?c63 ?k63 ?a64 ?l64 ?c64 ?k64 ?a65 ?l65 ?c65 ?k65 ?a66 ?l66 ?c66 ?k66 ?n0 ?n1 ?n2 ?n3 ?aj0 ?lj0 ?z0 ?z1 ?z2 ?z3 ?z4 ?z5 ?z6 ?z7 ?z8 ?z9 ?z10
    (case a0 => k_is)
    (case l0 => k_is)
    (case c0 => k_is)
    (case k0 => k_is)
    (case a1 => k_is)
    (case l1 => k_is)
    (case c1 => k_is)
    (case k1 => k_is)
    (case a2 => k_is)
    (case l2 => k_is)
    (case c2 => k_is)
    (case k2 => k_is)
    (case a3 => k_is)
    (case l3 => k_is)
    (case c3 => k_is)
    (case k3 => k_is)
    (case a4 => k_is)
    (case l4 => k_is)
    (case c4 => k_is)
    (case k4 => k_is)
    (case a5 => k_is)
    (case l5 => k_is)
    (case c5 => k_is)
    (case k5 => k_is)
    (case a6 => k_is)
    (case l6 => k_is)
    (case c6 => k_is)
    (case k6 => k_is)
    (case a7 => k_is)
    (case l7 => k_is)
    (case c7 => k_is)
    (case k7 => k_is)
    (case a8 => k_is)
    (case l8 => k_is)
    (case c8 => k_is)
    (case k8 => k_is)
    (case a9 => k_is)
    (case l9 => k_is)
    (case c9 => k_is)
    (case k9 => k_is)
    (case a10 => k_is)
    (case l10 => k_is)
    (case c10 => k_is)
    (case k10 => k_is)
    (case a11 => k_is)
    (case l11 => k_is)
    (case c11 => k_is)
    (case k11 => k_is)
    (case a12 => k_is)
    (case l12 => k_is)
    (case c12 => k_is)
    (case k12 => k_is)
    (case a13 => k_is)
    (case l13 => k_is)
    (case c13 => k_is)
    (case k13 => k_is)
    (case a14 => k_is)
    (case l14 => k_is)
    (case c14 => k_is)
    (case k14 => k_is)
    (case a15 => k_is)
    (case l15 => k_is)
    (case c15 => k_is)
    (case k15 => k_is)
    (case a16 => k_is)
    (case l16 => k_is)
    (case c16 => k_is)
    (case k16 => k_is)
    (case a17 => k_is)
    (case l17 => k_is)
    (case c17 => k_is)
    (case k17 => k_is)
    (case a18 => k_is)
    (case l18 => k_is)
    (case c18 => k_is)
    (case k18 => k_is)
    (case a19 => k_is)
    (case l19 => k_is)
    (case c19 => k_is)
    (case k19 => k_is)
    (case a20 => k_is)
    (case l20 => k_is)
    (case c20 => k_is)
    (case k20 => k_is)
    (case a21 => k_is)
    (case l21 => k_is)
    (case c21 => k_is)
    (case k21 => k_is)
    (case a22 => k_is)
    (case l22 => k_is)
    (case c22 => k_is)
    (case k22 => k_is)
    (case a23 => k_is)
    (case l23 => k_is)
    (case c23 => k_is)
    (case k23 => k_is)
    (case a24 => k_is)
    (case l24 => k_is)
    (case c24 => k_is)
    (case k24 => k_is)
    (case a25 => k_is)
    (case l25 => k_is)
    (case c25 => k_is)
    (case k25 => k_is)
    (case a26 => k_is)
    (case l26 => k_is)
    (case c26 => k_is)
    (case k26 => k_is)
    (case a27 => k_is)
    (case l27 => k_is)
    (case c27 => k_is)
    (case k27 => k_is)
    (case a28 => k_is)
    (case l28 => k_is)
    (case c28 => k_is)
    (case k28 => k_is)
    (case a29 => k_is)
    (case l29 => k_is)
    (case c29 => k_is)
    (case k29 => k_is)
    (case a30 => k_is)
    (case l30 => k_is)
    (case c30 => k_is)
    (case k30 => k_is)
    (case a31 => k_is)
    (case l31 => k_is)
    (case c31 => k_is)
    (case k31 => k_is)
    (case a32 => k_is)
    (case l32 => k_is)
    (case c32 => k_is)
    (case k32 => k_is)
    (case a33 => k_is)
    (case l33 => k_is)
    (case c33 => k_is)
    (case k33 => k_is)
    (case a34 => k_is)
    (case l34 => k_is)
    (case c34 => k_is)
    (case k34 => k_is)
    (case a35 => k_is)
    (case l35 => k_is)
    (case c35 => k_is)
    (case k35 => k_is)
    (case a36 => k_is)
    (case l36 => k_is)
    (case c36 => k_is)
    (case k36 => k_is)
    (case a37 => k_is)
    (case l37 => k_is)
    (case c37 => k_is)
    (case k37 => k_is)
    (case a38 => k_is)
    (case l38 => k_is)
    (case c38 => k_is)
    (case k38 => k_is)
    (case a39 => k_is)
    (case l39 => k_is)
    (case c39 => k_is)
    (case k39 => k_is)
    (case a40 => k_is)
    (case l40 => k_is)
    (case c40 => k_is)
    (case k40 => k_is)
    (case a41 => k_is)
    (case l41 => k_is)
    (case c41 => k_is)
    (case k41 => k_is)
    (case a42 => k_is)
    (case l42 => k_is)
    (case c42 => k_is)
    (case k42 => k_is)
    (case a43 => k_is)
    (case l43 => k_is)
    (case c43 => k_is)
    (case k43 => k_is)
    (case a44 => k_is)
    (case l44 => k_is)
    (case c44 => k_is)
    (case k44 => k_is)
    (case a45 => k_is)
    (case l45 => k_is)
    (case c45 => k_is)
    (case k45 => k_is)
    (case a46 => k_is)
    (case l46 => k_is)
    (case c46 => k_is)
    (case k46 => k_is)
    (case a47 => k_is)
    (case l47 => k_is)
    (case c47 => k_is)
    (case k47 => k_is)
    (case a48 => k_is)
    (case l48 => k_is)
    (case c48 => k_is)
    (case k48 => k_is)
    (case a49 => k_is)
    (case l49 => k_is)
    (case c49 => k_is)
    (case k49 => k_is)
    (case a50 => k_is)
    (case l50 => k_is)
    (case c50 => k_is)
    (case k50 => k_is)
    (case a51 => k_is)
    (case l51 => k_is)
    (case c51 => k_is)
    (case k51 => k_is)
    (case a52 => k_is)
    (case l52 => k_is)
    (case c52 => k_is)
    (case k52 => k_is)
    (case a53 => k_is)
    (case l53 => k_is)
    (case c53 => k_is)
    (case k53 => k_is)
    (case a54 => k_is)
    (case l54 => k_is)
    (case c54 => k_is)
    (case k54 => k_is)
    (case a55 => k_is)
    (case l55 => k_is)
    (case c55 => k_is)
    (case k55 => k_is)
    (case a56 => k_is)
    (case l56 => k_is)
    (case c56 => k_is)
    (case k56 => k_is)
    (case a57 => k_is)
    (case l57 => k_is)
    (case c57 => k_is)
    (case k57 => k_is)
    (case a58 => k_is)
    (case l58 => k_is)
    (case c58 => k_is)
    (case k58 => k_is)
    (case a59 => k_is)
    (case l59 => k_is)
    (case c59 => k_is)
    (case k59 => k_is)
    (case a60 => k_is)
    (case l60 => k_is)
    (case c60 => k_is)
    (case k60 => k_is)
    (case a61 => k_is)
    (case l61 => k_is)
    (case c61 => k_is)
    (case k61 => k_is)
    (case a62 => k_is)
    (case l62 => k_is)
    (case c62 => k_is)
    (case k62 => k_is)
    (case a63 => k_is)
    (case l63 => k_is)
    (case c63 => k_is)
    (case k63 => k_is)
    (case a64 => k_is)
    (case l64 => k_is)
    (case c64 => k_is)
    (case k64 => k_is)
    (case a65 => k_is)
    (case l65 => k_is)
    (case c65 => k_is)
    (case k65 => k_is)
    (case a66 => k_is)
    (case l66 => k_is)
    (case c66 => k_is)
    (case k66 => k_is)
    (case n0 => k_is)
    (case n1 => k_is)
    (case n2 => k_is)
    (case n3 => k_is)
    (case aj0 => k_is)
    (case lj0 => k_is)
    (case z0 => k_is)
    (case z1 => k_is)
    (case z2 => k_is)
    (case z3 => k_is)
    (case z4 => k_is)
    (case z5 => k_is)
    (case z6 => k_is)
    (case z7 => k_is)
    (case z8 => k_is)
    (case z9 => k_is)
    (case z10 => k_is)
