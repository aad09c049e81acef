import PyProof.Rows.All
import Wide.All
import OpenK.AllK
import Wide.FinOn
import HandS.ForMost
import HandS.IsInst
import HandS.Wide
import KE.LtSeq
import HandS.TupLe
import HandS.RevRange
import HandS.NoneIn
import HandS.Star
import HandS.Conv
import PySem.Challenge.RW_leastreasons_k03_cases_that_complete
set_option Elab.async false
set_option linter.all false
set_option maxRecDepth 100000
set_option maxHeartbeats 8000000
namespace Lk
open PySem PySem.Spec PyProof.Rows L2

/-! ## promises of defs that are entered while no display runs further out (repr of lists) -/
structure FnG (P : Program) (w : World) (K : PySem.W.Frag) (mg : Str → Option Value) (base : Heap) (CX : CXT)
    (k : Nat) (f : Addr) (fd : FuncData) (ps : List Str) (sp : Sp) : Prop where
  len : ∀ vs H Q E, sp vs H Q E → vs.length = ps.length
  run : ∀ (A : Around) (outer : List Env) (s : Shared) (H : Hp) (args : Args) (us : List Value) (vs : List V) (Q : VK) (E : XK),
    A.guards = some [] → Room k A → Env0 P w K mg base A outer s H → BindsTo s fd args (ps.zip us) → Vals vs us → sp vs H Q E →
    codeAny (model P w) A (.call (.ref f) args) (CR CX outer P w H s Q E) s

section
variable {P : Program} {w : World} {K : PySem.W.Frag} {mg : Str → Option Value} {base : Heap} {CX : CXT} {k : Nat} {f : Addr}
theorem FnG.ofOk {fd : FuncData} {ps : List Str} {sp : Sp} (F : FnOk P w K mg base CX k f fd ps sp) : FnG P w K mg base CX k f fd ps sp :=
  ⟨F.len, fun A outer s H args us vs Q E _ r e b v h => F.run A outer s H args us vs Q E r e b v h⟩
theorem FnG.mono {fd : FuncData} {ps : List Str} {sp : Sp} {j : Nat} (F : FnG P w K mg base CX j f fd ps sp) (h : j ≤ k) : FnG P w K mg base CX k f fd ps sp :=
  ⟨F.len, fun A outer s H args us vs Q E g r e b v z => F.run A outer s H args us vs Q E g (r.mono h) e b v z⟩

/-- a def by its body, which may use that no display runs further out -/
theorem fnG_of {name qual : Str} {params : Arguments} {body : List Stmt} {scope : Scope} {dV kV doc pm cdv ct oc : Value} {an od : Option Addr}
    {osl : Array (Option Value)} {N ps : List Str} {sp : Sp}
    (lk : K.lookup f = some ⟨oc, od, .func (PySem.W.fnOf name qual params body scope dV kV doc pm an cdv ct), osl⟩)
    (cd : PySem.W.codeIn K cdv qual = true) (S : FnScope N ps scope) (len : ∀ vs H Q E, sp vs H Q E → vs.length = ps.length)
    (bd : ∀ (A : Around) (outer : List Env) (s : Shared) (H : Hp) (vs : List V) (Q : VK) (E : XK), A.guards = some [] →
      Room k (A.deeper (envOfC qual scope s.heap.objs.size f cdv)) → sp vs H Q E →
      ∃ t, PSs (cxOf CX P w K mg base N qual scope f cdv A outer s H E) body t ∧ t { nx := fun _ H' => Q .non H', rt := Q } (start N vs) H) :
    FnG P w K mg base CX (k + 1) f (PySem.W.fnOf name qual params body scope dV kV doc pm an cdv ct) ps sp := by
  constructor
  · exact len
  intro A outer s H args us vs Q E hg rm env bnd rel prom
  have inK : K.In s.heap := env.mod.kin.keeps fun b o e => (env.bs b o e).1
  have noLim : s.heap.NoLimit := env.mod.nolimit.keeps fun b o e => (env.bs b o e).1
  refine codeAny_call_function rm.depth (inK _ _ lk) rfl S.co S.gen rfl (PySem.W.codeRec_of inK cd) (bnd _ _ _ _ ?_)
  refine wpAny_newFunctionEnv_cells S.kind ?kinds fun env' ee s1 x => ?_
  case kinds =>
    rintro ⟨n, v⟩ mem
    rcases S.par n (List.of_mem_zip mem).1 with z | z
    · exact Or.inl z
    · exact Or.inr ⟨z, PySem.W.cellsFrom_some _ _ _ (Or.inl z)⟩
  subst ee
  refine ⟨noLim.keeps x.toInCall.keep, codeAny_func ?_⟩
  obtain ⟨t, der, rd⟩ := bd A outer s H vs Q E hg (rm.deeper _) prom
  have I0 := inv_start (CX := CX) (E := E) S rm.hd env (len _ _ _ _ prom) rel x
  refine wpAny_mono (der.run [] s1 (start N vs) H _ I0 rd) (fun fl s' z => ?_) fun _ _ z => z
  cases fl with
  | ret u =>
    obtain ⟨v, _, H', J, rv, q⟩ := z
    exact ⟨v, H', J.os, J.bare, J.base, J.hok, rv, q⟩
  | next =>
    obtain ⟨_, H', J, q⟩ := z
    exact ⟨V.non, H', J.os, J.bare, J.base, J.hok, rfl, q⟩
  | brk => exact z.choose_spec.choose_spec.2.elim
  | cont => exact z.choose_spec.choose_spec.2.elim
end

/-- Fun.ok for guarded promises, no exception leaving -/
theorem Fun_okG {P : Program} {w : World} {K : PySem.W.Frag} {mg : Str → Option Value} {base : Heap} {x qual : Str} {st : Stmt} {f : Addr} {fd : FuncData}
    {N ps : List Str} {k : Nat} {sp : Sp} (F : Fun K x qual st f fd) (S : FnScope N ps (defScope st)) (len : ∀ vs H Q E, sp vs H Q E → vs.length = ps.length)
    (bd : ∀ (cdv : Value) (A : Around) (outer : List Env) (s : Shared) (H : Hp) (vs : List V) (Q : VK) (E : XK), A.guards = some [] →
      Room k (A.deeper (envOfC qual (defScope st) s.heap.objs.size f cdv)) → sp vs H Q E →
      ∃ t, PSs (cxOf CX0 P w K mg base N qual (defScope st) f cdv A outer s H E).nox (defBody st) t ∧ t { nx := fun _ H' => Q .non H', rt := Q } (start N vs) H) :
    FnG P w K mg base CX0 (k + 1) f fd ps sp := by
  obtain ⟨_, _, _, _, _, _, cdv, _, _, rfl, lk, hcd⟩ := F.ex
  refine fnG_of lk hcd S len fun A outer s H vs Q E hg hr z => ?_
  obtain ⟨t, d, q⟩ := bd cdv A outer s H vs Q E hg hr z
  exact ⟨t, d.nox, q⟩

section
variable {X : Cx} {CX : CXT} {k : Nat} {f : Addr} {fd : FuncData} {ps : List Str} {sp : Sp} {dvs : List V} {ds : List Value} {E : XK} {x : Str} {p pos : Pos} {e : Expr} {es : List Expr} {t : TA}
/-- a call of such a def, from a body that itself knows that no display runs -/
theorem pe_callG (hgd : X.A.guards = some []) (F : FnG X.prog X.w X.K X.mg X.base CX k f fd ps sp) (hr : Room k X.A) (hg : Gl X x) (hm : X.mg x = some (.ref f))
    (hk : PySem.W.keepIn X.K (.ref f) = true) (hb : Binds X.K fd ps ds) (hd : Vals dvs ds) (hx : Passes CX X E) (ha : PA X (e :: es) t)
    (hdb : (x == ("__debug__" : Str)) = false := by decide) (he : starEach (e :: es) X.env = (false, eval e X.env) :: starEach es X.env := by rfl)
    (hpl : (backTo pos (starEach es X.env)).any (·.1) = false := by rfl) : PE X (.Call (.Name x p) (e :: es) [] pos) (tCall sp dvs E t) := by
  constructor
  intro pins s σ H Q I h
  refine wpAny_Call_Name_kw (ld_glob I hg hm ?_ hdb)
  refine PySem.W.callWith_K (h₀ := X.base) I.ok.mod.kin hk (thn (ha.run pos pins s σ H _ I h) ?_) he hpl
  rintro us s1 ⟨vs, H1, I1, r, q⟩
  refine ⟨I1.kIn, ?_⟩
  have r2 := r.append hd
  have hl := r2.length.symm.trans (F.len _ _ _ _ q)
  refine wpAny_call (codeAny_mono (F.run X.A X.stack s1 H1 ⟨us, []⟩ (us ++ ds) (vs ++ dvs) Q E hgd hr I1.env0 (hb s1 us I1.kIn hl) r2 q) ?_)
  rintro (e' | fl) s' z
  · exact hx pins σ H1 s1 e' s' I1 z
  · cases fl with
    | ret u => exact I1.after z
    | next => exact z.elim
    | brk => exact z.elim
    | cont => exact z.elim
end

/-! ## the law's own end for such a promise -/
theorem law_callG {P : Program} {w : World} {K : PySem.W.Frag} {mg mb : Str → Option Value} {k : Nat} {fa a : Addr} {fd : FuncData} {x : Str} {sp : Sp} {s₁ : Shared} {vs : List Value} {ns : List Int}
    (KX : K.In s₁.heap) (hns : s₁.heap.Ns mainGlobals mg) (hb : s₁.heap.Ns builtinsNs mb) (hbb : ∀ x : Str, x ≠ "__name__" → mb x = bootBuiltins x) (hlim : s₁.heap.NoLimit)
    (hg : s₁.gens = #[]) (ha : s₁.heap.get? a = some { cls := .type "list", data := .seq vs.toArray }) (hi : IntsAre vs ns) (hl : ns.length ≤ sizeLine) (hr : Room k callerA)
    (F : ∀ base : Heap, K.In base → base.Ns mainGlobals mg → FnG P w K mg base CX0 k fa fd [x] sp) (bnd : ∀ (s : Shared) (u : Value), BindsTo s fd ⟨[u], []⟩ [(x, u)])
    (hsp : ∀ H : Hp, Only H → SqL K H a (ns.map V.int) → sp [.ref a] H (fun v _ => v = .bl true) fun _ _ _ => False) :
    codeAny (model P w) callerA (.call (.ref fa) ⟨[.ref a], []⟩) (fun r s' => r = .ok (.ret (.bool true)) ∧ OldK s₁.heap s'.heap ∧ s'.os = s₁.os ∧ AllBare s'.gens) s₁ := by
  have rel := vals_ints hi
  have obj : (⟨.type "list", none, .seq vs.toArray 0, #[]⟩ : Obj) = { cls := .type "list", data := .seq vs.toArray } := rfl
  suffices core : ∀ H : Hp, Only H → SqL K H a (ns.map V.int) → HOk P w H s₁.heap → (∀ b, H b ≠ none → b = a ∧ K.lookup a = none) →
      codeAny (model P w) callerA (.call (.ref fa) ⟨[.ref a], []⟩) (fun r s' => r = .ok (.ret (.bool true)) ∧ OldK s₁.heap s'.heap ∧ s'.os = s₁.os ∧ AllBare s'.gens) s₁ by
    cases hk : K.lookup a with
    | some o =>
      have e := KX a o hk
      rw [ha] at e
      cases e
      refine core (fun _ => none) (fun _ => Or.inl rfl) (Or.inr ⟨_, vs.toArray, _, hk, rfl, rfl, rfl, ?_, by simpa using rel⟩) (fun b u z => nomatch z) fun b z => absurd rfl z
      rw [List.size_toArray, hi.length]
      exact hl
    | none =>
      refine core (fun b => if b = a then some (.frz { cls := .type "list", data := .seq vs.toArray } (.lst (ns.map V.int))) else none) ?_ (Or.inl (Or.inr ⟨_, if_pos rfl⟩)) ?_ ?_
      · intro b
        by_cases q : b = a
        · exact Or.inr ⟨_, _, if_pos q⟩
        · exact Or.inl (if_neg q)
      · intro b u z
        by_cases q : b = a
        · subst q
          have z2 := (if_pos rfl).symm.trans z
          cases z2
          exact ⟨ha, by simpa using hl, vs, _, rel, ha⟩
        · exact nomatch (if_neg q).symm.trans z
      · intro b z
        by_cases q : b = a
        · exact ⟨q, hk⟩
        · exact absurd (if_neg q) z
  intro H only seq hok one
  have untr : ∀ {b : Addr} {m : Str → Option Value}, s₁.heap.Ns b m → (hidT s₁.heap H).Ns b m := by
    rintro b m ⟨o, es, ep, e, d, r⟩
    refine ⟨o, es, ep, hidT_get e ?_, d, r⟩
    by_cases q : H b = none
    · exact q
    · obtain ⟨rfl, _⟩ := one b q
      rw [ha] at e
      cases e
      exact absurd d (by simp)
  have inB : K.In (hidT s₁.heap H) := by
    intro b o e
    refine hidT_get (KX b o e) ?_
    by_cases q : H b = none
    · exact q
    · obtain ⟨rfl, z⟩ := one b q
      rw [z] at e
      cases e
  have modu : Mod K mg (hidT s₁.heap H) := ⟨inB, untr hns, ⟨mb, untr hb, hbb⟩, hlim.elim fun mc z => ⟨mc, untr z.1, z.2⟩⟩
  have env : Env0 P w K mg (hidT s₁.heap H) callerA [] s₁ H :=
    ⟨rfl, modu, fun _ _ e => of_hidT e, Nat.le_of_eq (hidT_size _ _), trivial, fun b z => absurd (show b ∈ ([] : List Addr) from z) (by simp), hok, .of_eq hg⟩
  refine codeAny_mono ((F _ inB (untr hns)).run callerA [] s₁ H ⟨[.ref a], []⟩ [.ref a] [.ref a] _ _ rfl hr env (bnd s₁ (.ref a)) (.cons rfl .nil) (hsp H only seq)) ?_
  rintro (e' | fl) s' z
  · exact z.elim
  cases fl with
  | next => exact z.elim
  | brk => exact z.elim
  | cont => exact z.elim
  | ret u =>
    obtain ⟨v, H', os, bare, un, ok', rv, rfl⟩ := z
    obtain rfl : u = Value.bool true := rv
    refine ⟨rfl, OldK.of_keep ?_, os, bare⟩
    intro b o e
    rcases only b with q | ⟨ob, xs, q⟩
    · exact un.keep b o e q (fun z => absurd (show b ∈ ([] : List Addr) from z) (by simp)) (by simp)
    · have q2 := (ok' b _ (un.frzs b ob _ q)).1
      have q1 := (hok b _ q).1
      rw [e] at q1
      cases q1
      exact q2

theorem walk_ofG {l : PySem.W.OpenLaw} {n k : Nat} {q : Program} {loose : List Str} {XP : (Str → Option Value) → Heap → Prop} {YP : World → Heap → Prop} {d : DefRec}
    {K : Params → PySem.W.Frag} {sp : World → Sp} {x : Str} (hn : l.most = some n) (hn2 : n ≤ sizeLine) (hdf : d.params.defaults = []) (hr : Room k callerA)
    (hY : ∀ (w : World) (h : Heap), YP w h → (K w.params).In h)
    (F : ∀ (w : World) (mg : Str → Option Value) (fa : Addr) (h : Heap), (K w.params).In h → h.Ns mainGlobals mg → mg d.name = some (.ref fa) →
      ∃ fd : FuncData, (∀ (s : Shared) (u : Value), BindsTo s fd ⟨[u], []⟩ [(x, u)]) ∧
        ∀ base : Heap, (K w.params).In base → base.Ns mainGlobals mg → FnG l.prog w (K w.params) mg base CX0 k fa fd [x] (sp w))
    (hsp : ∀ (w : World) (H : Hp) (a : Addr) (ns : List Int), ns.length ≤ n → Only H → SqL (K w.params) H a (ns.map V.int) → sp w [.ref a] H (fun v _ => v = .bl true) fun _ _ _ => False) :
    PySem.W.WalkO q loose XP YP l.row.toRowW d [] (fun f vs => PySem.call f vs) := by
  refine Att.attach_call hn hdf ?_
  intro w s₀ s₁ mg mb fa o pm cd doc a vs ns G Y _ _ _ hmg hobj hints hlen hg
  have KX := hY w _ Y
  obtain ⟨fd, hb, hF⟩ := F w mg fa _ KX G.T.g hmg
  exact law_callG KX G.T.g G.T.b G.T.builtins G.T.nolimit hg hobj hints (Nat.le_trans hlen hn2) hr hF hb fun H hO hS => hsp w H a ns hlen hO hS

/-! ## rules -/
section
variable {X : Cx}
theorem op_powN : OpR X (binaryOp .Pow) (rI (fun i j => 0 ≤ j ∧ (Builtin.Int.intBits i : Int) * j ≤ 2 ^ 27) fun i j => .int (i ^ j.toNat)) :=
  opI fun _ _ _ _ _ _ _ hc q => pow_int hc.1 hc.2 q

/-- repr of a list or tuple of data -/
theorem call_reprD (hg : X.A.guards = some []) (hu : X.A.units + 64 < cLine) : CallR X (.builtin "repr") (fun xs H Q =>
    ∃ a d, xs = [.ref a] ∧ Dp X.K H (.ref a) d ∧ d.showable = true ∧ d.hasDict = false ∧ d.depth + 1 ≤ 64 ∧ d.shown.length ≤ sizeLine ∧ Q (.str d.shown) H) := by
  intro pins s σ H xs us Q I r h
  obtain ⟨a, d, rfl, hd, hs, hn, hdp, hz, q⟩ := h
  obtain ⟨u, rfl, ru⟩ := vals1 r
  cases ru
  obtain ⟨as, rd⟩ := Dp.reads I d _ _ hd rfl
  exact repr_of_reads' rd hs (PyData.noDict_hsm hn) hg (by omega) (fun _ _ e => e) (fun h' u tk hk => ⟨.str d.shown, H, I.kept hk, ⟨_, rfl⟩, q⟩) hz
/-- repr of any data -/
theorem call_repr (hg : X.A.guards = some []) (hu : X.A.units + 64 < cLine) : CallR X (.builtin "repr") (fun xs H Q =>
    ∃ v d, xs = [v] ∧ Dp X.K H v d ∧ d.showable = true ∧ d.hasDict = false ∧ d.depth + 1 ≤ 64 ∧ d.shown.length ≤ sizeLine ∧ Q (.str d.shown) H) := by
  intro pins s σ H xs us Q I r h
  obtain ⟨v, d, rfl, hd, hs, hn, hdp, hz, q⟩ := h
  cases hd with
  | non =>
    obtain ⟨u, rfl, ru⟩ := vals1 r
    cases ru
    exact PySem.P.repr_of_none ⟨.str _, H, I.tok _, ⟨_, rfl⟩, q⟩
  | bl b =>
    obtain ⟨u, rfl, ru⟩ := vals1 r
    cases ru
    refine PySem.P.repr_of_bool ⟨.str _, H, I.tok _, ⟨_, rfl⟩, ?_⟩
    cases b <;> exact q
  | int i =>
    obtain ⟨u, rfl, t, rfl⟩ := vals1 r
    exact PySem.P.repr_of_int (of_decide_eq_true hs) ⟨.str _, H, I.tok _, ⟨_, rfl⟩, q⟩
  | str x =>
    obtain ⟨u, rfl, t, rfl⟩ := vals1 r
    exact PySem.P.repr_of_str ⟨.str _, H, I.tok _, ⟨_, rfl⟩, q⟩ hz
  | lst hs' ha => exact call_reprD hg hu pins s σ H _ us Q I r ⟨_, _, rfl, .lst hs' ha, hs, hn, hdp, hz, q⟩
  | tup hs' ha => exact call_reprD hg hu pins s σ H _ us Q I r ⟨_, _, rfl, .tup hs' ha, hs, hn, hdp, hz, q⟩
end
end Lk
namespace Lk
open PySem PySem.Spec PyProof.Rows L2

/-! ## data: how great, how deep -/
structure Ok (n w : Nat) (d : PyData) : Prop where
  sh : d.showable = true
  nd : d.hasDict = false
  dp : d.depth ≤ n
  cl : d.canLay0 = true
  lv : d.leavesShort 64 = true
  wt : d.weight ≤ w
namespace Ok
variable {n w n' w' L : Nat} {d : PyData} {ds : List PyData}
theorem mono (h : Ok n w d) (hn : n ≤ n') (hw : w ≤ w') : Ok n' w' d := ⟨h.sh, h.nd, Nat.le_trans h.dp hn, h.cl, h.lv, Nat.le_trans h.wt hw⟩
theorem shaped (h : Ok n w d) (hn : n ≤ 64) : SeqAt.shaped d = true := by
  unfold SeqAt.shaped
  rw [h.cl, decide_eq_true (Nat.le_trans h.dp hn)]
  rfl
theorem fits (h : Ok n w d) (hw : w ≤ 2 ^ 17) : d.shown.length ≤ sizeLine := by
  have a := PyData.shown_le 64 (by decide) d h.lv
  have b : (64 + 2) * d.weight ≤ 66 * 2 ^ 17 := Nat.mul_le_mul_left 66 (Nat.le_trans h.wt hw)
  have c : sizeLine = 2 ^ 24 := rfl
  omega
theorem none : Ok n w .none := ⟨rfl, rfl, Nat.zero_le _, rfl, rfl, Nat.zero_le _⟩
theorem bool (b : Bool) : Ok n w (.bool b) := ⟨rfl, rfl, Nat.zero_le _, rfl, rfl, Nat.zero_le _⟩
end Ok
def okAll (n w : Nat) (ds : List PyData) : Prop := ∀ d ∈ ds, Ok n w d
theorem okAll_facts {n w : Nat} : ∀ {ds : List PyData}, okAll n w ds → PyData.showableAll ds = true ∧ PyData.hasDictAll ds = false ∧ PyData.depthAll ds ≤ n ∧ PyData.canLayAll0 ds = true ∧ PyData.leavesShortAll 64 ds = true ∧ PyData.weightAll ds ≤ ds.length * (w + 1)
  | [], _ => ⟨rfl, rfl, Nat.zero_le _, rfl, rfl, Nat.zero_le _⟩
  | d :: ds, h => by
    have a := h d (List.mem_cons_self ..)
    obtain ⟨b1, b2, b3, b4, b5, b6⟩ := okAll_facts (ds := ds) fun x hx => h x (List.mem_cons_of_mem _ hx)
    refine ⟨?_, ?_, ?_, ?_, ?_, ?_⟩
    · show (d.showable && PyData.showableAll ds) = true
      rw [a.sh, b1]
      rfl
    · show (d.hasDict || PyData.hasDictAll ds) = false
      rw [a.nd, b2]
      rfl
    · show max d.depth (PyData.depthAll ds) ≤ n
      exact Nat.max_le.mpr ⟨a.dp, b3⟩
    · show (d.canLay0 && PyData.canLayAll0 ds) = true
      rw [a.cl, b4]
      rfl
    · show (d.leavesShort 64 && PyData.leavesShortAll 64 ds) = true
      rw [a.lv, b5]
      rfl
    · show d.weight + 1 + PyData.weightAll ds ≤ (ds.length + 1) * (w + 1)
      have := a.wt
      rw [Nat.succ_mul]
      omega
theorem Ok.list {n w L : Nat} {ds : List PyData} (h : okAll n w ds) (hl : ds.length ≤ L) : Ok (n + 1) (L * (w + 1)) (.list ds) := by
  obtain ⟨b1, b2, b3, b4, b5, b6⟩ := okAll_facts h
  refine ⟨b1, b2, ?_, b4, b5, ?_⟩
  · show PyData.depthAll ds + 1 ≤ n + 1
    omega
  · show PyData.weightAll ds ≤ _
    exact Nat.le_trans b6 (Nat.mul_le_mul_right _ hl)
theorem Ok.tuple {n w L : Nat} {ds : List PyData} (h : okAll n w ds) (hl : ds.length ≤ L) : Ok (n + 1) (L * (w + 1)) (.tuple ds) := by
  obtain ⟨b1, b2, b3, b4, b5, b6⟩ := okAll_facts h
  refine ⟨b1, b2, ?_, b4, b5, ?_⟩
  · show PyData.depthAll ds + 1 ≤ n + 1
    omega
  · show PyData.weightAll ds ≤ _
    exact Nat.le_trans b6 (Nat.mul_le_mul_right _ hl)
theorem Ok.int {n w : Nat} {i : Int} (h : i.natAbs < 2 ^ 30) (hw : 30 ≤ w) : Ok n w (.int i) := by
  have l : i.natAbs.log2 < 30 ∨ i.natAbs = 0 := by
    by_cases z : i.natAbs = 0
    · exact .inr z
    · exact .inl ((Nat.log2_lt z).mpr h)
  have l2 : i.natAbs.log2 < 1920 := by
    rcases l with l | l
    · omega
    · rw [l]
      decide
  refine ⟨decide_eq_true l2, rfl, Nat.zero_le _, rfl, ?_, ?_⟩
  · refine decide_eq_true (Nat.le_trans (PyData.shown_int_le (by omega)) (by decide))
  · show (if i == 0 then 0 else i.natAbs.log2 + 1) ≤ w
    split
    · exact Nat.zero_le _
    · rename_i hi
      rcases l with l | l
      · omega
      · exact absurd (by simpa using Int.natAbs_eq_zero.mp l) hi
theorem okAll.nil {n w : Nat} : okAll n w [] := fun _ h => nomatch h
theorem okAll.cons {n w : Nat} {d : PyData} {ds : List PyData} (h : Ok n w d) (t : okAll n w ds) : okAll n w (d :: ds) := fun x hx => by
  rcases List.mem_cons.mp hx with rfl | hx
  · exact h
  · exact t x hx
theorem okAll.append {n w : Nat} {ds es : List PyData} (h : okAll n w ds) (t : okAll n w es) : okAll n w (ds ++ es) := fun x hx => by
  rcases List.mem_append.mp hx with hx | hx
  · exact h x hx
  · exact t x hx
theorem okAll.sub {n w : Nat} {ds es : List PyData} (h : okAll n w ds) (s : ∀ x ∈ es, x ∈ ds) : okAll n w es := fun x hx => h x (s x hx)
theorem okAll.mono {n w n' w' : Nat} {ds : List PyData} (h : okAll n w ds) (hn : n ≤ n') (hw : w ≤ w') : okAll n' w' ds := fun x hx => (h x hx).mono hn hw
theorem okAll.ints {n w : Nat} {ns : List Int} (h : ∀ i ∈ ns, i.natAbs < 2 ^ 30) (hw : 30 ≤ w) : okAll n w (ns.map PyData.int) := fun x hx => by
  obtain ⟨i, hi, rfl⟩ := List.mem_map.mp hx
  exact .int (h i hi) hw

/-! ## data on the heap -/
mutual
theorem Dp.same {K : PySem.W.Frag} {H H' : Hp} (f : ∀ a xs, SqL K H a xs → SqL K H' a xs) (g : ∀ a xs, SqT K H a xs → SqT K H' a xs) : ∀ (d : PyData) {v : V}, Dp K H v d → Dp K H' v d
  | .none, _, h => by cases h; exact .non
  | .bool _, _, h => by cases h; exact .bl _
  | .int _, _, h => by cases h; exact .int _
  | .str _, _, h => by cases h; exact .str _
  | .list ds, _, h => by
    cases h with
    | lst hs ha => exact .lst (f _ _ hs) (DpAll.same f g ds ha)
  | .tuple ds, _, h => by
    cases h with
    | tup hs ha => exact .tup (g _ _ hs) (DpAll.same f g ds ha)
  | .dict _, _, h => by cases h
theorem DpAll.same {K : PySem.W.Frag} {H H' : Hp} (f : ∀ a xs, SqL K H a xs → SqL K H' a xs) (g : ∀ a xs, SqT K H a xs → SqT K H' a xs) : ∀ (ds : List PyData) {vs : List V}, DpAll K H vs ds → DpAll K H' vs ds
  | [], _, h => by cases h; exact .nil
  | d :: ds, _, h => by
    cases h with
    | cons h1 h2 => exact .cons (Dp.same f g d h1) (DpAll.same f g ds h2)
end
theorem Same.tup {K : PySem.W.Frag} {H H' : Hp} {a : Addr} {xs : List V} (e : Same H H') (h : SqT K H a xs) : SqT K H' a xs := by
  rcases h with (h | ⟨o, h⟩) | h
  · exact .inl (.inl (e _ _ h))
  · exact .inl (.inr ⟨o, e _ _ h⟩)
  · exact .inr h
theorem Dp.sm {K : PySem.W.Frag} {H H' : Hp} {d : PyData} {v : V} (s : Same H H') (h : Dp K H v d) : Dp K H' v d := Dp.same (fun _ _ => s.seq) (fun _ _ => Same.tup s) d h
theorem DpAll.sm {K : PySem.W.Frag} {H H' : Hp} {ds : List PyData} {vs : List V} (s : Same H H') (h : DpAll K H vs ds) : DpAll K H' vs ds := DpAll.same (fun _ _ => s.seq) (fun _ _ => Same.tup s) ds h
section
variable {K : PySem.W.Frag} {H : Hp}
theorem DpAll.length : ∀ {vs : List V} {ds : List PyData}, DpAll K H vs ds → vs.length = ds.length
  | _, [], h => by cases h; rfl
  | _, d :: ds, h => by
    cases h with
    | cons h1 h2 => rw [List.length_cons, List.length_cons, DpAll.length h2]
theorem DpAll.get : ∀ {vs : List V} {ds : List PyData} {i : Nat} {v : V}, DpAll K H vs ds → vs[i]? = some v → ∃ d, ds[i]? = some d ∧ Dp K H v d
  | _, [], i, v, h, e => by cases h; simp at e
  | _, d :: ds, 0, v, h, e => by
    cases h with
    | cons h1 h2 =>
      cases e
      exact ⟨d, rfl, h1⟩
  | _, d :: ds, i + 1, v, h, e => by
    cases h with
    | cons h1 h2 => exact DpAll.get (i := i) h2 (by simpa using e)
theorem DpAll.ints : ∀ (ns : List Int), DpAll K H (ns.map V.int) (ns.map PyData.int)
  | [] => .nil
  | _ :: ns => .cons (.int _) (DpAll.ints ns)
theorem DpAll.bls : ∀ (ns : List Bool), DpAll K H (ns.map V.bl) (ns.map PyData.bool)
  | [] => .nil
  | _ :: ns => .cons (.bl _) (DpAll.bls ns)
theorem DpAll.of_ints : ∀ {vs : List V} {ns : List Int}, DpAll K H vs (ns.map PyData.int) → vs = ns.map V.int
  | _, [], h => by cases h; rfl
  | _, n :: ns, h => by
    cases h with
    | cons h1 h2 =>
      cases h1
      rw [DpAll.of_ints h2]
      rfl
theorem DpAll.append : ∀ {vs ws : List V} {ds es : List PyData}, DpAll K H vs ds → DpAll K H ws es → DpAll K H (vs ++ ws) (ds ++ es)
  | _, _, [], _, h, t => by cases h; exact t
  | _, _, d :: ds, _, h, t => by
    cases h with
    | cons h1 h2 => exact .cons h1 (DpAll.append h2 t)
theorem DpAll.take : ∀ (n : Nat) {vs : List V} {ds : List PyData}, DpAll K H vs ds → DpAll K H (vs.take n) (ds.take n)
  | 0, _, _, _ => .nil
  | n + 1, _, [], h => by cases h; exact .nil
  | n + 1, _, d :: ds, h => by
    cases h with
    | cons h1 h2 => exact .cons h1 (DpAll.take n h2)
theorem DpAll.drop : ∀ (n : Nat) {vs : List V} {ds : List PyData}, DpAll K H vs ds → DpAll K H (vs.drop n) (ds.drop n)
  | 0, _, _, h => h
  | n + 1, _, [], h => by cases h; exact .nil
  | n + 1, _, d :: ds, h => by
    cases h with
    | cons h1 h2 => exact DpAll.drop n h2
end

/-! ## isinstance over data -/
def tyD : PyData → String
  | .none => "NoneType"
  | .bool _ => "bool"
  | .int _ => "int"
  | .str _ => "str"
  | .list _ => "list"
  | .tuple _ => "tuple"
  | .dict _ => "dict"
def isTy (T : String) (d : PyData) : Bool := tyD d == T || (T == "int" && tyD d == "bool")
theorem SqL.ty {K : PySem.W.Frag} {H : Hp} {a : Addr} {xs : List V} (h : SqL K H a xs) : TyX K H (.ref a) (.type "list") := by
  rcases h with (h | ⟨o, h⟩) | ⟨o, its, n, h1, h2, _⟩
  · exact .base (.lst h)
  · exact .base (.frz h)
  · exact .kList h1 h2
theorem SqT.ty {K : PySem.W.Frag} {H : Hp} {a : Addr} {xs : List V} (h : SqT K H a xs) : TyX K H (.ref a) (.type "tuple") := by
  rcases h with (h | ⟨o, h⟩) | ⟨o, its, n, h1, h2, _⟩
  · exact .base (.tup h)
  · exact .fTuple h
  · exact .kTuple h1 h2
theorem Dp.ty {K : PySem.W.Frag} {H : Hp} {v : V} {d : PyData} (h : Dp K H v d) : TyX K H v (.type (tyD d)) := by
  cases h with
  | non => exact .base .non
  | bl b => exact .base (.bl b)
  | int i => exact .base (.int i)
  | str x => exact .base (.str x)
  | lst hs _ => exact SqL.ty hs
  | tup hs _ => exact SqT.ty hs
theorem kit_names : ∀ a ∈ ["NoneType", "bool", "int", "str", "list", "tuple"], ∀ T ∈ ["int", "bool", "list", "tuple", "str"], kitB a T = some (a == T || (T == "int" && a == "bool")) := by decide +kernel
theorem Dp.kit {K : PySem.W.Frag} {H : Hp} {v : V} {d : PyData} (h : Dp K H v d) {T : String} (hT : T ∈ ["int", "bool", "list", "tuple", "str"]) : kitB (tyD d) T = some (isTy T d) := by
  refine kit_names (tyD d) ?_ T hT
  cases h <;> simp [tyD]
section
variable {X : Cx}
theorem call_isiD (T : String) (hT : T ∈ ["int", "bool", "list", "tuple", "str"] := by decide) : CallR X (.builtin "isinstance") (fun xs H Q => ∃ v d, xs = [v, .ty T] ∧ Dp X.K H v d ∧ Q (.bl (isTy T d)) H) := by
  intro pins s σ H xs us Q I r h
  obtain ⟨v, d, rfl, hd, q⟩ := h
  exact call_isi pins s σ H _ us Q I r ⟨v, .ty T, .type (tyD d), .type T, _, rfl, .ty T, Dp.ty hd, kit_ty (Dp.kit hd hT), q⟩
/-- the same within a comprehension, where X.K is K by computation -/
theorem call_isiDK {K : PySem.W.Frag} (T : String) (hK : X.K = K := by rfl) (hT : T ∈ ["int", "bool", "list", "tuple", "str"] := by decide) :
    CallR X (.builtin "isinstance") (fun xs H Q => ∃ v d, xs = [v, .ty T] ∧ Dp K H v d ∧ Q (.bl (isTy T d)) H) := by
  subst hK
  exact call_isiD T hT
end
end Lk
namespace Lk
open PySem PySem.Spec PyProof.Rows L2

/-! ## calls by keywords alone -/
section
variable {X : Cx} {CX : CXT} {k : Nat} {f : Addr} {fd : FuncData} {ps ks : List Str} {sp : Sp} {E : XK} {x : Str} {p pos : Pos} {kws : List Keyword} {tk : TA}
  {g : List Value → List Value → List Value} {gV : List V → List V → List V}
theorem pe_callK0 (F : FnOk X.prog X.w X.K X.mg X.base CX k f fd ps sp) (hr : Room k X.A) (hg : Gl X x) (hm : X.mg x = some (.ref f))
    (hk : PySem.W.keepIn X.K (.ref f) = true) (hb : KBinds X.K fd ps ks g gV) (hx : Passes CX X E) (hkw : PK X kws tk)
    (hall : (backToKw pos (keywordEach kws X.env)).all (·.1.isSome) = true := by rfl) (hks : (backToKw pos (keywordEach kws X.env)).filterMap (·.1) = ks := by rfl)
    (hdb : (x == ("__debug__" : Str)) = false := by decide)
    (hpl : ((backTo pos (starEach [] X.env)).any (·.1) || (backToKw pos (keywordEach kws X.env)).any (·.1.isNone)) = false := by rfl) :
    PE X (.Call (.Name x p) [] kws pos) (tCallK sp gV E tNil tk) := by
  constructor
  intro pins s σ H Q I h
  refine wpAny_Call_Name_kw (ld_glob I hg hm ?_ hdb)
  refine PySem.W.callWith_KW0 (h₀ := X.base) I.ok.mod.kin hk hall ?_ hpl
  refine thn (hkw.run pos pins s σ H _ I h) ?_
  rintro ws s2 ⟨zs, H2, I2, rz, q2⟩
  refine ⟨I2.kIn, ?_⟩
  rw [hks]
  exact run_fnk (us := []) (vs := []) F hr hb hx I2 .nil rz q2
end
def g1 {α : Type} : List α → List α → List α
  | [], [a] => [a]
  | _, _ => []
def g21 {α : Type} : List α → List α → List α
  | [], [a, b] => [b, a]
  | _, _ => []
def g321 {α : Type} : List α → List α → List α
  | [], [a, b, c] => [c, b, a]
  | _, _ => []
section
variable {K : PySem.W.Frag} {x qual : Str} {st : Stmt} {f : Addr} {fd : FuncData} {n m l : Str}
theorem kb1 (F : Fun K x qual st f fd) (h : ∀ (kV doc pm : Value) (an : Option Addr) (cdv ct w : Value),
      bindArgs (PySem.W.fnOf x qual (defArgs st) (defBody st) (defScope st) .none kV doc pm an cdv ct) ⟨[], [(n, w)]⟩ = pure [(n, w)]) : KBinds K fd [n] [n] g1 g1 := by
  obtain ⟨oc, od, kV, doc, pm, an, cdv, ct, osl, rfl, lk, hcd⟩ := F.ex
  constructor
  · intro s us ws _ hl
    match us, ws, hl with
    | [], [w], _ => exact .of_eq (h kV doc pm an cdv ct w)
  · intro vs us zs ws r rz
    cases r with
    | nil =>
      cases rz with
      | nil => exact .nil
      | cons a t =>
        cases t with
        | nil => exact .cons a .nil
        | cons _ _ => exact .nil
    | cons _ _ => exact .nil
theorem kb21 (F : Fun K x qual st f fd) (h : ∀ (kV doc pm : Value) (an : Option Addr) (cdv ct w w' : Value),
      bindArgs (PySem.W.fnOf x qual (defArgs st) (defBody st) (defScope st) .none kV doc pm an cdv ct) ⟨[], [(m, w'), (n, w)]⟩ = pure [(n, w), (m, w')]) : KBinds K fd [n, m] [m, n] g21 g21 := by
  obtain ⟨oc, od, kV, doc, pm, an, cdv, ct, osl, rfl, lk, hcd⟩ := F.ex
  constructor
  · intro s us ws _ hl
    match us, ws, hl with
    | [], [w', w], _ => exact .of_eq (h kV doc pm an cdv ct w w')
  · intro vs us zs ws r rz
    cases r with
    | nil =>
      cases rz with
      | nil => exact .nil
      | cons a t =>
        cases t with
        | nil => exact .nil
        | cons b t =>
          cases t with
          | nil => exact .cons b (.cons a .nil)
          | cons _ _ => exact .nil
    | cons _ _ => exact .nil
theorem kb321 (F : Fun K x qual st f fd) (h : ∀ (kV doc pm : Value) (an : Option Addr) (cdv ct w w' w'' : Value),
      bindArgs (PySem.W.fnOf x qual (defArgs st) (defBody st) (defScope st) .none kV doc pm an cdv ct) ⟨[], [(l, w''), (m, w'), (n, w)]⟩ = pure [(n, w), (m, w'), (l, w'')]) : KBinds K fd [n, m, l] [l, m, n] g321 g321 := by
  obtain ⟨oc, od, kV, doc, pm, an, cdv, ct, osl, rfl, lk, hcd⟩ := F.ex
  constructor
  · intro s us ws _ hl
    match us, ws, hl with
    | [], [w'', w', w], _ => exact .of_eq (h kV doc pm an cdv ct w w' w'')
  · intro vs us zs ws r rz
    cases r with
    | nil =>
      cases rz with
      | nil => exact .nil
      | cons a t =>
        cases t with
        | nil => exact .nil
        | cons b t =>
          cases t with
          | nil => exact .nil
          | cons c t =>
            cases t with
            | nil => exact .cons c (.cons b (.cons a .nil))
            | cons _ _ => exact .nil
    | cons _ _ => exact .nil
end
/-! ## a new object, its heap a letter -/
theorem new_of {H : Hp} {o : HO} {Q : V → Hp → Prop} (h : ∀ p H', Same H H' → H p = none → H' p = some o → Q (.ref p) H') : ∀ p, H p = none → Q (.ref p) (upd H p o) := fun p np => h p _ (fun b x e => by
  rw [upd_ne (ne_of_none e np)]
  exact e) np upd_same
theorem eqv_nil (ds : List PyData) : PyData.eqv (.list ds) (.list []) = ds.isEmpty := by
  cases ds <;> rfl
mutual
theorem eqv_rfl : ∀ d : PyData, d.hasDict = false → PyData.eqv d d = true
  | .none, _ => rfl
  | .bool b, _ => by cases b <;> rfl
  | .int i, _ => by
    show (i == i) = true
    exact beq_self_eq_true i
  | .str x, _ => by
    show (x == x) = true
    exact beq_self_eq_true x
  | .list ds, h => eqvAll_rfl ds h
  | .tuple ds, h => eqvAll_rfl ds h
  | .dict _, h => by cases h
theorem eqvAll_rfl : ∀ ds : List PyData, PyData.hasDictAll ds = false → PyData.eqvAll ds ds = true
  | [], _ => rfl
  | d :: ds, h => by
    have h' : (d.hasDict || PyData.hasDictAll ds) = false := h
    rw [Bool.or_eq_false_iff] at h'
    show (PyData.eqv d d && PyData.eqvAll ds ds) = true
    rw [eqv_rfl d h'.1, eqvAll_rfl ds h'.2]
    rfl
end
/-! ## the rules that lay an object, with the heap behind them a letter -/
def New (o : HO) (H : Hp) (Q : V → Hp → Prop) : Prop := ∀ p H', Same H H' → H p = none → H' p = some o → Q (.ref p) H'
section
variable {X : Cx} {es : List Expr} {t : TA} {pos : Pos}
def tLstN (t : TA) : TE := fun σ H Q => t σ H fun xs H1 => xs.length ≤ sizeLine ∧ New (.lst xs) H1 Q
def tTupN (t : TA) : TE := fun σ H Q => t σ H fun xs H1 => xs.length ≤ sizeLine ∧ New (.tup xs) H1 Q
theorem pe_lstN (h : PA X es t) : PE X (.List es pos) (tLstN t) := by
  constructor
  intro pins s σ H Q I hq
  refine wpAny_List_spliced (thn (h.run pos pins s σ H _ I hq) ?_)
  rintro us s1 ⟨xs, H1, I1, r, z, q⟩
  refine ⟨r.length ▸ z, ?_⟩
  have fresh : H1 s1.heap.objs.size = none := I1.hok.fresh (Nat.le_refl _)
  refine ⟨.ref s1.heap.objs.size, upd H1 s1.heap.objs.size (.lst xs), ?_, rfl, new_of q _ fresh⟩
  exact I1.laid (t' := s1.toks) (fun b u e => Heap.get?_push_of_some _ e) (Nat.le_refl _) ⟨z, us, 0, r, Heap.get?_push_size _ rfl⟩
theorem pe_tupN {x1} (h : PA X es t) : PE X (.Tuple es x1 pos) (tTupN t) := by
  constructor
  intro pins s σ H Q I hq
  refine wpAny_Tuple_spliced (thn (h.run pos pins s σ H _ I hq) ?_)
  rintro us s1 ⟨xs, H1, I1, r, z, q⟩
  refine ⟨r.length ▸ z, ?_⟩
  have fresh : H1 s1.heap.objs.size = none := I1.hok.fresh (Nat.le_refl _)
  refine ⟨.ref s1.heap.objs.size, upd H1 s1.heap.objs.size (.tup xs), ?_, rfl, new_of q _ fresh⟩
  exact I1.laid (t' := s1.toks) (fun b u e => Heap.get?_push_of_some _ e) (Nat.le_refl _) ⟨z, us, r, ⟨_, Heap.get?_push_size _ rfl, rfl, _, rfl⟩⟩
def rCatN : R2 := fun x y H Q => ∃ l b xs zs, x = .ref l ∧ y = .ref b ∧ H l = some (.lst xs) ∧ H b = some (.lst zs) ∧ xs.length + zs.length ≤ sizeLine ∧ New (.lst (xs ++ zs)) H Q
theorem op_catN : OpR X (binaryOp .Add) rCatN := by
  intro pins s σ H x y v u Q I rx ry h
  obtain ⟨l, b, xs, zs, h1, h2, h3, h4, h5, q⟩ := h
  exact op_cat pins s σ H x y v u Q I rx ry ⟨l, b, xs, zs, h1, h2, h3, h4, h5, new_of q⟩
def rRepN : R2 := fun x y H Q => ∃ l k xs, x = .ref l ∧ y = .int k ∧ H l = some (.lst xs) ∧ -(2 ^ 63) ≤ k ∧ k < 2 ^ 63 ∧ xs.length * k.toNat ≤ sizeLine ∧ New (.lst (List.replicate k.toNat xs).flatten) H Q
theorem op_repN : OpR X (binaryOp .Mult) rRepN := by
  intro pins s σ H x y v u Q I rx ry h
  obtain ⟨l, k, xs, h1, h2, h3, h4, h5, h6, q⟩ := h
  exact op_rep pins s σ H x y v u Q I rx ry ⟨l, k, xs, h1, h2, h3, h4, h5, h6, new_of q⟩
theorem call_tupleN : CallR X (.type "tuple") (fun xs H Q => ∃ p ys, xs = [.ref p] ∧ SqL X.K H p ys ∧ New (.tup ys) H Q) := by
  intro pins s σ H xs us Q I r h
  obtain ⟨p, ys, h1, h2, q⟩ := h
  exact call_tuple_of pins s σ H xs us Q I r ⟨p, ys, h1, .inl ⟨h2, new_of q⟩⟩
theorem call_listN : CallR X (.type "list") (fun xs H Q => ∃ p ys, xs = [.ref p] ∧ (SqL X.K H p ys ∨ SqT X.K H p ys) ∧ New (.lst ys) H Q) := by
  intro pins s σ H xs us Q I r h
  obtain ⟨p, ys, h1, h2, q⟩ := h
  exact call_list_of pins s σ H xs us Q I r ⟨p, ys, h1, h2, new_of q⟩
theorem sl_listN : SlR X (fun x lo hi H Q => ∃ a xs, x = .ref a ∧ SqL X.K H a xs ∧ New (.lst (cutV xs lo hi)) H Q) := by
  intro pins s σ H x v vl vu lo hi sl Q I rx hs pl pu h
  obtain ⟨a, xs, h1, h2, q⟩ := h
  exact sl_list pins s σ H x v vl vu lo hi sl Q I rx hs pl pu ⟨a, xs, h1, h2, new_of q⟩
end
end Lk
namespace Lk
open PySem PySem.Spec PyProof.Rows L2
/-! ## mixed digits -/
def prodI : List Int → Int
  | [] => 1
  | n :: ns => n * prodI ns
def prodA (acc : Int) (ns : List Int) : Int := ns.foldl (· * ·) acc
theorem prodA_eq : ∀ (ns : List Int) (acc : Int), prodA acc ns = acc * prodI ns
  | [], acc => by show acc = acc * 1; omega
  | n :: ns, acc => by
    show prodA (acc * n) ns = acc * (n * prodI ns)
    rw [prodA_eq ns (acc * n), Int.mul_assoc]
theorem prodA_one (ns : List Int) : prodA 1 ns = prodI ns := by rw [prodA_eq, Int.one_mul]
def plI : List Int → List Int → Int
  | _ :: ss, v :: vs => v * prodI ss + plI ss vs
  | _, _ => 0
def RowI : List Int → List Int → Prop
  | [], [] => True
  | s :: ss, v :: vs => 0 ≤ v ∧ v < s ∧ RowI ss vs
  | _, _ => False
theorem RowI.len : ∀ {ns vs : List Int}, RowI ns vs → vs.length = ns.length
  | [], [], _ => rfl
  | _ :: _, _ :: _, h => by rw [List.length_cons, List.length_cons, RowI.len h.2.2]
  | [], _ :: _, h => h.elim
  | _ :: _, [], h => h.elim
theorem prodI_pos : ∀ {ns : List Int}, (∀ s ∈ ns, 0 < s) → 0 < prodI ns
  | [], _ => by decide
  | n :: ns, h => Int.mul_pos (h n (List.mem_cons_self ..)) (prodI_pos fun s hs => h s (List.mem_cons_of_mem _ hs))
theorem step_lt {v s a P : Int} (h1 : v < s) (h2 : a < P) (hP : 0 < P) : v * P + a < s * P := by
  have h : (v + 1) * P ≤ s * P := Int.mul_le_mul_of_nonneg_right (by omega) (by omega)
  rw [Int.add_mul, Int.one_mul] at h
  omega
theorem pl_bound : ∀ {ns vs : List Int}, RowI ns vs → 0 ≤ plI ns vs ∧ plI ns vs < prodI ns
  | [], [], _ => by decide
  | s :: ss, v :: vs, h => by
    have ih := pl_bound h.2.2
    have hP : 0 < prodI ss := by omega
    refine ⟨?_, ?_⟩
    · show 0 ≤ v * prodI ss + plI ss vs
      have := Int.mul_nonneg h.1 (Int.le_of_lt hP)
      omega
    · exact step_lt h.2.1 ih.2 hP
  | [], _ :: _, h => h.elim
  | _ :: _, [], h => h.elim
theorem digit_cmp {v w a b P : Int} (ha : 0 ≤ a) (ha' : a < P) (hb : 0 ≤ b) (hb' : b < P) (h : v * P + a < w * P + b) : v < w ∨ v = w ∧ a < b := by
  by_cases e : v < w
  · exact .inl e
  · by_cases e2 : v = w
    · subst e2
      exact .inr ⟨rfl, by omega⟩
    · have : w < v := by omega
      have := step_lt this hb' (by omega)
      omega
theorem digit_eq {v w a b P : Int} (ha : 0 ≤ a) (ha' : a < P) (hb : 0 ≤ b) (hb' : b < P) (h : v * P + a = w * P + b) : v = w ∧ a = b := by
  by_cases e : v < w
  · have := step_lt e ha' (by omega)
    omega
  · by_cases e2 : v = w
    · subst e2
      exact ⟨rfl, by omega⟩
    · have : w < v := by omega
      have := step_lt this hb' (by omega)
      omega
theorem pl_inj : ∀ {ns vs ws : List Int}, RowI ns vs → RowI ns ws → plI ns vs = plI ns ws → vs = ws
  | [], [], [], _, _, _ => rfl
  | s :: ss, v :: vs, w :: ws, h, g, e => by
    have b1 := pl_bound h.2.2
    have b2 := pl_bound g.2.2
    obtain ⟨rfl, e2⟩ := digit_eq b1.1 b1.2 b2.1 b2.2 (show v * prodI ss + plI ss vs = w * prodI ss + plI ss ws from e)
    rw [pl_inj h.2.2 g.2.2 e2]
  | [], _ :: _, _, h, _, _ => h.elim
  | [], [], _ :: _, _, g, _ => g.elim
  | _ :: _, [], _, h, _, _ => h.elim
  | _ :: _, _ :: _, [], _, g, _ => g.elim
/-! ## lists of integers in Python's order -/
def ltL : List Int → List Int → Bool
  | x :: xs, y :: ys => if x = y then ltL xs ys else decide (x < y)
  | [], _ :: _ => true
  | _, [] => false
theorem pl_lt : ∀ {ns vs ws : List Int}, RowI ns vs → RowI ns ws → plI ns vs < plI ns ws → ltL vs ws = true
  | [], [], [], _, _, e => absurd e (by decide)
  | s :: ss, v :: vs, w :: ws, h, g, e => by
    have b1 := pl_bound h.2.2
    have b2 := pl_bound g.2.2
    show (if v = w then ltL vs ws else decide (v < w)) = true
    rcases digit_cmp b1.1 b1.2 b2.1 b2.2 (show v * prodI ss + plI ss vs < w * prodI ss + plI ss ws from e) with q | ⟨rfl, q⟩
    · rw [if_neg (by omega), decide_eq_true q]
    · rw [if_pos rfl]
      exact pl_lt h.2.2 g.2.2 q
  | [], _ :: _, _, h, _, _ => h.elim
  | [], [], _ :: _, _, g, _ => g.elim
  | _ :: _, [], _, h, _, _ => h.elim
  | _ :: _, _ :: _, [], _, g, _ => g.elim
theorem firstLt_map {e r : Nat → Bool} {fin : Bool} : ∀ l : List Nat, SeqAt.firstLt e r fin (l.map Nat.succ) = SeqAt.firstLt (fun j => e (j + 1)) (fun j => r (j + 1)) fin l
  | [] => rfl
  | j :: l => by
    show (if e (j + 1) = true then SeqAt.firstLt e r fin (l.map Nat.succ) else r (j + 1)) = _
    rw [firstLt_map l]
    rfl
theorem firstLt_ltL : ∀ (xs ys : List Int), SeqAt.firstLt (fun j => decide (xs.getD j 0 = ys.getD j 0)) (fun j => decide (xs.getD j 0 < ys.getD j 0)) (decide (xs.length < ys.length)) (List.range (min xs.length ys.length)) = ltL xs ys
  | [], [] => rfl
  | [], _ :: _ => by
    show decide _ = true
    rw [List.length_nil, List.length_cons, decide_eq_true (by omega)]
  | _ :: _, [] => by
    show decide _ = false
    rw [List.length_nil, List.length_cons, decide_eq_false (by omega)]
  | x :: xs, y :: ys => by
    rw [List.length_cons, List.length_cons, show min (xs.length + 1) (ys.length + 1) = min xs.length ys.length + 1 by omega, List.range_succ_eq_map]
    show (if decide (x = y) = true then SeqAt.firstLt _ _ _ ((List.range (min xs.length ys.length)).map Nat.succ) else decide (x < y)) = (if x = y then ltL xs ys else decide (x < y))
    rw [firstLt_map, ← firstLt_ltL xs ys]
    by_cases q : x = y
    · rw [decide_eq_true q, if_pos rfl, if_pos q]
      simp only [List.getD_cons_succ, Nat.add_lt_add_iff_right]
    · rw [decide_eq_false q, if_neg Bool.false_ne_true, if_neg q]
theorem op_ltL {X : Cx} (hu : X.A.units < cLine) : OpR X (compareOp .Lt) (fun x y H Q => ∃ (a b : Addr) (ns ms : List Int), x = .ref a ∧ y = .ref b ∧ SqL X.K H a (ns.map V.int) ∧ SqL X.K H b (ms.map V.int) ∧ Q (.bl (ltL ns ms)) H) := by
  intro pins s σ H x y v u Q I rx ry h
  obtain ⟨a, b, ns, ms, rfl, rfl, ha, hb, q⟩ := h
  cases rx
  cases ry
  obtain ⟨its, r1, p1, _⟩ := I.list ha
  obtain ⟨its2, r2, p2, _⟩ := I.list hb
  have i1 : IntsAre its ns := Vals.ints r1
  have i2 : IntsAre its2 ms := Vals.ints r2
  have z1 : its.toArray.size = ns.length := List.size_toArray ▸ i1.length
  have z2 : its2.toArray.size = ms.length := List.size_toArray ▸ i2.length
  have g1 : ∀ j (h1 : j < its.toArray.size), ∃ t, its.toArray[j] = .int (ns.getD j 0) t := fun j h1 => PyProof.Rows.IntsAre.int_at i1 _ _ (by simp at h1; simp [h1])
  have g2 : ∀ j (h1 : j < its2.toArray.size), ∃ t, its2.toArray[j] = .int (ms.getD j 0) t := fun j h1 => PyProof.Rows.IntsAre.int_at i2 _ _ (by simp at h1; simp [h1])
  have R := SeqAt.RcLt.lists (A := X.A) (s := s) (e := fun j => decide (ns.getD j 0 = ms.getD j 0)) (r := fun j => decide (ns.getD j 0 < ms.getD j 0)) p1.isList p2.isList hu ?eq ?lt
  · rw [z1, z2, firstLt_ltL] at R
    exact R X.prog X.w X.xe (EP X pins σ Q) ⟨.bl _, H, I, rfl, q⟩
  case eq =>
    intro j h1 h2
    obtain ⟨t, et⟩ := g1 j h1
    obtain ⟨t', et'⟩ := g2 j h2
    rw [et, et', show decide (ns.getD j 0 = ms.getD j 0) = (ns.getD j 0 == ms.getD j 0) by
      by_cases q : ns.getD j 0 = ms.getD j 0
      · rw [decide_eq_true q, beq_iff_eq.mpr q]
      · rw [decide_eq_false q, beq_eq_false_iff_ne.mpr q]]
    exact SeqAt.EqAt.int_int _ _ _ _
  case lt =>
    intro j h1 h2 _
    obtain ⟨t, et⟩ := g1 j h1
    obtain ⟨t', et'⟩ := g2 j h2
    rw [et, et']
    exact fun prog w E Q z => PyProof.Rows.lt_int z
end Lk
namespace Lk
open PySem PySem.Spec PyProof.Rows L2
def top (i : Nat) : Stmt := PySem.Challenge.pw_leastreasons_k03_cases_that_complete.main.body.getD i (.Pass ⟨0, 0, 0, 0⟩)
abbrev sDeck : Stmt := top 28
abbrev sTake : Stmt := top 29
theorem scDeck : FnScope ["script", "seed", "cell"] ["script"] (defScope sDeck) := ⟨rfl, rfl, rfl, by decide +kernel, rfl, by decide +kernel, by decide +kernel⟩

/-- the deck at p, its cells at c -/
def DeckAt (H : Hp) (p c : Addr) : Prop := ∃ (cells : List Int) (pos : Nat) (seed extra : Int),
  H p = some (.lst [.ref c, .int pos, .int seed, .int extra]) ∧ H c = some (.lst (cells.map V.int)) ∧ cells.length ≤ 63 ∧ (∀ z ∈ cells, 0 ≤ z) ∧ 0 ≤ seed ∧ seed < 2147483647
theorem same_upd {H : Hp} {p : Addr} {o : HO} (h : H p = none) : Same H (upd H p o) := fun b x e => by
  rw [upd_ne (ne_of_none e h)]
  exact e
theorem upd_id {H : Hp} {p : Addr} {o : HO} (h : H p = some o) : upd H p o = H := by
  funext b
  by_cases e : b = p
  · rw [e, upd_same, h]
  · rw [upd_ne e]
theorem cut_up {xs : List V} {n : Nat} (h : xs.length ≤ n) : cutV xs none (some (n : Int)) = xs := by
  unfold cutV
  rw [HT.sIx_none, HT.sIx_nat, Nat.min_eq_right h]
  show List.take (xs.length - 0) xs = xs
  exact List.take_length
section
variable {P : Program} {w : World} {K : PySem.W.Frag} {mg : Str → Option Value} {base : Heap}
def spDeck (K : PySem.W.Frag) : Sp := fun vs H Q _ => ∃ (a : Addr) (ns : List Int), vs = [.ref a] ∧ SqL K H a (ns.map V.int) ∧ ns.length ≤ 63 ∧
  ∀ H' p c, Same H H' → H p = none → H c = none → DeckAt H' p c → Q (.ref p) H'
theorem ok_deck {f : Addr} {fd : FuncData} {k : Nat} (F : Fun K "_law_deck" "_law_deck" sDeck f fd) (mi : mg "int" = none) (ma : mg "abs" = none) : FnOk P w K mg base CX0 (k + 1) f fd ["script"] (spDeck K) := by
  refine F.ok scDeck (fun vs H Q E h => ?_) (fun cdv A outer s H vs Q E hr h => ?_)
  · obtain ⟨a, ns, rfl, _⟩ := h
    rfl
  · obtain ⟨a, ns, rfl, hS, hlen, q⟩ := h
    refine ⟨_, pss_cons (ps_set (i := 1) scDeck.nd rfl (.inl rfl) pe_int)
      (pss_cons (ps_for PassesOwn.never rfl (pi_list (pe_slice sl_list (pv 0) po_none (po_some pe_int))) (pg_name (i := 2) scDeck.nd rfl (.inl rfl))
        (pss_one (ps_set (i := 1) scDeck.nd rfl (.inl rfl) (pe_op op_mod (pe_callTy call_int1 (by rfl) mi (by decide +kernel) (pa_cons (pe_op op_add (pe_op op_add (pe_op op_mul (pv 1) pe_int)
          (pe_op op_mod (pe_callTy call_int1 (by rfl) mi (by decide +kernel) (pa_cons (pv 2) pa_nil)) pe_int)) pe_int) pa_nil)) pe_int))))
      (pss_one (ps_ret (pe_lst (pa_cons (pe_lc (own := [("cell", 2)]) (g := gName 2) (tt := tYes) rfl scDeck.nd (pi_list (pe_slice sl_list (pv 0) po_none (po_some pe_int)))
            (blkOk_by (own := [("cell", 2)]) (N := ["script", "seed", "cell"]) (sc := defScope sDeck) (by decide +kernel)) (fun _ _ _ _ _ => pg_name (i := 2) scDeck.nd rfl (Or.inl rfl)) (fun _ _ _ _ _ => pts_nil)
            (fun _ _ _ _ _ => pe_op op_mod (pe_callTy call_int1 (by rfl) mi (by decide +kernel) (pa_cons (pe_callB call_abs (by rfl) ma (by decide +kernel) (pa_cons (pv 2) pa_nil)) pa_nil)) (pe_op op_powN (pe_op op_powN pe_int pe_int) pe_int)))
          (pa_cons pe_int (pa_cons (pv 1) (pa_cons pe_int pa_nil)))))))), ?_⟩
    have hlV : (ns.map V.int).length ≤ 63 := by
      rw [List.length_map]
      exact hlen
    refine ⟨_, rfl, 63, rfl, a, ns.map V.int, rfl, hS, fun c1 nc1 => ?_⟩
    have s1 := same_upd (o := .lst (cutV (ns.map V.int) none (some 63))) nc1
    rw [show cutV (ns.map V.int) none (some 63) = ns.map V.int from cut_up hlV] at s1 ⊢
    have hL : SqL K (upd H c1 (.lst (ns.map V.int))) c1 (ns.map V.int) := .inl (.inl upd_same)
    refine ⟨c1, rfl, ⟨_, hL⟩, for_list (K := K) (a := c1) (xs := ns.map V.int) (fun i σ H' => ∃ (z : Int) (y : Option V), σ = [some (.ref a), some (.int z), y] ∧ H' = upd H c1 (.lst (ns.map V.int)) ∧ 0 ≤ z ∧ z < 2147483647)
      ⟨40009, none, rfl, rfl, by decide, by decide⟩ (fun i σ H' _ ⟨_, _, _, e, _⟩ => by rw [e]; exact hL) ?_ ?_⟩
    · rintro i v σ H' hi ⟨z, y, rfl, rfl, z0, z1⟩
      obtain ⟨n, rfl⟩ : ∃ n, v = V.int n := by
        obtain ⟨n, _, e⟩ := List.mem_map.mp (List.mem_of_getElem? hi)
        exact ⟨n, e.symm⟩
      refine ⟨_, rfl, z, 62089911, rfl, rfl, .inr ⟨by decide, by decide⟩, _, rfl, .inl ⟨n, rfl, n, 2147483629, rfl, rfl, (by show (0 : Int) < 2147483629; decide), _, _, rfl, rfl, _, _, rfl, rfl, .inl ⟨_, rfl, ?_⟩⟩⟩
      refine ⟨_, 2147483647, rfl, rfl, (by show (0 : Int) < 2147483647; decide), _, _, rfl, rfl, Int.emod_nonneg _ (by decide), Int.emod_lt_of_pos _ (by decide)⟩
    · rintro σ H' ⟨z, y, rfl, rfl, z0, z1⟩
      refine ⟨_, rfl, 63, rfl, a, ns.map V.int, rfl, s1.seq hS, fun c2 nc2 => ?_⟩
      have s2 := same_upd (o := .lst (cutV (ns.map V.int) none (some 63))) nc2
      rw [show cutV (ns.map V.int) none (some 63) = ns.map V.int from cut_up hlV] at s2 ⊢
      have hL2 : SqL K (upd (upd H c1 (.lst (ns.map V.int))) c2 (.lst (ns.map V.int))) c2 (ns.map V.int) := .inl (.inl upd_same)
      refine ⟨c2, rfl, ⟨_, hL2⟩, fun D nD => ?_⟩
      have s3 := same_upd (o := .lst []) nD
      refine lc_list (K := K) (a := c2) (xs := ns.map V.int) (fun i H' => ∃ ms : List Int, ms.length = i ∧ (∀ z ∈ ms, 0 ≤ z) ∧ Same (upd (upd H c1 (.lst (ns.map V.int))) c2 (.lst (ns.map V.int))) H' ∧ H' D = some (.lst (ms.map V.int)))
        ⟨[], rfl, fun _ h => (nomatch h), s3, upd_same⟩ (fun i H' _ ⟨_, _, _, sm, _⟩ => sm.seq hL2) ?_ ?_
      · rintro i v H' hi ⟨ms, el, nn, sm, eD⟩
        obtain ⟨n, rfl⟩ : ∃ n, v = V.int n := by
          obtain ⟨n, _, e⟩ := List.mem_map.mp (List.mem_of_getElem? hi)
          exact ⟨n, e.symm⟩
        have hi2 : i < 63 := Nat.lt_of_lt_of_le (List.getElem?_eq_some_iff.mp hi).1 hlV
        refine ⟨rfl, ?_⟩
        refine ⟨_, rfl, n, rfl, .inl ⟨_, rfl, ?_⟩⟩
        refine ⟨10, 60, rfl, rfl, ⟨by decide, by decide⟩, 10 ^ 60, 10, rfl, rfl, ⟨by decide, by decide +kernel⟩, _, _, rfl, rfl, (by show (0 : Int) < (10 ^ 60) ^ Int.toNat 10; decide +kernel), ?_⟩
        refine ⟨ms.map V.int, eD, ?_, ms ++ [(if n < 0 then -n else n) % ((10 ^ 60) ^ Int.toNat 10)], ?_, ?_, ?_, ?_⟩
        · rw [List.length_map, el]
          exact small1000 (by omega)
        · rw [List.length_append, el]
          rfl
        · intro z hz
          rcases List.mem_append.mp hz with hz | hz
          · exact nn z hz
          · rw [List.mem_singleton.mp hz]
            exact Int.emod_nonneg _ (by decide +kernel)
        · intro b o e
          have nb : b ≠ D := ne_of_none e nD
          rw [upd_ne nb]
          exact sm b o e
        · rw [upd_same, List.map_append]
          rfl
      · rintro H' ⟨ms, el, nn, sm, eD⟩
        refine ⟨_, rfl, (by show 4 ≤ sizeLine; decide), fun p np => ?_⟩
        have nDp : D ≠ p := ne_of_none eD np
        have nD0 : H D = none := (s1.trans s2).free nD
        refine q _ p D (((s1.trans s2).trans sm).trans (same_upd np)) (((s1.trans s2).trans sm).free np) nD0 ⟨ms, 0, z, 0, upd_same, ?_, ?_, nn, z0, z1⟩
        · rw [upd_ne nDp]
          exact eD
        · rw [el]
          exact hlV

/-! ### a take -/
theorem scTake : FnScope ["deck", "wide", "left", "mixed"] ["deck", "wide"] (defScope sTake) := ⟨rfl, rfl, rfl, by decide +kernel, rfl, by decide +kernel, by decide +kernel⟩
/-- all but the deck's two lists is as it was -/
def Kept (p c : Addr) (H H' : Hp) : Prop := ∀ b o, b ≠ p → b ≠ c → H b = some o → H' b = some o
def spTake : Sp := fun vs H Q _ => ∃ (p c : Addr) (wide : Int), vs = [.ref p, .int wide] ∧ DeckAt H p c ∧ 0 < wide ∧ wide.natAbs.log2 < 9000 ∧
  ∀ H' r, Kept p c H H' → DeckAt H' p c → 0 ≤ r → r < wide → (∀ b, H' b = none → H b = none) → Q (.int r) H'
theorem ok_take {f : Addr} {fd : FuncData} {k : Nat} (F : Fun K "_law_take" "_law_take" sTake f fd) (mi : mg "int" = none) (ml : mg "len" = none) : FnOk P w K mg base CX0 (k + 1) f fd ["deck", "wide"] spTake := by
  refine F.ok scTake (fun vs H Q E h => ?_) (fun cdv A outer s H vs Q E hr h => ?_)
  · obtain ⟨a, c, w, rfl, _⟩ := h
    rfl
  · obtain ⟨p, c, wide, rfl, hD, w0, w1, q⟩ := h
    refine ⟨_, pss_cons (ps_while PassesOwn.never (PW.pt (pw_and (pt_cmpR op_lt (pe_ix ix_list (pv 0) pe_int (fun _ _ => rfl)) (pe_callB call_len_seq (by rfl) ml PySem.boot_len (pa_cons (pe_ix ix_list (pv 0) pe_int (fun _ _ => rfl)) pa_nil)) (nomark _))
          (pw_and1 (pt_cmpR op_eq (pe_ix ix_list (pe_ix ix_list (pv 0) pe_int (fun _ _ => rfl)) (pe_ix ix_list (pv 0) pe_int (fun _ _ => rfl)) (fun _ _ => rfl)) pe_int (nomark _)))))
        (pss_one (ps_asg (pe_op op_add (pe_ix ix_list (pv 0) pe_int (fun _ _ => rfl)) pe_int) (pg_sub (pv 0) pe_int set_list))))
      (pss_cons (ps_if (pt_cmpR op_lt (pe_ix ix_list (pv 0) pe_int (fun _ _ => rfl)) (pe_callB call_len_seq (by rfl) ml PySem.boot_len (pa_cons (pe_ix ix_list (pv 0) pe_int (fun _ _ => rfl)) pa_nil)) (nomark _))
          (pss_cons (ps_set (i := 2) scTake.nd rfl (.inl rfl) (pe_ix ix_list (pe_ix ix_list (pv 0) pe_int (fun _ _ => rfl)) (pe_ix ix_list (pv 0) pe_int (fun _ _ => rfl)) (fun _ _ => rfl)))
          (pss_cons (ps_asg (pe_op op_fdivW (pv 2) (pv 1)) (pg_sub (pe_ix ix_list (pv 0) pe_int (fun _ _ => rfl)) (pe_ix ix_list (pv 0) pe_int (fun _ _ => rfl)) set_list))
          (pss_one (ps_ret (pe_op op_mod (pe_callTy call_int1 (by rfl) mi (by decide +kernel) (pa_cons (pv 2) pa_nil)) (pv 1)))))) pss_nil)
      (pss_cons (ps_asg (pe_op op_add (pe_ix ix_list (pv 0) pe_int (fun _ _ => rfl)) pe_int) (pg_sub (pv 0) pe_int set_list))
      (pss_cons (ps_set (i := 3) scTake.nd rfl (.inl rfl) (pe_op op_add (pe_op op_add (pe_op op_add (pe_op op_pow (pe_ix ix_list (pv 0) pe_int (fun _ _ => rfl)) pe_int) (pe_op op_mul pe_int (pe_ix ix_list (pv 0) pe_int (fun _ _ => rfl))))
          (pe_op op_mul pe_int (pe_ix ix_list (pv 0) pe_int (fun _ _ => rfl)))) pe_int))
      (pss_cons (ps_asg (pe_op op_mod (pe_callTy call_int1 (by rfl) mi (by decide +kernel) (pa_cons (pv 3) pa_nil)) pe_int) (pg_sub (pv 0) pe_int set_list))
      (pss_one (ps_ret (pe_op op_mod (pe_op op_fdiv (pe_callTy call_int1 (by rfl) mi (by decide +kernel) (pa_cons (pe_op op_add (pe_op op_mul (pe_ix ix_list (pv 0) pe_int (fun _ _ => rfl)) (pe_ix ix_list (pv 0) pe_int (fun _ _ => rfl)))
          (pe_op op_fdiv (pe_ix ix_list (pv 0) pe_int (fun _ _ => rfl)) pe_int)) pa_nil)) pe_int) (pv 1)))))))), ?_⟩
    obtain ⟨cells, pos, seed, extra, hp, hc, hl, hn, hs0, hs1⟩ := hD
    have ncp : c ≠ p := fun e => by
      rw [e, hp] at hc
      have e2 := HO.lst.inj (Option.some.inj hc)
      cases cells with
      | nil => cases e2
      | cons z r => cases (List.cons.inj e2).1
    refine ⟨fun m σ H' => ∃ (pos : Nat), σ = [some (.ref p), some (.int wide), none, none] ∧ H' = upd H p (.lst [.ref c, .int pos, .int seed, .int extra]) ∧ m = cells.length - pos,
      ⟨_, pos, rfl, (upd_id hp).symm, rfl⟩, ?_⟩
    rintro m σ H' ⟨pos, rfl, rfl, rfl⟩
    clear hp
    have qp : SqL K (upd H p (.lst [.ref c, .int pos, .int seed, .int extra])) p [.ref c, .int pos, .int seed, .int extra] := .inl (.inl upd_same)
    have hcc : (upd H p (.lst [.ref c, .int pos, .int seed, .int extra])) c = some (.lst (cells.map V.int)) := by
      rw [upd_ne ncp]
      exact hc
    have qc : SqL K (upd H p (.lst [.ref c, .int pos, .int seed, .int extra])) c (cells.map V.int) := .inl (.inl hcc)
    have fre : ∀ (o o' : HO) b, upd (upd H p o) c o' b = none → H b = none := fun o o' b h => by
      by_cases e1 : b = c
      · rw [e1, upd_same] at h
        cases h
      · rw [upd_ne e1] at h
        by_cases e2 : b = p
        · rw [e2, upd_same] at h
          cases h
        · rw [upd_ne e2] at h
          exact h
    have fre1 : ∀ (o : HO) b, upd H p o b = none → H b = none := fun o b h => by
      by_cases e2 : b = p
      · rw [e2, upd_same] at h
        cases h
      · rw [upd_ne e2] at h
        exact h
    have hlen : (((cells.map V.int).length : Nat) : Int) = (cells.length : Int) := by rw [List.length_map]
    refine ⟨_, rfl, p, _, 1, .int pos, rfl, rfl, qp, atI_nat (j := 1) rfl, _, rfl, p, _, 0, .ref c, rfl, rfl, qp, atI_nat (j := 0) rfl, c, _, rfl, .inl qc, _, _, rfl, rfl, _, rfl, ?_⟩
    refine ite2 (fun e1 => ?_) (fun e1 => ?_)
    · have lt : pos < cells.length := by
        have z := of_decide_eq_true e1
        rw [hlen] at z
        omega
      have hg : (cells.map V.int)[pos]? = some (.int cells[pos]) := by
        rw [List.getElem?_map, List.getElem?_eq_getElem lt]
        rfl
      refine ⟨_, rfl, p, _, 0, .ref c, rfl, rfl, qp, atI_nat (j := 0) rfl, _, rfl, p, _, 1, .int pos, rfl, rfl, qp, atI_nat (j := 1) rfl, c, _, pos, _, rfl, rfl, qc, atI_nat hg, rfl, _, rfl, ?_⟩
      refine ite2 (fun e2 => ?_) (fun e2 => ?_)
      · refine ⟨fun σ' H' => σ' = [some (.ref p), some (.int wide), none, none] ∧ H' = upd H p (.lst [.ref c, .int ((pos + 1 : Nat) : Int), .int seed, .int extra]),
          fun σ' H' ⟨a1, a2⟩ => ⟨cells.length - (pos + 1), by omega, pos + 1, a1, a2, rfl⟩, ?_⟩
        refine ⟨_, rfl, p, _, 1, .int pos, rfl, rfl, qp, atI_nat (j := 1) rfl, _, _, rfl, rfl, _, rfl, p, _, 1, 1, rfl, rfl, upd_same, rfl, rfl, ?_⟩
        rw [upd_upd]
        rfl
      · refine ⟨_, rfl, p, _, 1, .int pos, rfl, rfl, qp, atI_nat (j := 1) rfl, _, rfl, p, _, 0, .ref c, rfl, rfl, qp, atI_nat (j := 0) rfl, c, _, rfl, .inl qc, _, _, rfl, rfl, _, rfl, ?_⟩
        refine ite2 (fun e3 => ?_) (fun e3 => absurd e1 e3)
        refine ⟨_, rfl, p, _, 0, .ref c, rfl, rfl, qp, atI_nat (j := 0) rfl, _, rfl, p, _, 1, .int pos, rfl, rfl, qp, atI_nat (j := 1) rfl, c, _, pos, _, rfl, rfl, qc, atI_nat hg, ?_⟩
        refine ⟨_, rfl, _, rfl, _, _, rfl, rfl, ⟨w0, w1⟩, ?_⟩
        refine ⟨_, rfl, p, _, 0, .ref c, rfl, rfl, qp, atI_nat (j := 0) rfl, _, rfl, p, _, 1, .int pos, rfl, rfl, qp, atI_nat (j := 1) rfl, c, _, pos, pos, rfl, rfl, hcc, ?_, ?_⟩
        · unfold ixN
          rw [if_pos (by omega), if_pos (by rw [hlen]; omega)]
          rfl
        refine ⟨_, rfl, .inl ⟨_, rfl, _, rfl, _, _, rfl, rfl, w0, ?_⟩⟩
        have nn : 0 ≤ cells[pos] := hn _ (List.getElem_mem lt)
        refine q _ _ (fun b o n1 n2 e => ?_) ⟨cells.set pos (cells[pos] / wide), pos, seed, extra, ?_, ?_, ?_, ?_, hs0, hs1⟩ (Int.emod_nonneg _ (by omega)) (Int.emod_lt_of_pos _ w0) (fre _ _)
        · rw [upd_ne n2, upd_ne n1]
          exact e
        · rw [upd_ne ncp.symm, upd_same]
        · rw [upd_same, List.map_set]
        · rw [List.length_set]
          exact hl
        · intro z hz
          rcases List.mem_or_eq_of_mem_set hz with h | h
          · exact hn z h
          · rw [h]
            exact Int.ediv_nonneg nn (by omega)
    · refine ⟨_, rfl, p, _, 1, .int pos, rfl, rfl, qp, atI_nat (j := 1) rfl, _, rfl, p, _, 0, .ref c, rfl, rfl, qp, atI_nat (j := 0) rfl, c, _, rfl, .inl qc, _, _, rfl, rfl, _, rfl, ?_⟩
      refine ite2 (fun e3 => absurd e3 e1) (fun e3 => ?_)
      refine ⟨_, rfl, p, _, 3, .int extra, rfl, rfl, qp, atI_nat (j := 3) rfl, _, _, rfl, rfl, _, rfl, p, _, 3, 3, rfl, rfl, upd_same, rfl, ?_⟩
      rw [upd_upd]
      have q2 : SqL K (upd H p (.lst [.ref c, .int pos, .int seed, .int (extra + 1)])) p [.ref c, .int pos, .int seed, .int (extra + 1)] := .inl (.inl upd_same)
      refine ⟨_, rfl, p, _, 2, .int seed, rfl, rfl, q2, atI_nat (j := 2) rfl, seed, 3, rfl, rfl, ⟨by decide, by decide, by omega⟩, _, rfl, p, _, 2, .int seed, rfl, rfl, q2, atI_nat (j := 2) rfl, 69997, seed, rfl, rfl, .inl ⟨by decide, by decide⟩,
        _, _, rfl, rfl, _, rfl, p, _, 3, .int (extra + 1), rfl, rfl, q2, atI_nat (j := 3) rfl, 1009, _, rfl, rfl, .inl ⟨by decide, by decide⟩, _, _, rfl, rfl, _, _, rfl, rfl, ?_⟩
      refine ⟨_, rfl, .inl ⟨_, rfl, _, 2147483647, rfl, rfl, (by show (0 : Int) < 2147483647; decide), _, rfl, p, _, 2, 2, rfl, rfl, upd_same, rfl, ?_⟩⟩
      rw [upd_upd]
      dsimp only
      obtain ⟨m, hm⟩ : ∃ m : Int, m = (seed ^ Int.toNat 3 + 69997 * seed + 1009 * (extra + 1) + 5) % 2147483647 := ⟨_, rfl⟩
      rw [← hm]
      have m0 : 0 ≤ m := by
        rw [hm]
        exact Int.emod_nonneg _ (by decide)
      have m1 : m < 2147483647 := by
        rw [hm]
        exact Int.emod_lt_of_pos _ (by decide)
      have q3 : SqL K (upd H p (.lst [.ref c, .int pos, .int m, .int (extra + 1)])) p [.ref c, .int pos, .int m, .int (extra + 1)] := .inl (.inl upd_same)
      refine ⟨_, rfl, p, _, 2, .int m, rfl, rfl, q3, atI_nat (j := 2) rfl, _, rfl, p, _, 2, .int m, rfl, rfl, q3, atI_nat (j := 2) rfl, m, m, rfl, rfl, .inl ⟨by omega, by omega⟩,
        _, rfl, p, _, 2, .int m, rfl, rfl, q3, atI_nat (j := 2) rfl, m, 7919, rfl, rfl, ⟨by decide, by decide⟩, _, _, rfl, rfl, .inl ⟨_, rfl, _, 31, rfl, rfl, ⟨by decide, by decide⟩, _, rfl, _, _, rfl, rfl, w0, ?_⟩⟩
      refine q _ _ (fun b o n1 n2 e => ?_) ⟨cells, pos, m, extra + 1, upd_same, ?_, hl, hn, m0, m1⟩ (Int.emod_nonneg _ (by omega)) (Int.emod_lt_of_pos _ w0) (fre1 _)
      · rw [upd_ne n1]
        exact e
      · rw [upd_ne ncp]
        exact hc
end
end Lk
namespace Lk
open PySem PySem.Spec PyProof.Rows L2
abbrev sIsInteger : Stmt := top 7
abbrev sIsSizes : Stmt := top 14
abbrev sCheckSizes : Stmt := top 15
abbrev sNumber : Stmt := top 20
abbrev sIsSmallSheet : Stmt := top 21
/-! ### the mathematics -/
def intD : PyData → Bool
  | .int _ => true
  | _ => false
def sizeD : PyData → Bool
  | .int i => decide (2 ≤ i) && decide (i ≤ 6)
  | _ => false
def fitD : PyData → Bool
  | .list ds => decide (ds.length ≤ 24) && ds.all sizeD
  | _ => false
theorem fitD_ints : ∀ {ds : List PyData}, ds.all sizeD = true → ∃ ns : List Int, ds = ns.map PyData.int ∧ ∀ i ∈ ns, 2 ≤ i ∧ i ≤ 6
  | [], _ => ⟨[], rfl, fun _ h => nomatch h⟩
  | d :: ds, h => by
    rw [List.all_cons, Bool.and_eq_true] at h
    obtain ⟨ns, rfl, hn⟩ := fitD_ints h.2
    cases d with
    | int i =>
      have h1 := h.1
      simp only [sizeD, Bool.and_eq_true, decide_eq_true_eq] at h1
      refine ⟨i :: ns, rfl, fun j hj => ?_⟩
      rcases List.mem_cons.mp hj with rfl | hj
      · exact h1
      · exact hn j hj
    | none => exact absurd h.1 (by simp [sizeD])
    | bool b => exact absurd h.1 (by simp [sizeD])
    | str b => exact absurd h.1 (by simp [sizeD])
    | list b => exact absurd h.1 (by simp [sizeD])
    | tuple b => exact absurd h.1 (by simp [sizeD])
    | dict b => exact absurd h.1 (by simp [sizeD])
theorem take_snoc {α : Type} {l : List α} {i : Nat} {x : α} (h : l[i]? = some x) : l.take (i + 1) = l.take i ++ [x] := by
  rw [List.take_add_one, h]
  rfl

structure Txt1 (mg : Str → Option Value) : Prop where
  int : mg "int" = none
  bool : mg "bool" = none
  list : mg "list" = none
  len : mg "len" = none
  isi : mg "isinstance" = none
  all : mg "all" = none
  most : ∃ t, mg "MOST_FIELDS" = some (.int 24 t)
  least : ∃ t, mg "LEAST_SIZE" = some (.int 2 t)
  great : ∃ t, mg "GREATEST_SIZE" = some (.int 6 t)
  small : ∃ t, mg "MOST_CASES_OF_SMALL" = some (.int 1024 t)

section
variable {P : Program} {w : World} {K : PySem.W.Frag} {mg : Str → Option Value} {base : Heap}
/-! ### is_integer -/
theorem scIsInteger : FnScope ["value"] ["value"] (defScope sIsInteger) := ⟨rfl, rfl, rfl, by decide +kernel, rfl, by decide +kernel, by decide +kernel⟩
def spIsInteger (K : PySem.W.Frag) : Sp := fun vs H Q _ => ∃ v d, vs = [v] ∧ Dp K H v d ∧ Q (.bl (intD d)) H
theorem ok_isInteger {f : Addr} {fd : FuncData} {k : Nat} (F : Fun K "is_integer" "is_integer" sIsInteger f fd) (T : Txt1 mg) : FnOk P w K mg base CX0 (k + 1) f fd ["value"] (spIsInteger K) := by
  refine F.ok scIsInteger (fun vs H Q E h => ?_) (fun cdv A outer s H vs Q E hr h => ?_)
  · obtain ⟨v, d, rfl, _⟩ := h
    rfl
  · obtain ⟨v, d, rfl, hd, q⟩ := h
    refine ⟨_, pss_one (ps_ret (pe_and (pe_callB (call_isiD "int") (by rfl) T.isi (by decide +kernel) (pa_cons (pv 0) (pa_cons (pe_bltn (v := .ty "int") (by rfl) T.int (by decide +kernel) rfl) pa_nil)))
      (pe_one (pe_not (pe_callB (call_isiD "bool") (by rfl) T.isi (by decide +kernel) (pa_cons (pv 0) (pa_cons (pe_bltn (v := .ty "bool") (by rfl) T.bool (by decide +kernel) rfl) pa_nil))))))), ?_⟩
    refine ⟨v, rfl, v, d, rfl, hd, _, rfl, ?_⟩
    cases d <;> first
      | exact iteT ⟨_, rfl, _, _, rfl, hd, _, rfl, q⟩
      | exact iteF q
/-! ### is_sizes -/
theorem scIsSizes : FnScope ["value", "size"] ["value"] (defScope sIsSizes) := ⟨rfl, rfl, rfl, by decide +kernel, rfl, by decide +kernel, by decide +kernel⟩
def spIsSizes (K : PySem.W.Frag) : Sp := fun vs H Q _ => ∃ v d, vs = [v] ∧ Dp K H v d ∧ ∀ H', Same H H' → Q (.bl (fitD d)) H'
theorem ok_isSizes {f fI : Addr} {fd fdI : FuncData} {k : Nat} (F : Fun K "is_sizes" "is_sizes" sIsSizes f fd) (T : Txt1 mg) (FI : Fun K "is_integer" "is_integer" sIsInteger fI fdI)
    (bI : Binds K fdI ["value"] []) (gI : mg "is_integer" = some (.ref fI)) : FnOk P w K mg base CX0 (k + 2) f fd ["value"] (spIsSizes K) := by
  have GI : FnOk P w K mg base CX0 (k + 1) fI fdI ["value"] (spIsInteger K) := ok_isInteger FI T
  obtain ⟨t1, m1⟩ := T.most
  obtain ⟨t2, m2⟩ := T.least
  obtain ⟨t3, m3⟩ := T.great
  refine F.ok scIsSizes (fun vs H Q E h => ?_) (fun cdv A outer s H vs Q E hr h => ?_)
  · obtain ⟨v, d, rfl, _⟩ := h
    rfl
  · obtain ⟨v, d, rfl, hd, q⟩ := h
    refine ⟨_, pss_cons (ps_if (PW.pt (pw_or (pt_not (pt_val (pe_callB (call_isiD "list") (by rfl) T.isi (by decide +kernel) (pa_cons (pv 0) (pa_cons (pe_bltn (v := .ty "list") (by rfl) T.list (by decide +kernel) rfl) pa_nil)))))
        (pw_or1 (pt_cmpR op_gt (pe_callB call_len_seq (by rfl) T.len PySem.boot_len (pa_cons (pv 0) pa_nil)) (pe_glob (v := .int 24) rfl m1 ⟨_, rfl⟩) (nomark _))))) (pss_one (ps_ret pe_bl)) pss_nil)
      (pss_one (ps_ret (pe_callB (cr_all rfl) (by rfl) T.all (by decide +kernel) (pa_cons
        (pe_lc (own := [("size", 1)]) (g := gName 1) (tt := tYes) rfl scIsSizes.nd (pi_list (pv 0)) (blkOk_by (own := [("size", 1)]) (N := ["value", "size"]) (sc := defScope sIsSizes) (by decide +kernel)) (fun _ _ _ _ _ => pg_name (i := 1) scIsSizes.nd rfl (Or.inl rfl)) (fun _ _ _ _ _ => pts_nil)
          (fun _ _ _ _ _ => pe_and (pe_call GI hr (by rfl) gI FI.kp bI .nil pass0 (pa_cons (pv 1) pa_nil)) (pe_one (pe_chain op_le op_le (pe_glob (v := .int 2) rfl m2 ⟨_, rfl⟩) (pv 1) (pe_glob (v := .int 6) rfl m3 ⟨_, rfl⟩))))) pa_nil)))), ?_⟩
    have no : isTy "list" d = false → fitD d = false := by
      intro h
      cases d <;> first | rfl | exact absurd h (by simp [isTy, tyD])
    refine ⟨v, rfl, v, d, rfl, hd, _, rfl, ?_⟩
    cases hi : isTy "list" d with
    | false =>
      refine iteT ?_
      refine iteT ?_
      have := q H (Same.refl H)
      rw [no hi] at this
      exact this
    | true =>
      refine iteF ?_
      cases hd with
      | lst hs ha =>
        rename_i a xs ds
        refine ⟨_, rfl, a, xs, rfl, .inl hs, _, _, rfl, rfl, _, rfl, ?_⟩
        have ll := DpAll.length ha
        refine ite2 (fun e => ?_) (fun e => ?_)
        · have z := of_decide_eq_true e
          have := q H (Same.refl H)
          rw [show fitD (.list ds) = false by
            show (decide (ds.length ≤ 24) && _) = false
            rw [decide_eq_false (by omega)]
            rfl] at this
          exact this
        · have z : ¬ (24 : Int) < (xs.length : Int) := fun z => e (decide_eq_true z)
          refine ⟨_, rfl, a, rfl, ⟨_, hs⟩, fun D nD => ?_⟩
          have s1 := same_upd (o := .lst []) nD
          refine lc_list (K := K) (a := a) (xs := xs) (fun i H' => Same H H' ∧ H' D = some (.lst (((ds.take i).map sizeD).map V.bl))) ⟨s1, upd_same⟩ (fun i H' _ ⟨sm, _⟩ => sm.seq hs) ?_ ?_
          · rintro i x H' hx ⟨sm, eD⟩
            obtain ⟨d, hdi, hxd⟩ := DpAll.get ha hx
            have lt : i < ds.length := (List.getElem?_eq_some_iff.mp hdi).1
            have fin : ∀ b, sizeD d = b → ∃ acc, H' D = some (.lst acc) ∧ acc.length < sizeLine ∧ Same H (upd H' D (.lst (acc ++ [.bl b]))) ∧ upd H' D (.lst (acc ++ [.bl b])) D = some (.lst (((ds.take (i + 1)).map sizeD).map V.bl)) := fun b hb => by
              refine ⟨_, eD, ?_, fun b' o e => ?_, ?_⟩
              · rw [List.length_map, List.length_map, List.length_take]
                exact small1000 (by omega)
              · rw [upd_ne (ne_of_none e nD)]
                exact sm b' o e
              · rw [upd_same, take_snoc hdi, List.map_append, List.map_append, ← hb]
                rfl
            refine ⟨rfl, ?_⟩
            refine ⟨x, rfl, x, d, rfl, Dp.sm sm hxd, _, rfl, ?_⟩
            cases d with
            | int n =>
              cases hxd
              refine iteT ?_
              refine ⟨_, rfl, _, _, rfl, rfl, _, rfl, ite2 (fun e1 => ?_) (fun e1 => ?_)⟩
              · refine ⟨_, _, rfl, rfl, fin _ ?_⟩
                show (decide (2 ≤ n) && decide (n ≤ 6)) = decide (n ≤ 6)
                rw [e1]
                rfl
              · refine fin _ ?_
                show (decide (2 ≤ n) && decide (n ≤ 6)) = false
                rw [Bool.eq_false_iff.mpr e1]
                rfl
            | none => exact iteF (fin _ rfl)
            | bool b => exact iteF (fin _ rfl)
            | str b => exact iteF (fin _ rfl)
            | list b => exact iteF (fin _ rfl)
            | tuple b => exact iteF (fin _ rfl)
            | dict b => exact iteF (fin _ rfl)
          · rintro H' ⟨sm, eD⟩
            refine ⟨D, ds.map sizeD, rfl, .inl (.inl ?_), ?_⟩
            · rw [eD, ll, List.take_length]
            · have := q H' sm
              rw [show fitD (.list ds) = (ds.map sizeD).all id by
                show (decide (ds.length ≤ 24) && ds.all sizeD) = _
                rw [decide_eq_true (by omega), List.all_map]
                rfl] at this
              exact this
      | non => exact absurd hi (by decide)
      | bl b => exact absurd hi (by simp [isTy, tyD])
      | int b => exact absurd hi (by simp [isTy, tyD])
      | str b => exact absurd hi (by simp [isTy, tyD])
      | tup b => exact absurd hi (by simp [isTy, tyD])
/-! ### check_sizes, number_of_cases, is_small_sheet, count_cases, is_small -/
def SizesAt (K : PySem.W.Frag) (H : Hp) (a : Addr) (ns : List Int) : Prop := SqL K H a (ns.map V.int) ∧ ns.length ≤ 24 ∧ ∀ i ∈ ns, 2 ≤ i ∧ i ≤ 6
theorem SizesAt.sm {H H' : Hp} {a : Addr} {ns : List Int} (s : Same H H') (h : SizesAt K H a ns) : SizesAt K H' a ns := ⟨s.seq h.1, h.2⟩
theorem SizesAt.dp {H : Hp} {a : Addr} {ns : List Int} (h : SizesAt K H a ns) : Dp K H (.ref a) (.list (ns.map PyData.int)) := .lst h.1 (DpAll.ints ns)
theorem fit_of_sizes {ns : List Int} (hl : ns.length ≤ 24) (hn : ∀ i ∈ ns, 2 ≤ i ∧ i ≤ 6) : fitD (.list (ns.map PyData.int)) = true := by
  show (decide ((ns.map PyData.int).length ≤ 24) && (ns.map PyData.int).all sizeD) = true
  rw [List.length_map, decide_eq_true hl, Bool.true_and, List.all_map, List.all_eq_true]
  intro i hi
  have := hn i hi
  show (decide (2 ≤ i) && decide (i ≤ 6)) = true
  rw [decide_eq_true this.1, decide_eq_true this.2]
  rfl
theorem scCheckSizes : FnScope ["sizes"] ["sizes"] (defScope sCheckSizes) := ⟨rfl, rfl, rfl, by decide +kernel, rfl, by decide +kernel, by decide +kernel⟩
def spCheckSizes (K : PySem.W.Frag) : Sp := fun vs H Q _ => ∃ a ns, vs = [.ref a] ∧ SizesAt K H a ns ∧ ∀ H', Same H H' → Q .non H'
theorem ok_checkSizes {f fS : Addr} {fd fdS : FuncData} {k : Nat} (F : Fun K "check_sizes" "check_sizes" sCheckSizes f fd) (GS : FnOk P w K mg base CX0 (k + 1) fS fdS ["value"] (spIsSizes K))
    (bS : Binds K fdS ["value"] []) (gS : mg "is_sizes" = some (.ref fS)) (kS : PySem.W.keepIn K (.ref fS) = true) : FnOk P w K mg base CX0 (k + 2) f fd ["sizes"] (spCheckSizes K) := by
  refine F.ok scCheckSizes (fun vs H Q E h => ?_) (fun cdv A outer s H vs Q E hr h => ?_)
  · obtain ⟨v, d, rfl, _⟩ := h
    rfl
  · obtain ⟨a, ns, rfl, hs, q⟩ := h
    refine ⟨_, pss_one (ps_if (pt_not (pt_val (pe_call GS hr (by rfl) gS kS bS .nil pass0 (pa_cons (pv 0) pa_nil)))) (pss_one ps_never) pss_nil), ?_⟩
    refine ⟨.ref a, rfl, _, _, rfl, hs.dp, fun H' sm => ⟨_, rfl, ?_⟩⟩
    rw [fit_of_sizes hs.2.1 hs.2.2]
    exact iteF (q H' sm)
theorem scNumber : FnScope ["sizes", "number", "size"] ["sizes"] (defScope sNumber) := ⟨rfl, rfl, rfl, by decide +kernel, rfl, by decide +kernel, by decide +kernel⟩
def spNumber (K : PySem.W.Frag) : Sp := fun vs H Q _ => ∃ a ns, vs = [.ref a] ∧ SizesAt K H a ns ∧ Q (.int (prodA 1 ns)) H
theorem ok_number {f : Addr} {fd : FuncData} {k : Nat} (F : Fun K "number_of_cases" "number_of_cases" sNumber f fd) : FnOk P w K mg base CX0 (k + 1) f fd ["sizes"] (spNumber K) := by
  refine F.ok scNumber (fun vs H Q E h => ?_) (fun cdv A outer s H vs Q E hr h => ?_)
  · obtain ⟨v, d, rfl, _⟩ := h
    rfl
  · obtain ⟨a, ns, rfl, hs, q⟩ := h
    refine ⟨_, pss_cons (ps_set (i := 1) scNumber.nd rfl (.inl rfl) pe_int) (pss_cons (ps_for PassesOwn.never rfl (pi_list (pv 0)) (pg_name (i := 2) scNumber.nd rfl (.inl rfl))
      (pss_one (ps_set (i := 1) scNumber.nd rfl (.inl rfl) (pe_op op_mul (pv 1) (pv 2))))) (pss_one (ps_ret (pv 1)))), ?_⟩
    refine ⟨_, rfl, a, rfl, ⟨_, hs.1⟩, for_list (K := K) (a := a) (xs := ns.map V.int) (fun i σ H' => ∃ y, σ = [some (.ref a), some (.int (prodA 1 (ns.take i))), y] ∧ H' = H) ⟨none, rfl, rfl⟩ (fun i σ H' _ ⟨_, _, e⟩ => by rw [e]; exact hs.1) ?_ ?_⟩
    · rintro i v σ H' hi ⟨y, rfl, rfl⟩
      rw [List.getElem?_map] at hi
      obtain ⟨n, hn, rfl⟩ := Option.map_eq_some_iff.mp hi
      have b := hs.2.2 n (List.mem_of_getElem? hn)
      refine ⟨_, rfl, _, rfl, _, n, rfl, rfl, .inr ⟨by omega, by omega⟩, some (.int n), ?_, rfl⟩
      show [some (V.ref a), some (V.int (prodA 1 (ns.take i) * n)), some (V.int n)] = [some (V.ref a), some (V.int (prodA 1 (ns.take (i + 1)))), some (V.int n)]
      rw [take_snoc hn]
      unfold prodA
      rw [List.foldl_append]
      rfl
    · rintro σ H' ⟨y, rfl, rfl⟩
      rw [List.length_map, List.take_length]
      exact ⟨_, rfl, q⟩
theorem scIsSmallSheet : FnScope ["sizes"] ["sizes"] (defScope sIsSmallSheet) := ⟨rfl, rfl, rfl, by decide +kernel, rfl, by decide +kernel, by decide +kernel⟩
def spIsSmallSheet (K : PySem.W.Frag) : Sp := fun vs H Q _ => ∃ a ns, vs = [.ref a] ∧ SizesAt K H a ns ∧ Q (.bl (decide (prodA 1 ns ≤ 1024))) H
theorem ok_isSmallSheet {f fN : Addr} {fd fdN : FuncData} {k : Nat} (F : Fun K "is_small_sheet" "is_small_sheet" sIsSmallSheet f fd) (T : Txt1 mg) (FN : Fun K "number_of_cases" "number_of_cases" sNumber fN fdN)
    (bN : Binds K fdN ["sizes"] []) (gN : mg "number_of_cases" = some (.ref fN)) : FnOk P w K mg base CX0 (k + 2) f fd ["sizes"] (spIsSmallSheet K) := by
  have GN : FnOk P w K mg base CX0 (k + 1) fN fdN ["sizes"] (spNumber K) := ok_number FN
  obtain ⟨t, m⟩ := T.small
  refine F.ok scIsSmallSheet (fun vs H Q E h => ?_) (fun cdv A outer s H vs Q E hr h => ?_)
  · obtain ⟨v, d, rfl, _⟩ := h
    rfl
  · obtain ⟨a, ns, rfl, hs, q⟩ := h
    refine ⟨_, pss_one (ps_ret (pe_cmpR op_le (pe_call GN hr (by rfl) gN FN.kp bN .nil pass0 (pa_cons (pv 0) pa_nil)) (pe_glob (v := .int 1024) rfl m ⟨_, rfl⟩) (nomark _))), ?_⟩
    exact ⟨_, rfl, a, ns, rfl, hs, _, _, rfl, rfl, q⟩
end
end Lk
namespace Lk
open PySem PySem.Spec PyProof.Rows L2
abbrev sBelow : Stmt := top 8
abbrev sIsHalf : Stmt := top 16
abbrev sIsCase : Stmt := top 17
abbrev sCheckCase : Stmt := top 18
/-! ### the mathematics -/
def belowD (d : PyData) (l : Int) : Bool := match d with
  | .int i => decide (0 ≤ i) && decide (i < l)
  | _ => false
/-- a half case's item -/
def oV : Option Int → V
  | none => .non
  | some i => .int i
def oD : Option Int → PyData
  | none => .none
  | some i => .int i
theorem Dp.opt {K : PySem.W.Frag} {H : Hp} : ∀ o : Option Int, Dp K H (oV o) (oD o)
  | none => .non
  | some i => .int i
theorem DpAll.opts {K : PySem.W.Frag} {H : Hp} : ∀ hs : List (Option Int), DpAll K H (hs.map oV) (hs.map oD)
  | [] => .nil
  | o :: hs => .cons (Dp.opt o) (DpAll.opts hs)
def HalfI : List Int → List (Option Int) → Prop
  | [], [] => True
  | s :: ss, o :: os => (∀ v, o = some v → 0 ≤ v ∧ v < s) ∧ HalfI ss os
  | _, _ => False
theorem HalfI.len : ∀ {ns : List Int} {hs : List (Option Int)}, HalfI ns hs → hs.length = ns.length
  | [], [], _ => rfl
  | _ :: _, _ :: _, h => by rw [List.length_cons, List.length_cons, HalfI.len h.2]
  | [], _ :: _, h => h.elim
  | _ :: _, [], h => h.elim
theorem HalfI.get : ∀ {ns : List Int} {hs : List (Option Int)} {i : Nat} {s : Int}, HalfI ns hs → ns[i]? = some s → ∃ o, hs[i]? = some o ∧ ∀ v, o = some v → 0 ≤ v ∧ v < s
  | [], _, i, s, _, e => by simp at e
  | n :: ns, o :: os, 0, s, h, e => by
    cases e
    exact ⟨o, rfl, h.1⟩
  | n :: ns, o :: os, i + 1, s, h, e => HalfI.get (i := i) h.2 (by simpa using e)
  | _ :: _, [], _, _, h, _ => h.elim
theorem RowI.half : ∀ {ns vs : List Int}, RowI ns vs → HalfI ns (vs.map some)
  | [], [], _ => trivial
  | s :: ss, v :: vs, h => ⟨fun w e => by cases e; exact ⟨h.1, h.2.1⟩, RowI.half h.2.2⟩
  | [], _ :: _, h => h.elim
  | _ :: _, [], h => h.elim
theorem map_oV (vs : List Int) : (vs.map some).map oV = vs.map V.int := by
  rw [List.map_map]
  rfl
theorem RowI.get : ∀ {ns vs : List Int} {i : Nat} {s : Int}, RowI ns vs → ns[i]? = some s → ∃ v, vs[i]? = some v ∧ 0 ≤ v ∧ v < s
  | [], _, i, s, _, e => by simp at e
  | n :: ns, v :: vs, 0, s, h, e => by
    cases e
    exact ⟨v, rfl, h.1, h.2.1⟩
  | n :: ns, v :: vs, i + 1, s, h, e => RowI.get (i := i) h.2.2 (by simpa using e)
  | _ :: _, [], _, _, h, _ => h.elim
theorem RowI.snoc : ∀ {ns vs : List Int} {s v : Int}, RowI ns vs → 0 ≤ v → v < s → RowI (ns ++ [s]) (vs ++ [v])
  | [], [], s, v, _, h1, h2 => ⟨h1, h2, trivial⟩
  | n :: ns, w :: vs, s, v, h, h1, h2 => ⟨h.1, h.2.1, RowI.snoc h.2.2 h1 h2⟩
  | [], _ :: _, _, _, h, _, _ => h.elim
  | _ :: _, [], _, _, h, _, _ => h.elim
theorem drop_cons {α : Type} {l : List α} {i : Nat} {x : α} (h : l[i]? = some x) : l.drop i = x :: l.drop (i + 1) := by
  obtain ⟨lt, e⟩ := List.getElem?_eq_some_iff.mp h
  rw [List.drop_eq_getElem_cons lt, e]
theorem pl_step {ns vs : List Int} {i : Nat} {s v acc : Int} (hs : ns[i]? = some s) (hv : vs[i]? = some v) :
    acc * prodI (ns.drop i) + plI (ns.drop i) (vs.drop i) = (acc * s + v) * prodI (ns.drop (i + 1)) + plI (ns.drop (i + 1)) (vs.drop (i + 1)) := by
  rw [drop_cons hs, drop_cons hv]
  show acc * (s * prodI (ns.drop (i + 1))) + (v * prodI (ns.drop (i + 1)) + plI (ns.drop (i + 1)) (vs.drop (i + 1))) = _
  rw [Int.add_mul, Int.mul_assoc]
  omega
theorem inV_non : ∀ vs : List Int, inV V.non (vs.map V.int) = false
  | [] => rfl
  | v :: vs => by
    have ih := inV_non vs
    unfold inV at ih ⊢
    rw [List.map_cons, List.any_cons, ih]
    rfl
theorem len_int (ns : List Int) : (((ns.map V.int).length : Nat) : Int) = (ns.length : Int) := by rw [List.length_map]

structure Txt2 (mg : Str → Option Value) : Prop where
  T : Txt1 mg
  range : mg "range" = none
  rev : mg "reversed" = none
section
variable {P : Program} {w : World} {K : PySem.W.Frag} {mg : Str → Option Value} {base : Heap}
/-! ### is_integer_below -/
theorem scBelow : FnScope ["value", "limit"] ["value", "limit"] (defScope sBelow) := ⟨rfl, rfl, rfl, by decide +kernel, rfl, by decide +kernel, by decide +kernel⟩
def spBelow (K : PySem.W.Frag) : Sp := fun vs H Q _ => ∃ v d l, vs = [v, .int l] ∧ Dp K H v d ∧ Q (.bl (belowD d l)) H
theorem ok_below {f fI : Addr} {fd fdI : FuncData} {k : Nat} (F : Fun K "is_integer_below" "is_integer_below" sBelow f fd) (GI : FnOk P w K mg base CX0 k fI fdI ["value"] (spIsInteger K))
    (bI : Binds K fdI ["value"] []) (gI : mg "is_integer" = some (.ref fI)) (kI : PySem.W.keepIn K (.ref fI) = true) : FnOk P w K mg base CX0 (k + 1) f fd ["value", "limit"] (spBelow K) := by
  refine F.ok scBelow (fun vs H Q E h => ?_) (fun cdv A outer s H vs Q E hr h => ?_)
  · obtain ⟨v, d, l, rfl, _⟩ := h
    rfl
  · obtain ⟨v, d, l, rfl, hd, q⟩ := h
    refine ⟨_, pss_one (ps_ret (pe_and (pe_call GI hr (by rfl) gI kI bI .nil pass0 (pa_cons (pv 0) pa_nil)) (pe_one (pe_chain op_le op_lt pe_int (pv 0) (pv 1))))), ?_⟩
    refine ⟨v, rfl, v, d, rfl, hd, _, rfl, ?_⟩
    cases d with
    | int i =>
      cases hd
      refine iteT ?_
      refine ⟨_, rfl, _, _, rfl, rfl, _, rfl, ite2 (fun e => ?_) (fun e => ?_)⟩
      · refine ⟨_, rfl, _, _, rfl, rfl, ?_⟩
        have : belowD (.int i) l = decide (i < l) := by
          show (decide (0 ≤ i) && decide (i < l)) = _
          rw [e]
          rfl
        rw [this] at q
        exact q
      · have : belowD (.int i) l = false := by
          show (decide (0 ≤ i) && decide (i < l)) = _
          rw [Bool.eq_false_iff.mpr e]
          rfl
        rw [this] at q
        exact q
    | none => exact iteF q
    | bool b => exact iteF q
    | str b => exact iteF q
    | list b => exact iteF q
    | tuple b => exact iteF q
    | dict b => cases hd
/-! ### is_half_case, of a half case -/
theorem scIsHalf : FnScope ["sizes", "value", "at"] ["sizes", "value"] (defScope sIsHalf) := ⟨rfl, rfl, rfl, by decide +kernel, rfl, by decide +kernel, by decide +kernel⟩
def spIsHalf (K : PySem.W.Frag) : Sp := fun vs H Q _ => ∃ a b ns hs, vs = [.ref a, .ref b] ∧ SizesAt K H a ns ∧ SqL K H b (hs.map oV) ∧ HalfI ns hs ∧ ∀ H', Same H H' → Q (.bl true) H'
theorem ok_isHalf {f fB : Addr} {fd fdB : FuncData} {k : Nat} (F : Fun K "is_half_case" "is_half_case" sIsHalf f fd) (T : Txt2 mg) (GB : FnOk P w K mg base CX0 k fB fdB ["value", "limit"] (spBelow K))
    (bB : Binds K fdB ["value", "limit"] []) (gB : mg "is_integer_below" = some (.ref fB)) (kB : PySem.W.keepIn K (.ref fB) = true) : FnOk P w K mg base CX0 (k + 1) f fd ["sizes", "value"] (spIsHalf K) := by
  refine F.ok scIsHalf (fun vs H Q E h => ?_) (fun cdv A outer s H vs Q E hr h => ?_)
  · obtain ⟨a, b, ns, hs, rfl, _⟩ := h
    rfl
  · obtain ⟨a, b, ns, hs, rfl, hS, hB, hH, q⟩ := h
    refine ⟨_, pss_cons (ps_if (PW.pt (pw_or (pt_not (pt_val (pe_callB (call_isiD "list") (by rfl) T.T.isi (by decide +kernel) (pa_cons (pv 1) (pa_cons (pe_bltn (v := .ty "list") (by rfl) T.T.list (by decide +kernel) rfl) pa_nil)))))
        (pw_or1 (pt_cmpR op_ne (pe_callB call_len_seq (by rfl) T.T.len PySem.boot_len (pa_cons (pv 1) pa_nil)) (pe_callB call_len_seq (by rfl) T.T.len PySem.boot_len (pa_cons (pv 0) pa_nil)) (nomark _))))) (pss_one (ps_ret pe_bl)) pss_nil)
      (pss_one (ps_ret (pe_callB (cr_all rfl) (by rfl) T.T.all (by decide +kernel) (pa_cons
        (pe_lc (own := [("at", 2)]) (g := gName 2) (tt := tYes) rfl scIsHalf.nd (pi_range1 rfl T.range (pa_cons (pe_callB call_len_seq (by rfl) T.T.len PySem.boot_len (pa_cons (pv 0) pa_nil)) pa_nil))
          (blkOk_by (own := [("at", 2)]) (N := ["sizes", "value", "at"]) (sc := defScope sIsHalf) (by decide +kernel)) (fun _ _ _ _ _ => pg_name (i := 2) scIsHalf.nd rfl (Or.inl rfl)) (fun _ _ _ _ _ => pts_nil)
          (fun _ _ _ _ _ => pe_or (pe_cmpR op_isN (pe_ix (r := rIxL K) ix_list (pv 1) (pv 2) (fun _ _ => rfl)) pe_non (nomark _))
            (pe_one (pe_call GB hr (by rfl) gB kB bB .nil pass0 (pa_cons (pe_ix (r := rIxL K) ix_list (pv 1) (pv 2) (fun _ _ => rfl)) (pa_cons (pe_ix (r := rIxL K) ix_list (pv 0) (pv 2) (fun _ _ => rfl)) pa_nil)))))) pa_nil)))), ?_⟩
    have dB : Dp K H (.ref b) (.list (hs.map oD)) := .lst hB (DpAll.opts hs)
    refine ⟨_, rfl, _, _, rfl, dB, _, rfl, iteF ?_⟩
    refine ⟨_, rfl, b, _, rfl, .inl hB, _, rfl, a, _, rfl, .inl hS.1, rfl, _, rfl, iteNS ?_ ?_⟩
    · rw [List.length_map, List.length_map, hH.len]
    refine ⟨_, rfl, a, _, rfl, .inl hS.1, (ns.length : Int), by rw [List.length_map], by have := hS.2.1; omega, by have := hS.2.1; omega, fun D nD => ?_⟩
    have s1 := same_upd (o := .lst []) nD
    refine lc_range (lo := 0) (n := ((ns.length : Nat) : Int).toNat) (fun i H' => Same H H' ∧ H' D = some (.lst ((List.replicate i true).map V.bl))) ⟨s1, upd_same⟩ ?_ ?_
    · rintro i H' hi ⟨sm, eD⟩
      have lt : i < ns.length := by omega
      have hs1 := List.getElem?_eq_getElem lt
      obtain ⟨o, ho, hv⟩ := HalfI.get hH hs1
      have gS : (ns.map V.int)[i]? = some (.int ns[i]) := by
        rw [List.getElem?_map, hs1]
        rfl
      have gB2 : (hs.map oV)[i]? = some (oV o) := by
        rw [List.getElem?_map, ho]
        rfl
      have fin : ∃ acc, H' D = some (.lst acc) ∧ acc.length < sizeLine ∧ Same H (upd H' D (.lst (acc ++ [.bl true]))) ∧ upd H' D (.lst (acc ++ [.bl true])) D = some (.lst ((List.replicate (i + 1) true).map V.bl)) := by
        refine ⟨_, eD, ?_, fun b' o e => ?_, ?_⟩
        · rw [List.length_map, List.length_replicate]
          have := hS.2.1
          exact small1000 (by omega)
        · rw [upd_ne (ne_of_none e nD)]
          exact sm b' o e
        · rw [upd_same, List.replicate_succ', List.map_append]
          rfl
      refine ⟨rfl, ?_⟩
      refine ⟨_, rfl, _, rfl, b, _, _, _, rfl, rfl, sm.seq hB, at_of (Int.zero_add _) gB2, rfl, _, rfl, ?_⟩
      cases o with
      | none => exact iteT fin
      | some v =>
        refine iteF ?_
        have b1 := hv v rfl
        refine ⟨_, rfl, _, rfl, b, _, _, _, rfl, rfl, sm.seq hB, at_of (Int.zero_add _) gB2, _, rfl, _, rfl, a, _, _, _, rfl, rfl, sm.seq hS.1, at_of (Int.zero_add _) gS, _, .int v, _, rfl, .int v, ?_⟩
        rw [show belowD (.int v) ns[i] = true by
          show (decide (0 ≤ v) && decide (v < ns[i])) = true
          rw [decide_eq_true b1.1, decide_eq_true b1.2]
          rfl]
        exact fin
    · rintro H' ⟨sm, eD⟩
      refine ⟨D, List.replicate ((ns.length : Nat) : Int).toNat true, rfl, .inl (.inl eD), ?_⟩
      have := q H' sm
      rw [show (List.replicate ((ns.length : Nat) : Int).toNat true).all id = true by
        rw [List.all_eq_true]
        intro x hx
        rw [List.eq_of_mem_replicate hx]
        rfl]
      exact this
end
end Lk
namespace Lk
open PySem PySem.Spec PyProof.Rows L2
section
variable {P : Program} {w : World} {K : PySem.W.Frag} {mg : Str → Option Value} {base : Heap}
/-- a case at an address -/
def CaseAt (K : PySem.W.Frag) (H : Hp) (b : Addr) (ns vs : List Int) : Prop := SqL K H b (vs.map V.int) ∧ RowI ns vs
theorem CaseAt.sm {H H' : Hp} {a : Addr} {ns vs : List Int} (s : Same H H') (h : CaseAt K H a ns vs) : CaseAt K H' a ns vs := ⟨s.seq h.1, h.2⟩
/-! ### is_case, check_case -/
theorem scIsCase : FnScope ["sizes", "value"] ["sizes", "value"] (defScope sIsCase) := ⟨rfl, rfl, rfl, by decide +kernel, rfl, by decide +kernel, by decide +kernel⟩
def spIsCase (K : PySem.W.Frag) : Sp := fun vs H Q _ => ∃ a b ns ws, vs = [.ref a, .ref b] ∧ SizesAt K H a ns ∧ CaseAt K H b ns ws ∧ ∀ H', Same H H' → Q (.bl true) H'
theorem ok_isCase {f fB : Addr} {fd fdB : FuncData} {k : Nat} (F : Fun K "is_case" "is_case" sIsCase f fd) (GB : FnOk P w K mg base CX0 k fB fdB ["sizes", "value"] (spIsHalf K))
    (bB : Binds K fdB ["sizes", "value"] []) (gB : mg "is_half_case" = some (.ref fB)) (kB : PySem.W.keepIn K (.ref fB) = true) : FnOk P w K mg base CX0 (k + 1) f fd ["sizes", "value"] (spIsCase K) := by
  refine F.ok scIsCase (fun vs H Q E h => ?_) (fun cdv A outer s H vs Q E hr h => ?_)
  · obtain ⟨a, b, ns, hs, rfl, _⟩ := h
    rfl
  · obtain ⟨a, b, ns, ws, rfl, hS, hB, q⟩ := h
    refine ⟨_, pss_one (ps_ret (pe_and (pe_call GB hr (by rfl) gB kB bB .nil pass0 (pa_cons (pv 0) (pa_cons (pv 1) pa_nil))) (pe_one (pe_cmpR op_notIn_seq pe_non (pv 1) (by rfl))))), ?_⟩
    refine ⟨_, rfl, _, rfl, a, b, ns, ws.map some, rfl, hS, by rw [map_oV]; exact hB.1, hB.2.half, fun H' sm => ⟨_, rfl, iteT ?_⟩⟩
    refine ⟨_, rfl, b, _, rfl, .inl (sm.seq hB.1), rfl, ?_, ?_⟩
    · rw [List.all_eq_true]
      intro x hx
      obtain ⟨i, _, rfl⟩ := List.mem_map.mp hx
      rfl
    · show Q (.bl (!inV V.non (ws.map V.int))) H'
      rw [inV_non]
      exact q H' sm
theorem scCheckCase : FnScope ["sizes", "case"] ["sizes", "case"] (defScope sCheckCase) := ⟨rfl, rfl, rfl, by decide +kernel, rfl, by decide +kernel, by decide +kernel⟩
def spCheckCase (K : PySem.W.Frag) : Sp := fun vs H Q _ => ∃ a b ns ws, vs = [.ref a, .ref b] ∧ SizesAt K H a ns ∧ CaseAt K H b ns ws ∧ ∀ H', Same H H' → Q .non H'
theorem ok_checkCase {f fB : Addr} {fd fdB : FuncData} {k : Nat} (F : Fun K "check_case" "check_case" sCheckCase f fd) (GB : FnOk P w K mg base CX0 k fB fdB ["sizes", "value"] (spIsCase K))
    (bB : Binds K fdB ["sizes", "value"] []) (gB : mg "is_case" = some (.ref fB)) (kB : PySem.W.keepIn K (.ref fB) = true) : FnOk P w K mg base CX0 (k + 1) f fd ["sizes", "case"] (spCheckCase K) := by
  refine F.ok scCheckCase (fun vs H Q E h => ?_) (fun cdv A outer s H vs Q E hr h => ?_)
  · obtain ⟨a, b, ns, hs, rfl, _⟩ := h
    rfl
  · obtain ⟨a, b, ns, ws, rfl, hS, hB, q⟩ := h
    refine ⟨_, pss_one (ps_if (pt_not (pt_val (pe_call GB hr (by rfl) gB kB bB .nil pass0 (pa_cons (pv 0) (pa_cons (pv 1) pa_nil))))) (pss_one ps_never) pss_nil), ?_⟩
    exact ⟨_, rfl, _, rfl, a, b, ns, ws, rfl, hS, hB, fun H' sm => ⟨_, rfl, iteF (q H' sm)⟩⟩
end
end Lk
namespace Lk
open PySem PySem.Spec PyProof.Rows L2
abbrev sRow : Stmt := top 31
theorem DeckAt.some1 {H : Hp} {p c : Addr} (h : DeckAt H p c) : ∃ o, H p = some o := by
  obtain ⟨_, _, _, _, h, _⟩ := h
  exact ⟨_, h⟩
theorem DeckAt.some2 {H : Hp} {p c : Addr} (h : DeckAt H p c) : ∃ o, H c = some o := by
  obtain ⟨_, _, _, _, _, h, _⟩ := h
  exact ⟨_, h⟩
theorem DeckAt.sm {H H' : Hp} {p c : Addr} (s : Same H H') (h : DeckAt H p c) : DeckAt H' p c := by
  obtain ⟨a1, a2, a3, a4, h1, h2, r⟩ := h
  exact ⟨a1, a2, a3, a4, s _ _ h1, s _ _ h2, r⟩
theorem DeckAt.apart {H : Hp} {p c b : Addr} (h : DeckAt H p c) (n : H b = none) : b ≠ p ∧ b ≠ c := by
  obtain ⟨o1, h1⟩ := DeckAt.some1 h
  obtain ⟨o2, h2⟩ := DeckAt.some2 h
  exact ⟨(ne_of_none h1 n).symm, (ne_of_none h2 n).symm⟩
theorem DeckAt.upd {H : Hp} {p c b : Addr} {o : HO} (n1 : b ≠ p) (n2 : b ≠ c) (h : DeckAt H p c) : DeckAt (L2.upd H b o) p c := by
  obtain ⟨a1, a2, a3, a4, h1, h2, r⟩ := h
  exact ⟨a1, a2, a3, a4, by rw [upd_ne n1.symm]; exact h1, by rw [upd_ne n2.symm]; exact h2, r⟩
theorem Kept.trans {p c : Addr} {H H1 H2 : Hp} (a : Kept p c H H1) (b : Kept p c H1 H2) : Kept p c H H2 := fun x o n1 n2 e => b x o n1 n2 (a x o n1 n2 e)
theorem Kept.of {p c : Addr} {H H1 : Hp} (a : Same H H1) : Kept p c H H1 := fun x o _ _ e => a x o e
theorem Kept.rfl' {p c : Addr} {H : Hp} : Kept p c H H := fun _ _ _ _ e => e
theorem free_upd {H : Hp} {b : Addr} {o : HO} : ∀ x, L2.upd H b o x = none → H x = none := fun x h => by
  by_cases e : x = b
  · rw [e, upd_same] at h
    cases h
  · rw [upd_ne e] at h
    exact h
theorem small_log {i : Int} (h0 : 0 ≤ i) (h : i < 2 ^ 60) : i.natAbs.log2 < 9000 := by
  by_cases z : i.natAbs = 0
  · rw [z]
    decide
  · have := (Nat.log2_lt (n := i.natAbs) (k := 60) z).mpr (by omega)
    omega
section
variable {P : Program} {w : World} {K : PySem.W.Frag} {mg : Str → Option Value} {base : Heap}
/-- sizes on a list of the call's own -/
def SizesL (H : Hp) (s : Addr) (ns : List Int) : Prop := H s = some (.lst (ns.map V.int)) ∧ ns.length ≤ 24 ∧ ∀ i ∈ ns, 2 ≤ i ∧ i ≤ 6
theorem SizesL.at {H : Hp} {s : Addr} {ns : List Int} (h : SizesL H s ns) : SizesAt K H s ns := ⟨.inl (.inl h.1), h.2⟩
/-! ### _law_row -/
theorem scRow : FnScope ["deck", "sizes_here", "size"] ["deck", "sizes_here"] (defScope sRow) := ⟨rfl, rfl, rfl, by decide +kernel, rfl, by decide +kernel, by decide +kernel⟩
def spRow : Sp := fun vs H Q _ => ∃ (p c s : Addr) (ns : List Int), vs = [.ref p, .ref s] ∧ DeckAt H p c ∧ SizesL H s ns ∧ s ≠ p ∧ s ≠ c ∧
  ∀ H' r ws, Kept p c H H' → DeckAt H' p c → (∀ b, H' b = none → H b = none) → H r = none → H' r = some (.lst (ws.map V.int)) → RowI ns ws → Q (.ref r) H'
theorem ok_row {f fT : Addr} {fd fdT : FuncData} {k : Nat} (F : Fun K "_law_row" "_law_row" sRow f fd) (GT : FnOk P w K mg base CX0 k fT fdT ["deck", "wide"] spTake)
    (bT : Binds K fdT ["deck", "wide"] []) (gT : mg "_law_take" = some (.ref fT)) (kT : PySem.W.keepIn K (.ref fT) = true) : FnOk P w K mg base CX0 (k + 1) f fd ["deck", "sizes_here"] spRow := by
  refine F.ok scRow (fun vs H Q E h => ?_) (fun cdv A outer s H vs Q E hr h => ?_)
  · obtain ⟨p, c, s, ns, rfl, _⟩ := h
    rfl
  · obtain ⟨p, c, s0, ns, rfl, hD, hS, nsp, nsc, q⟩ := h
    refine ⟨_, pss_one (ps_ret (pe_lc (own := [("size", 2)]) (g := gName 2) (tt := tYes) rfl scRow.nd (pi_list (pv 1)) (blkOk_by (own := [("size", 2)]) (N := ["deck", "sizes_here", "size"]) (sc := defScope sRow) (by decide +kernel))
      (fun _ _ _ _ _ => pg_name (i := 2) scRow.nd rfl (Or.inl rfl)) (fun _ _ _ _ _ => pts_nil) (fun _ _ _ _ _ => pe_call GT hr (by rfl) gT kT bT .nil pass0 (pa_cons (pv 0) (pa_cons (pv 2) pa_nil))))), ?_⟩
    refine ⟨_, rfl, s0, rfl, ⟨_, .inl (.inl hS.1)⟩, fun D nD => ?_⟩
    have ap := DeckAt.apart hD nD
    have nsD : s0 ≠ D := ne_of_none hS.1 nD
    refine lc_list (K := K) (a := s0) (xs := ns.map V.int) (fun i H' => ∃ ws : List Int, ws.length = i ∧ RowI (ns.take i) ws ∧ Kept p c H H' ∧ DeckAt H' p c ∧ (∀ b, H' b = none → H b = none) ∧ H' D = some (.lst (ws.map V.int)))
      ⟨[], rfl, trivial, Kept.of (same_upd nD), DeckAt.upd ap.1 ap.2 hD, free_upd, upd_same⟩ (fun i H' _ ⟨_, _, _, kp, _⟩ => .inl (.inl (kp _ _ nsp nsc hS.1))) ?_ ?_
    · rintro i v H' hi ⟨ws, el, hR, kp, D1, fr, eD⟩
      rw [List.getElem?_map] at hi
      obtain ⟨n, hn, rfl⟩ := Option.map_eq_some_iff.mp hi
      have bs := hS.2.2 n (List.mem_of_getElem? hn)
      have lt : i < ns.length := (List.getElem?_eq_some_iff.mp hn).1
      refine ⟨rfl, ?_⟩
      refine ⟨_, rfl, _, rfl, p, c, n, rfl, D1, by omega, small_log (by omega) (by omega), fun H1 r k1 D2 r0 r1 f1 => ?_⟩
      refine ⟨_, k1 _ _ ap.1 ap.2 eD, ?_, ws ++ [r], ?_, ?_, ?_, DeckAt.upd ap.1 ap.2 D2, fun b h => fr b (f1 b (free_upd b h)), ?_⟩
      · rw [List.length_map]
        have := hS.2.1
        exact small1000 (by omega)
      · rw [List.length_append, el]
        rfl
      · rw [take_snoc hn]
        exact hR.snoc r0 r1
      · intro b o n1 n2 e
        have nb : b ≠ D := ne_of_none e nD
        rw [upd_ne nb]
        exact k1 b o n1 n2 (kp b o n1 n2 e)
      · rw [upd_same, List.map_append]
        rfl
    · rintro H' ⟨ws, el, hR, kp, D1, fr, eD⟩
      rw [List.length_map, List.take_length] at hR
      exact q H' D ws kp D1 fr nD eD hR
end
end Lk
namespace Lk
open PySem PySem.Spec PyProof.Rows L2
abbrev sCheckHalf : Stmt := top 19
abbrev sCheckSmall : Stmt := top 22
abbrev sListC : Stmt := top 23
abbrev sCompleting : Stmt := top 25
abbrev sUnlike : Stmt := top 24
abbrev sDiffering : Stmt := top 26
/-! ### the mathematics: rows made from the left -/
def rangeI (s : Int) : List Int := (List.range s.toNat).map fun (k : Nat) => (k : Int)
def stepR (rows : List (List Int)) (c : List Int) : List (List Int) := rows.flatMap fun r => c.map fun v => r ++ [v]
def prodS (cs : List (List Int)) : List (List Int) := cs.foldl stepR [[]]
theorem prodS_snoc (cs : List (List Int)) (c : List Int) : prodS (cs ++ [c]) = stepR (prodS cs) c := by
  unfold prodS
  rw [List.foldl_append]
  rfl
def choose (s : Int) : Option Int → List Int
  | none => rangeI s
  | some v => [v]
def okv (o : Option Int) (v : Int) : Bool := match o with
  | none => true
  | some u => decide (u = v)
def okRow : List (Option Int) → List Int → Bool
  | o :: os, v :: vs => okv o v && okRow os vs
  | _, _ => true
theorem okRow_snoc : ∀ {hs : List (Option Int)} {r : List Int} {o : Option Int} {v : Int}, r.length = hs.length → okRow (hs ++ [o]) (r ++ [v]) = (okRow hs r && okv o v)
  | [], [], o, v, _ => by
    show (okv o v && true) = (true && okv o v)
    rw [Bool.and_true, Bool.true_and]
  | h :: hs, u :: r, o, v, e => by
    show (okv h u && okRow (hs ++ [o]) (r ++ [v])) = ((okv h u && okRow hs r) && okv o v)
    rw [okRow_snoc (by simpa using e), Bool.and_assoc]
  | [], _ :: _, _, _, e => by simp at e
  | _ :: _, [], _, _, e => by simp at e
theorem prodS_len : ∀ {cs : List (List Int)} {r : List Int}, r ∈ prodS cs → r.length = cs.length := by
  have key : ∀ (n : Nat) (cs : List (List Int)), cs.length = n → ∀ r ∈ prodS cs, r.length = cs.length := by
    intro n
    induction n with
    | zero =>
      intro cs e r hr
      obtain rfl := List.length_eq_zero_iff.mp e
      rw [List.mem_singleton.mp (show r ∈ [([] : List Int)] from hr)]
      rfl
    | succ n ih =>
      intro cs e r hr
      rcases List.eq_nil_or_concat cs with rfl | ⟨cs', c, rfl⟩
      · simp at e
      · rw [List.concat_eq_append] at hr e ⊢
        rw [prodS_snoc] at hr
        obtain ⟨r', h1, h2⟩ := List.mem_flatMap.mp hr
        obtain ⟨v, _, rfl⟩ := List.mem_map.mp h2
        have := ih cs' (by simpa using e) r' h1
        simp [this]
  exact fun {cs r} h => key _ cs rfl r h
theorem flatMap_filter (p : List Int → Bool) (q : List Int → Bool) (pv : Int → Bool) (c : List Int) : ∀ (rows : List (List Int)), (∀ r ∈ rows, ∀ v, p (r ++ [v]) = (q r && pv v)) →
    (stepR rows c).filter p = stepR (rows.filter q) (c.filter pv)
  | [], _ => rfl
  | r :: rows, h => by
    have ih := flatMap_filter p q pv c rows fun x hx => h x (List.mem_cons_of_mem _ hx)
    have e1 : stepR (r :: rows) c = (c.map fun v => r ++ [v]) ++ stepR rows c := rfl
    have e2 : (c.map fun v => r ++ [v]).filter p = if q r = true then (c.filter pv).map fun v => r ++ [v] else [] := by
      rw [List.filter_map]
      have hr := h r (List.mem_cons_self ..)
      by_cases e : q r = true
      · rw [if_pos e]
        congr 1
        refine List.filter_congr fun v _ => ?_
        show p (r ++ [v]) = pv v
        rw [hr v, e, Bool.true_and]
      · rw [if_neg e]
        rw [List.filter_eq_nil_iff.mpr]
        · rfl
        · intro v _
          show ¬ p (r ++ [v]) = true
          rw [hr v, Bool.eq_false_iff.mpr e]
          exact Bool.false_ne_true
    rw [e1, List.filter_append, e2, ih, List.filter_cons]
    by_cases e : q r = true
    · rw [if_pos e, if_pos e]
      rfl
    · rw [if_neg e, if_neg e]
      rfl
/-- the rows that the program makes are those of all rows that have the known values -/
theorem prodS_filter : ∀ (n : Nat) (ns : List Int) (hs : List (Option Int)), ns.length = n → HalfI ns hs → (prodS (ns.map rangeI)).filter (okRow hs) = prodS (List.zipWith choose ns hs) := by
  intro n
  induction n with
  | zero =>
    intro ns hs e h
    obtain rfl := List.length_eq_zero_iff.mp e
    cases hs with
    | nil => rfl
    | cons _ _ => exact h.elim
  | succ n ih =>
    intro ns hs e h
    have hl := h.len
    rcases List.eq_nil_or_concat ns with rfl | ⟨ns', s, rfl⟩
    · simp at e
    rcases List.eq_nil_or_concat hs with rfl | ⟨hs', o, rfl⟩
    · rw [hl.symm] at e
      simp at e
    rw [List.concat_eq_append] at *
    rw [List.concat_eq_append] at *
    have l1 : hs'.length = ns'.length := by simpa using hl
    have h' : HalfI ns' hs' ∧ ∀ v, o = some v → 0 ≤ v ∧ v < s := by
      clear ih e hl
      induction ns' generalizing hs' with
      | nil =>
        cases hs' with
        | nil => exact ⟨trivial, h.1⟩
        | cons _ _ => simp at l1
      | cons a ns' ih2 =>
        cases hs' with
        | nil => simp at l1
        | cons b hs' =>
          have z := ih2 hs' h.2 (by simpa using l1)
          exact ⟨⟨h.1, z.1⟩, z.2⟩
    rw [List.map_append, List.map_singleton, prodS_snoc, List.zipWith_append (by exact l1.symm)]
    show _ = prodS (List.zipWith choose ns' hs' ++ [choose s o])
    rw [prodS_snoc, flatMap_filter (okRow (hs' ++ [o])) (okRow hs') (okv o) (rangeI s) (prodS (ns'.map rangeI)) (fun r hr v => okRow_snoc (by rw [prodS_len hr, List.length_map, l1])), ih ns' hs' (by simpa using e) h'.1]
    congr 1
    cases o with
    | none =>
      show (rangeI s).filter (fun _ => true) = rangeI s
      exact List.filter_eq_self.mpr fun _ _ => rfl
    | some v =>
      have b := h'.2 v rfl
      show (rangeI s).filter (fun u => decide (v = u)) = [v]
      unfold rangeI
      rw [List.filter_map]
      have : (List.range s.toNat).filter ((fun u : Int => decide (v = u)) ∘ fun (k : Nat) => (k : Int)) = [v.toNat] := by
        have key : ∀ (m t : Nat), t < m → (List.range m).filter (fun k => decide (k = t)) = [t] := by
          intro m
          induction m with
          | zero => intro t ht; omega
          | succ m ihm =>
            intro t ht
            rw [List.range_succ, List.filter_append]
            by_cases e : t < m
            · rw [ihm t e, List.filter_cons, if_neg (by rw [decide_eq_true_eq]; omega)]
              rfl
            · have : t = m := by omega
              subst this
              rw [List.filter_eq_nil_iff.mpr, List.filter_cons, if_pos (decide_eq_true rfl)]
              · rfl
              · intro a ha
                rw [decide_eq_true_eq]
                have := List.mem_range.mp ha
                omega
        rw [← key s.toNat v.toNat (by omega)]
        refine List.filter_congr fun k _ => ?_
        show decide (v = (k : Int)) = decide (k = v.toNat)
        rw [decide_eq_decide]
        omega
      rw [this]
      show [((v.toNat : Nat) : Int)] = [v]
      rw [Int.toNat_of_nonneg b.1]
theorem stepR_len (rows : List (List Int)) (c : List Int) : (stepR rows c).length = rows.length * c.length := by
  induction rows with
  | nil => simp [stepR]
  | cons r rows ih =>
    have e : stepR (r :: rows) c = (c.map fun v => r ++ [v]) ++ stepR rows c := rfl
    rw [e, List.length_append, ih, List.length_map, List.length_cons, Nat.succ_mul]
    omega
/-! ### rows on the heap: new lists -/
def AR (H H' : Hp) : List Addr → List (List Int) → Prop
  | [], [] => True
  | b :: bs, r :: rs => H b = none ∧ H' b = some (.lst (r.map V.int)) ∧ AR H H' bs rs
  | _, _ => False
abbrev rowD (r : List Int) : PyData := .list (r.map PyData.int)
namespace AR
variable {H H' H'' : Hp} {K : PySem.W.Frag}
theorem len : ∀ {bs : List Addr} {rs : List (List Int)}, AR H H' bs rs → bs.length = rs.length
  | [], [], _ => rfl
  | _ :: _, _ :: _, h => by rw [List.length_cons, List.length_cons, len h.2.2]
  | [], _ :: _, h => h.elim
  | _ :: _, [], h => h.elim
theorem dp : ∀ {bs : List Addr} {rs : List (List Int)}, AR H H' bs rs → DpAll K H' (bs.map V.ref) (rs.map rowD)
  | [], [], _ => .nil
  | _ :: _, r :: _, h => .cons (.lst (.inl (.inl h.2.1)) (DpAll.ints r)) (dp h.2.2)
  | [], _ :: _, h => h.elim
  | _ :: _, [], h => h.elim
theorem sm (s : Same H' H'') : ∀ {bs : List Addr} {rs : List (List Int)}, AR H H' bs rs → AR H H'' bs rs
  | [], [], _ => trivial
  | _ :: _, _ :: _, h => ⟨h.1, s _ _ h.2.1, sm s h.2.2⟩
  | [], _ :: _, h => h.elim
  | _ :: _, [], h => h.elim
theorem old {H0 : Hp} (f : ∀ b, H b = none → H0 b = none) : ∀ {bs : List Addr} {rs : List (List Int)}, AR H H' bs rs → AR H0 H' bs rs
  | [], [], _ => trivial
  | _ :: _, _ :: _, h => ⟨f _ h.1, h.2.1, old f h.2.2⟩
  | [], _ :: _, h => h.elim
  | _ :: _, [], h => h.elim
theorem snoc : ∀ {bs : List Addr} {rs : List (List Int)} {b : Addr} {r : List Int}, AR H H' bs rs → H b = none → H' b = some (.lst (r.map V.int)) → AR H H' (bs ++ [b]) (rs ++ [r])
  | [], [], _, _, _, h1, h2 => ⟨h1, h2, trivial⟩
  | _ :: _, _ :: _, _, _, h, h1, h2 => ⟨h.1, h.2.1, snoc h.2.2 h1 h2⟩
  | [], _ :: _, _, _, h, _, _ => h.elim
  | _ :: _, [], _, _, h, _, _ => h.elim
theorem get : ∀ {bs : List Addr} {rs : List (List Int)} {i : Nat} {r : List Int}, AR H H' bs rs → rs[i]? = some r → ∃ b, bs[i]? = some b ∧ H b = none ∧ H' b = some (.lst (r.map V.int))
  | [], [], i, r, _, e => by simp at e
  | b :: bs, r' :: rs, 0, r, h, e => by
    cases e
    exact ⟨b, rfl, h.1, h.2.1⟩
  | b :: bs, r' :: rs, i + 1, r, h, e => get (i := i) h.2.2 (by simpa using e)
  | [], _ :: _, _, _, h, _ => h.elim
  | _ :: _, [], _, _, h, _ => h.elim
/-- one more object is written: none of these -/
theorem upd {a : Addr} {o : HO} : ∀ {bs : List Addr} {rs : List (List Int)}, (∀ b ∈ bs, b ≠ a) → AR H H' bs rs → AR H (L2.upd H' a o) bs rs
  | [], [], _, _ => trivial
  | b :: bs, _ :: _, n, h => ⟨h.1, by rw [upd_ne (n b (List.mem_cons_self ..))]; exact h.2.1, upd (fun x hx => n x (List.mem_cons_of_mem _ hx)) h.2.2⟩
  | [], _ :: _, _, h => h.elim
  | _ :: _, [], _, h => h.elim
theorem mem : ∀ {bs : List Addr} {rs : List (List Int)} {b : Addr}, AR H H' bs rs → b ∈ bs → H b = none ∧ ∃ r : List Int, H' b = some (.lst (r.map V.int))
  | b :: bs, r :: rs, x, h, hx => by
    rcases List.mem_cons.mp hx with rfl | hx
    · exact ⟨h.1, r, h.2.1⟩
    · exact mem h.2.2 hx
  | [], _, _, _, hx => nomatch hx
  | _ :: _, [], _, h, _ => h.elim
end AR
/-! ### a walk over a list, of any shape of turn -/
theorem walk_list {K : PySem.W.Frag} {a : Addr} {xs : List V} {H0 : Hp} {Done : Hp → Prop} {Body : V → Hp → (Hp → Prop) → Prop} (Pv : Nat → Hp → Prop) (h0 : Pv 0 H0) (hl : ∀ i H, i ≤ xs.length → Pv i H → SqL K H a xs)
    (hs : ∀ i x H, xs[i]? = some x → Pv i H → Body x H (Pv (i + 1))) (hd : ∀ H, Pv xs.length H → Done H) :
    ∃ W : Nat → Nat → Hp → Prop, (∃ m, W 0 m H0) ∧ ∀ i m H, W i m H → ((Itl K a).stop i H ∧ Done H) ∨
      ((Itl K a).go i H ∧ ∃ Nx : Hp → Prop, (∀ H', Nx H' → ∃ m', m' < m ∧ W (i + 1) m' H') ∧ ∀ x H', (Itl K a).yld i H x H' → Body x H' Nx) := by
  refine ⟨fun i m H => i + m = xs.length ∧ Pv i H, ⟨xs.length, by omega, h0⟩, ?_⟩
  rintro i m H ⟨e, p⟩
  have q := hl i H (by omega) p
  by_cases lt : i < xs.length
  · have g := List.getElem?_eq_getElem lt
    refine .inr ⟨⟨xs, xs[i], q, g⟩, Pv (i + 1), fun H' p' => ⟨m - 1, by omega, by omega, p'⟩, fun x H' y => ?_⟩
    obtain ⟨rfl, f⟩ := y
    have ex : x = xs[i] := Option.some.inj ((f _ q).symm.trans g)
    subst ex
    exact hs i _ _ g p
  · have : i = xs.length := by omega
    subst this
    exact .inl ⟨⟨xs, q, Nat.le_refl _⟩, hd H p⟩
end Lk
namespace Lk
open PySem PySem.Spec PyProof.Rows L2
theorem PE.imp {X : Cx} {e : Expr} {t t' : TE} (h : PE X e t) (f : ∀ σ H Q, t' σ H Q → t σ H Q) : PE X e t' := ⟨fun pins s σ H Q I q => h.run pins s σ H Q I (f σ H Q q)⟩
def tChoose (K : PySem.W.Frag) : TE := fun σ H Q => ∃ (a b : Addr) (i : Nat) (ns : List Int) (hs : List (Option Int)) (s : Int) (o : Option Int), σ[0]? = some (some (.ref a)) ∧ σ[1]? = some (some (.ref b)) ∧ σ[3]? = some (some (.int (i : Int))) ∧
  SqL K H a (ns.map V.int) ∧ SqL K H b (hs.map oV) ∧ ns[i]? = some s ∧ hs[i]? = some o ∧ 2 ≤ s ∧ s ≤ 6 ∧ New (.lst ((choose s o).map V.int)) H Q
theorem rgV_range (s : Int) : rgV 0 s = (rangeI s).map V.int := by
  unfold rgV rangeI
  rw [List.map_map]
  simp
def dfI (n : Nat) (vs ws : List Int) : List Int := ((List.range n).filter fun k => decide (vs.getD k 0 ≠ ws.getD k 0)).map fun (k : Nat) => (k : Int)
theorem dfI_succ {n : Nat} {vs ws : List Int} : dfI (n + 1) vs ws = dfI n vs ws ++ (if vs.getD n 0 ≠ ws.getD n 0 then [(n : Int)] else []) := by
  unfold dfI
  rw [List.range_succ, List.filter_append, List.map_append]
  congr 1
  by_cases e : vs.getD n 0 ≠ ws.getD n 0
  · rw [if_pos e, List.filter_cons, if_pos (decide_eq_true e)]
    rfl
  · rw [if_neg e, List.filter_cons, if_neg (by rw [decide_eq_true_eq]; exact e)]
    rfl
theorem dfI_len (n : Nat) (vs ws : List Int) : (dfI n vs ws).length ≤ n := by
  unfold dfI
  rw [List.length_map]
  exact Nat.le_trans (List.length_filter_le _ _) (by rw [List.length_range]; exact Nat.le_refl _)
theorem getD_of {vs : List Int} {i : Nat} {v : Int} (h : vs[i]? = some v) : vs.getD i 0 = v := by
  rw [List.getD_eq_getElem?_getD, h]
  rfl
section
variable {P : Program} {w : World} {K : PySem.W.Frag} {mg : Str → Option Value} {base : Heap}
/-! ### check_half, check_small -/
theorem scCheckHalf : FnScope ["sizes", "half"] ["sizes", "half"] (defScope sCheckHalf) := ⟨rfl, rfl, rfl, by decide +kernel, rfl, by decide +kernel, by decide +kernel⟩
def HalfAt (K : PySem.W.Frag) (H : Hp) (b : Addr) (ns : List Int) (hs : List (Option Int)) : Prop := SqL K H b (hs.map oV) ∧ HalfI ns hs
theorem HalfAt.sm {H H' : Hp} {a : Addr} {ns : List Int} {hs : List (Option Int)} (s : Same H H') (h : HalfAt K H a ns hs) : HalfAt K H' a ns hs := ⟨s.seq h.1, h.2⟩
def spCheckHalf (K : PySem.W.Frag) : Sp := fun vs H Q _ => ∃ a b ns hs, vs = [.ref a, .ref b] ∧ SizesAt K H a ns ∧ HalfAt K H b ns hs ∧ ∀ H', Same H H' → Q .non H'
theorem ok_checkHalf {f fB : Addr} {fd fdB : FuncData} {k : Nat} (F : Fun K "check_half" "check_half" sCheckHalf f fd) (GB : FnOk P w K mg base CX0 k fB fdB ["sizes", "value"] (spIsHalf K))
    (bB : Binds K fdB ["sizes", "value"] []) (gB : mg "is_half_case" = some (.ref fB)) (kB : PySem.W.keepIn K (.ref fB) = true) : FnOk P w K mg base CX0 (k + 1) f fd ["sizes", "half"] (spCheckHalf K) := by
  refine F.ok scCheckHalf (fun vs H Q E h => ?_) (fun cdv A outer s H vs Q E hr h => ?_)
  · obtain ⟨a, b, ns, hs, rfl, _⟩ := h
    rfl
  · obtain ⟨a, b, ns, hs, rfl, hS, hB, q⟩ := h
    refine ⟨_, pss_one (ps_if (pt_not (pt_val (pe_call GB hr (by rfl) gB kB bB .nil pass0 (pa_cons (pv 0) (pa_cons (pv 1) pa_nil))))) (pss_one ps_never) pss_nil), ?_⟩
    exact ⟨_, rfl, _, rfl, a, b, ns, hs, rfl, hS, hB.1, hB.2, fun H' sm => ⟨_, rfl, iteF (q H' sm)⟩⟩
theorem scCheckSmall : FnScope ["sizes"] ["sizes"] (defScope sCheckSmall) := ⟨rfl, rfl, rfl, by decide +kernel, rfl, by decide +kernel, by decide +kernel⟩
def spCheckSmall (K : PySem.W.Frag) : Sp := fun vs H Q _ => ∃ a ns, vs = [.ref a] ∧ SizesAt K H a ns ∧ prodI ns ≤ 1024 ∧ Q .non H
theorem ok_checkSmall {f fB : Addr} {fd fdB : FuncData} {k : Nat} (F : Fun K "check_small" "check_small" sCheckSmall f fd) (GB : FnOk P w K mg base CX0 k fB fdB ["sizes"] (spIsSmallSheet K))
    (bB : Binds K fdB ["sizes"] []) (gB : mg "is_small_sheet" = some (.ref fB)) (kB : PySem.W.keepIn K (.ref fB) = true) : FnOk P w K mg base CX0 (k + 1) f fd ["sizes"] (spCheckSmall K) := by
  refine F.ok scCheckSmall (fun vs H Q E h => ?_) (fun cdv A outer s H vs Q E hr h => ?_)
  · obtain ⟨a, ns, rfl, _⟩ := h
    rfl
  · obtain ⟨a, ns, rfl, hS, hp, q⟩ := h
    refine ⟨_, pss_one (ps_if (pt_not (pt_val (pe_call GB hr (by rfl) gB kB bB .nil pass0 (pa_cons (pv 0) pa_nil)))) (pss_one ps_never) pss_nil), ?_⟩
    refine ⟨_, rfl, a, ns, rfl, hS, _, rfl, ?_⟩
    rw [prodA_one, decide_eq_true hp]
    exact iteF q
/-! ### list_completing -/
theorem scListC : FnScope ["sizes", "half", "cases", "at", "choices", "begun", "value"] ["sizes", "half"] (defScope sListC) := ⟨rfl, rfl, rfl, by decide +kernel, rfl, by decide +kernel, by decide +kernel⟩
def compS (ns : List Int) (hs : List (Option Int)) : List (List Int) := prodS (List.zipWith choose ns hs)
def spListC (K : PySem.W.Frag) : Sp := fun vs H Q _ => ∃ a b ns hs, vs = [.ref a, .ref b] ∧ SizesAt K H a ns ∧ HalfAt K H b ns hs ∧ prodI ns ≤ 1024 ∧
  ∀ H' r bs, Same H H' → H r = none → H' r = some (.lst (bs.map V.ref)) → AR H H' bs (compS ns hs) → Q (.ref r) H'
theorem rangeI_len {s : Int} : (rangeI s).length = s.toNat := by
  unfold rangeI
  rw [List.length_map, List.length_range]
theorem choose_len {s : Int} {o : Option Int} (h : 2 ≤ s) : 1 ≤ (choose s o).length ∧ ((choose s o).length : Int) ≤ s := by
  cases o with
  | none =>
    show 1 ≤ (rangeI s).length ∧ ((rangeI s).length : Int) ≤ s
    rw [rangeI_len]
    omega
  | some v =>
    show 1 ≤ 1 ∧ ((1 : Nat) : Int) ≤ s
    omega
theorem compS_len : ∀ (n : Nat) (ns : List Int) (hs : List (Option Int)), ns.length = n → hs.length = n → (∀ i ∈ ns, 2 ≤ i ∧ i ≤ 6) → ((compS ns hs).length : Int) ≤ prodI ns ∧ 1 ≤ (compS ns hs).length := by
  intro n
  induction n with
  | zero =>
    intro ns hs e1 e2 _
    obtain rfl := List.length_eq_zero_iff.mp e1
    obtain rfl := List.length_eq_zero_iff.mp e2
    decide
  | succ n ih =>
    intro ns hs e1 e2 hn
    rcases List.eq_nil_or_concat ns with rfl | ⟨ns', s, rfl⟩
    · simp at e1
    rcases List.eq_nil_or_concat hs with rfl | ⟨hs', o, rfl⟩
    · simp at e2
    rw [List.concat_eq_append] at *
    rw [List.concat_eq_append] at *
    have l1 : ns'.length = n := by simpa using e1
    have l2 : hs'.length = n := by simpa using e2
    have bs := hn s (by simp)
    have h1 := ih ns' hs' l1 l2 fun i hi => hn i (List.mem_append_left _ hi)
    have e : compS (ns' ++ [s]) (hs' ++ [o]) = stepR (compS ns' hs') (choose s o) := by
      unfold compS
      rw [List.zipWith_append (by rw [l1, l2])]
      exact prodS_snoc _ _
    have ep : prodI (ns' ++ [s]) = prodI ns' * s := by
      rw [← prodA_one, ← prodA_one ns']
      unfold prodA
      rw [List.foldl_append]
      rfl
    have cl := choose_len (s := s) (o := o) bs.1
    rw [e, stepR_len, ep]
    refine ⟨?_, ?_⟩
    · rw [Int.natCast_mul]
      exact Int.mul_le_mul h1.1 cl.2 (by omega) (by omega)
    · exact Nat.le_trans (by decide) (Nat.mul_le_mul h1.2 cl.1)
theorem zip_take {ns : List Int} {hs : List (Option Int)} {i : Nat} {s : Int} {o : Option Int} (h1 : ns[i]? = some s) (h2 : hs[i]? = some o) : List.zipWith choose (ns.take (i + 1)) (hs.take (i + 1)) = List.zipWith choose (ns.take i) (hs.take i) ++ [choose s o] := by
  have l1 := (List.getElem?_eq_some_iff.mp h1).1
  have l2 := (List.getElem?_eq_some_iff.mp h2).1
  rw [take_snoc h1, take_snoc h2, List.zipWith_append (by rw [List.length_take, List.length_take]; omega)]
  rfl
theorem stepR_snoc {rows : List (List Int)} {i : Nat} {r c : List Int} (h : rows[i]? = some r) : stepR (rows.take (i + 1)) c = stepR (rows.take i) c ++ c.map fun v => r ++ [v] := by
  rw [take_snoc h]
  unfold stepR
  rw [List.flatMap_append]
  simp
theorem prod_pre {ns : List Int} (hn : ∀ i ∈ ns, 2 ≤ i ∧ i ≤ 6) (i : Nat) : prodI (ns.take i) ≤ prodI ns := by
  have key : ∀ ms ks : List Int, (∀ i ∈ ms ++ ks, 2 ≤ i ∧ i ≤ 6) → prodI ms ≤ prodI (ms ++ ks) := by
    intro ms
    induction ms with
    | nil =>
      intro ks h
      have := prodI_pos (ns := ks) fun i hi => by have := h i (List.mem_append_right _ hi); omega
      show 1 ≤ prodI ks
      omega
    | cons m ms ih =>
      intro ks h
      have b := h m (by simp)
      exact Int.mul_le_mul_of_nonneg_left (ih ks fun i hi => h i (by simp at hi ⊢; exact .inr hi)) (by omega)
  have := key (ns.take i) (ns.drop i) (by rw [List.take_append_drop]; exact hn)
  rw [List.take_append_drop] at this
  exact this
theorem ok_listC {f : Addr} {fd : FuncData} {k : Nat} (F : Fun K "list_completing" "list_completing" sListC f fd) (T : Txt2 mg) : FnOk P w K mg base CX0 (k + 1) f fd ["sizes", "half"] (spListC K) := by
  refine F.ok scListC (fun vs H Q E h => ?_) (fun cdv A outer s H vs Q E hr h => ?_)
  · obtain ⟨a, b, ns, hs, rfl, _⟩ := h
    rfl
  · obtain ⟨a, b, ns, hs, rfl, hS, hB, hp, q⟩ := h
    refine ⟨_, pss_cons (ps_set (i := 2) scListC.nd rfl (.inl rfl) (pe_lstN (pa_cons (pe_lstN pa_nil) pa_nil)))
      (pss_cons (ps_for PassesOwn.never rfl (pi_range1 rfl T.range (pa_cons (pe_callB call_len_seq (by rfl) T.T.len PySem.boot_len (pa_cons (pv 0) pa_nil)) pa_nil)) (pg_name (i := 3) scListC.nd rfl (.inl rfl))
        (pss_cons (ps_set (i := 4) scListC.nd rfl (.inr rfl) (PE.imp (t' := tChoose K) (pe_ifExp (pt_cmpR op_isN (pe_ix ix_list (pv 1) (pv 3) (fun _ _ => rfl)) pe_non (nomark _))
            (pe_listRg rfl (by rfl) T.T.list (prg_1 (by rfl) T.range (pe_ix ix_list (pv 0) (pv 3) (fun _ _ => rfl)))) (pe_lstN (pa_cons (pe_ix ix_list (pv 1) (pv 3) (fun _ _ => rfl)) pa_nil))) ?ch))
        (pss_one (ps_setLc2 (i := 2) (own := [("begun", 5), ("value", 6)]) (vs1 := [6]) (g := gName 5) (g1 := gName 6) (tt := tYes) (tt1 := tYes) (wi1 := iList K (tVar 4)) (te := tLstN (StX.tStar K (tVar 5) (tCons (tVar 6) tNil))) rfl scListC.nd rfl rfl (sw_true rfl rfl rfl (by decide +kernel))
            (pi_list (pv 2)) (blkOk_by (own := [("begun", 5), ("value", 6)]) (N := ["sizes", "half", "cases", "at", "choices", "begun", "value"]) (sc := defScope sListC) (by decide +kernel)) (by decide)
            (fun _ _ _ _ _ => pg_name (i := 5) scListC.nd rfl (Or.inl rfl)) (fun _ _ _ _ _ => pts_nil) (fun _ _ _ _ _ => pi_list (pv 4)) (fun _ _ _ _ _ => pg_name (i := 6) scListC.nd rfl (Or.inl rfl)) (fun _ _ _ _ _ => pts_nil)
            (fun _ _ _ _ _ => pe_lstN (StX.pa_star (pv 5) (pa_cons (pv 6) pa_nil)))))))
      (pss_one (ps_ret (pv 2)))), ?_⟩
    case ch =>
      rintro σ H' Q' ⟨a, b, i, ns, hs, s, o, e0, e1, e3, h1, h2, g1, g2, s2, s6, nw⟩
      have gV : (hs.map oV)[i]? = some (oV o) := by
        rw [List.getElem?_map, g2]
        rfl
      have gS : (ns.map V.int)[i]? = some (.int s) := by
        rw [List.getElem?_map, g1]
        rfl
      refine ⟨_, e1, _, e3, b, _, _, _, rfl, rfl, h2, atI_nat gV, rfl, _, rfl, ?_⟩
      cases o with
      | none =>
        refine iteT ⟨_, e0, _, e3, a, _, _, _, rfl, rfl, h1, atI_nat gS, s, rfl, ⟨by omega, by omega⟩, fun x nx => ?_⟩
        exact nw x _ (same_upd nx) nx (by rw [upd_same]; exact congrArg (fun l => some (HO.lst l)) (rgV_range s))
      | some v =>
        refine iteF ⟨_, e1, _, e3, b, _, _, _, rfl, rfl, h2, atI_nat gV, by show 1 ≤ sizeLine; decide, nw⟩
    have l24 := hS.2.1
    have hl := hB.2.len
    refine ⟨by show 0 ≤ sizeLine; decide, fun e0 H1 s1 n1 e1 => ⟨by show 1 ≤ sizeLine; decide, fun c0 H2 s2 n2 e2 => ?_⟩⟩
    have s12 := s1.trans s2
    refine ⟨_, rfl, a, _, rfl, .inl (hS.sm s12).1, (ns.length : Int), by rw [List.length_map], by omega, by omega, for_range (n := ((ns.length : Nat) : Int).toNat) (fun i σ H' => ∃ (r : Addr) (bs : List Addr) (y3 y4 y5 y6 : Option V), σ = [some (.ref a), some (.ref b), some (.ref r), y3, y4, y5, y6] ∧
        Same H H' ∧ H r = none ∧ H' r = some (.lst (bs.map V.ref)) ∧ AR H H' bs (compS (ns.take i) (hs.take i)))
      ⟨c0, [e0], none, none, none, none, rfl, s12, s1.free n2, e2, n1, s2 _ _ e1, trivial⟩ ?_ ?_⟩
    · rintro i σ H3 hi ⟨r, bs, y3, y4, y5, y6, rfl, sm, nr, er, hA⟩
      have lt : i < ns.length := by omega
      have g1 := List.getElem?_eq_getElem lt
      obtain ⟨o, g2, ho⟩ := HalfI.get hB.2 g1
      have bn := hS.2.2 _ (List.getElem_mem lt)
      refine ⟨a, b, i, ns, hs, ns[i], o, rfl, rfl, ?_, (hS.sm sm).1, (hB.sm sm).1, g1, g2, bn.1, bn.2, fun ch H4 s4 n4 e4 => ?_⟩
      · show some (some (V.int (0 + (i : Int)))) = _
        rw [Int.zero_add]
      have s34 := sm.trans s4
      have cl := choose_len (s := ns[i]) (o := o) bn.1
      have lR : ((compS (ns.take i) (hs.take i)).length : Int) ≤ 1024 := by
        have z := (compS_len i (ns.take i) (hs.take i) (by rw [List.length_take]; omega) (by rw [List.length_take]; omega) fun x hx => hS.2.2 x (List.mem_of_mem_take hx)).1
        have z2 := prod_pre hS.2.2 i
        omega
      have lR1 : ((compS (ns.take (i + 1)) (hs.take (i + 1))).length : Int) ≤ 1024 := by
        have z := (compS_len (i + 1) (ns.take (i + 1)) (hs.take (i + 1)) (by rw [List.length_take]; omega) (by rw [List.length_take]; omega) fun x hx => hS.2.2 x (List.mem_of_mem_take hx)).1
        have z2 := prod_pre hS.2.2 (i + 1)
        omega
      have nx : compS (ns.take (i + 1)) (hs.take (i + 1)) = stepR (compS (ns.take i) (hs.take i)) (choose ns[i] o) := by
        unfold compS
        rw [zip_take g1 g2]
        exact prodS_snoc _ _
      rw [nx, stepR_len, Int.natCast_mul] at lR1
      generalize hrows : compS (ns.take i) (hs.take i) = rows at hA lR lR1 nx
      generalize hcs : choose ns[i] o = cs at e4 cl lR1 nx
      have hA4 := AR.sm s4 hA
      have lb := hA.len
      refine ⟨_, rfl, r, rfl, ⟨_, .inl (.inl (s4 _ _ er))⟩, fun D nD => ?_⟩
      have s5 := same_upd (o := .lst []) nD
      have nD0 : H D = none := s34.free nD
      have rB : ∀ (n : Nat), n ≤ rows.length * cs.length → n < sizeLine := fun n hn => by
        have : (rows.length * cs.length : Int) ≤ 1024 := lR1
        have h2 : ((rows.length * cs.length : Nat) : Int) ≤ 1024 := by rw [Int.natCast_mul]; exact this
        have : sizeLine = 2 ^ 24 := rfl
        omega
      refine walk_list (K := K) (a := r) (xs := bs.map V.ref) (fun j H' => Same H4 H' ∧ ∃ ds, H' D = some (.lst (ds.map V.ref)) ∧ (∀ d ∈ ds, d ≠ D) ∧ AR H H' ds (stepR (rows.take j) cs)) ⟨s5, [], upd_same, fun _ h => (nomatch h), trivial⟩
        (fun j H' _ ⟨sm', _⟩ => sm'.seq (.inl (.inl (s4 _ _ er)))) ?_ ?_
      · rintro j x H5 hx ⟨sm5, ds, eD, nd, hD⟩
        rw [List.getElem?_map] at hx
        obtain ⟨bj, hbj, rfl⟩ := Option.map_eq_some_iff.mp hx
        have ltj : j < rows.length := by
          have := (List.getElem?_eq_some_iff.mp hbj).1
          omega
        have gr := List.getElem?_eq_getElem ltj
        obtain ⟨b', hb', nb', eb'⟩ := hA4.get gr
        rw [hbj] at hb'
        cases hb'
        refine ⟨rfl, ?_⟩
        refine ⟨_, rfl, ch, rfl, ⟨_, .inl (.inl (sm5 _ _ e4))⟩, ?_⟩
        refine walk_list (K := K) (a := ch) (xs := cs.map V.int) (fun l H' => Same H4 H' ∧ ∃ ds, H' D = some (.lst (ds.map V.ref)) ∧ (∀ d ∈ ds, d ≠ D) ∧ AR H H' ds (stepR (rows.take j) cs ++ (cs.take l).map fun v => rows[j] ++ [v]))
          ⟨sm5, ds, eD, nd, by rw [List.take_zero, List.map_nil, List.append_nil]; exact hD⟩ (fun l H' _ ⟨sm', _⟩ => sm'.seq (.inl (.inl e4))) ?_ ?_
        · rintro l x H6 hx ⟨sm6, ds6, eD6, nd6, hD6⟩
          rw [List.getElem?_map] at hx
          obtain ⟨v, hv, rfl⟩ := Option.map_eq_some_iff.mp hx
          have ltl := (List.getElem?_eq_some_iff.mp hv).1
          have l6 := hD6.len
          refine ⟨rfl, ?_⟩
          refine ⟨_, rfl, bj, _, rfl, .inr (.inl (.inl (sm6 _ _ eb'))), _, rfl, ?_, fun nw H7 s7 n7 e7 => ?_⟩
          · have : rows[j].length ≤ 24 := by
              have m : rows[j] ∈ compS (ns.take i) (hs.take i) := by rw [hrows]; exact List.getElem_mem ltj
              have := prodS_len m
              rw [List.length_zipWith, List.length_take, List.length_take] at this
              omega
            show (rows[j].map V.int ++ [V.int v]).length ≤ sizeLine
            rw [List.length_append, List.length_map, List.length_singleton]
            exact Nat.le_of_lt (small1000 (by omega))
          · have nwD : nw ≠ D := (ne_of_none eD6 n7).symm
            have nw0 : H nw = none := (s34.trans sm6).free n7
            refine ⟨_, s7 _ _ eD6, ?_, fun x o e => ?_, ds6 ++ [nw], ?_, ?_, ?_⟩
            · rw [List.length_map, l6]
              refine rB _ ?_
              rw [List.length_append, stepR_len, List.length_map, List.length_take, List.length_take]
              have h1 : min j rows.length = j := by omega
              have h2 : (j + 1) * cs.length ≤ rows.length * cs.length := Nat.mul_le_mul_right _ (by omega)
              rw [h1]
              rw [Nat.succ_mul] at h2
              omega
            · rw [upd_ne (ne_of_none e nD)]
              exact s7 x o (sm6 x o e)
            · rw [upd_same, List.map_append]
              rfl
            · intro d hd
              rcases List.mem_append.mp hd with hd | hd
              · exact nd6 d hd
              · rw [List.mem_singleton.mp hd]
                exact nwD
            · rw [take_snoc hv, List.map_append, ← List.append_assoc]
              refine AR.upd (fun d hd => ?_) ((AR.sm s7 hD6).snoc nw0 ?_)
              · rcases List.mem_append.mp hd with hd | hd
                · exact nd6 d hd
                · rw [List.mem_singleton.mp hd]
                  exact nwD
              · rw [e7, List.map_append]
                rfl
        · rintro H6 ⟨sm6, ds6, eD6, nd6, hD6⟩
          rw [List.length_map, List.take_length] at hD6
          refine ⟨sm6, ds6, eD6, nd6, ?_⟩
          rw [stepR_snoc gr]
          exact hD6
      · rintro H5 ⟨sm5, ds, eD, nd, hD⟩
        rw [List.length_map, lb, List.take_length] at hD
        refine ⟨D, ds, _, _, _, _, rfl, s34.trans sm5, nD0, eD, ?_⟩
        rw [nx]
        exact hD
    · rintro σ H3 ⟨r, bs, y3, y4, y5, y6, rfl, sm, nr, er, hA⟩
      refine ⟨_, rfl, q H3 r bs sm nr er ?_⟩
      rw [Int.toNat_natCast, List.take_length, ← hl, List.take_length] at hA
      exact hA
/-! ### completing -/
theorem scCompleting : FnScope ["sizes", "half"] ["sizes", "half"] (defScope sCompleting) := ⟨rfl, rfl, rfl, by decide +kernel, rfl, by decide +kernel, by decide +kernel⟩
theorem ok_completing {f fS fH fM fL : Addr} {fd fdS fdH fdM fdL : FuncData} {k : Nat} (F : Fun K "completing" "completing" sCompleting f fd) (GS : FnOk P w K mg base CX0 k fS fdS ["sizes"] (spCheckSizes K)) (bS : Binds K fdS ["sizes"] []) (gS : mg "check_sizes" = some (.ref fS)) (kS : PySem.W.keepIn K (.ref fS) = true)
    (GH : FnOk P w K mg base CX0 k fH fdH ["sizes", "half"] (spCheckHalf K)) (bH : Binds K fdH ["sizes", "half"] []) (gH : mg "check_half" = some (.ref fH)) (kH : PySem.W.keepIn K (.ref fH) = true)
    (GM : FnOk P w K mg base CX0 k fM fdM ["sizes"] (spCheckSmall K)) (bM : Binds K fdM ["sizes"] []) (gM : mg "check_small" = some (.ref fM)) (kM : PySem.W.keepIn K (.ref fM) = true)
    (GL : FnOk P w K mg base CX0 k fL fdL ["sizes", "half"] (spListC K)) (bL : Binds K fdL ["sizes", "half"] []) (gL : mg "list_completing" = some (.ref fL)) (kL : PySem.W.keepIn K (.ref fL) = true) : FnOk P w K mg base CX0 (k + 1) f fd ["sizes", "half"] (spListC K) := by
  refine F.ok scCompleting (fun vs H Q E h => ?_) (fun cdv A outer s H vs Q E hr h => ?_)
  · obtain ⟨a, b, ns, hs, rfl, _⟩ := h
    rfl
  · obtain ⟨a, b, ns, hs, rfl, hS, hB, hp, q⟩ := h
    refine ⟨_, pss_cons (ps_expr (pe_call GS hr (by rfl) gS kS bS .nil pass0 (pa_cons (pv 0) pa_nil)))
      (pss_cons (ps_expr (pe_call GH hr (by rfl) gH kH bH .nil pass0 (pa_cons (pv 0) (pa_cons (pv 1) pa_nil))))
      (pss_cons (ps_expr (pe_call GM hr (by rfl) gM kM bM .nil pass0 (pa_cons (pv 0) pa_nil)))
      (pss_one (ps_ret (pe_call GL hr (by rfl) gL kL bL .nil pass0 (pa_cons (pv 0) (pa_cons (pv 1) pa_nil))))))), ?_⟩
    refine ⟨_, rfl, a, ns, rfl, hS, fun H1 s1 => ⟨_, rfl, _, rfl, a, b, ns, hs, rfl, hS.sm s1, hB.sm s1, fun H2 s2 => ?_⟩⟩
    have s12 := s1.trans s2
    exact ⟨_, rfl, a, ns, rfl, hS.sm s12, hp, _, rfl, _, rfl, a, b, ns, hs, rfl, hS.sm s12, hB.sm s12, hp, fun H3 r bs s3 n3 e3 hA => q H3 r bs (s12.trans s3) (s12.free n3) e3 (hA.old fun b hb => s12.free hb)⟩
/-! ### unlike_fields, differing -/
theorem scUnlike : FnScope ["case", "second_case", "at"] ["case", "second_case"] (defScope sUnlike) := ⟨rfl, rfl, rfl, by decide +kernel, rfl, by decide +kernel, by decide +kernel⟩
def spUnlike (K : PySem.W.Frag) : Sp := fun vs H Q _ => ∃ b c ns us ws, vs = [.ref b, .ref c] ∧ ns.length ≤ 24 ∧ CaseAt K H b ns us ∧ CaseAt K H c ns ws ∧
  ∀ H' r, Same H H' → H r = none → H' r = some (.lst ((dfI ns.length us ws).map V.int)) → Q (.ref r) H'
theorem ok_unlike {f : Addr} {fd : FuncData} {k : Nat} (F : Fun K "unlike_fields" "unlike_fields" sUnlike f fd) (T : Txt2 mg) : FnOk P w K mg base CX0 (k + 1) f fd ["case", "second_case"] (spUnlike K) := by
  refine F.ok scUnlike (fun vs H Q E h => ?_) (fun cdv A outer s H vs Q E hr h => ?_)
  · obtain ⟨b, c, ns, us, ws, rfl, _⟩ := h
    rfl
  · obtain ⟨b, c, ns, us, ws, rfl, l24, hB, hC, q⟩ := h
    refine ⟨_, pss_one (ps_ret (pe_lc (own := [("at", 2)]) (g := gName 2) rfl scUnlike.nd (pi_range1 rfl T.range (pa_cons (pe_callB call_len_seq (by rfl) T.T.len PySem.boot_len (pa_cons (pv 0) pa_nil)) pa_nil))
        (blkOk_by (own := [("at", 2)]) (N := ["case", "second_case", "at"]) (sc := defScope sUnlike) (by decide +kernel)) (fun _ _ _ _ _ => pg_name (i := 2) scUnlike.nd rfl (Or.inl rfl))
        (fun _ _ _ _ _ => pts_one (pt_cmpR op_ne (pe_ix (r := rIxL K) ix_list (pv 0) (pv 2) (fun _ _ => rfl)) (pe_ix (r := rIxL K) ix_list (pv 1) (pv 2) (fun _ _ => rfl)) (nomark _))) (fun _ _ _ _ _ => pv 2))), ?_⟩
    have lus := RowI.len hB.2
    refine ⟨_, rfl, b, _, rfl, .inl hB.1, (us.length : Int), by rw [List.length_map], by omega, by omega, fun D nD => ?_⟩
    have s4 := same_upd (o := .lst []) nD
    refine lc_range (lo := 0) (n := ((us.length : Nat) : Int).toNat) (fun i H' => Same H H' ∧ H' D = some (.lst ((dfI i us ws).map V.int))) ⟨s4, upd_same⟩ ?_ ?_
    · rintro i H' hi ⟨sm, eD⟩
      have lt : i < ns.length := by omega
      have g := List.getElem?_eq_getElem lt
      obtain ⟨u, gu, _⟩ := RowI.get hB.2 g
      obtain ⟨v, gv, _⟩ := RowI.get hC.2 g
      have g1 : (us.map V.int)[i]? = some (.int u) := by
        rw [List.getElem?_map, gu]
        rfl
      have g2 : (ws.map V.int)[i]? = some (.int v) := by
        rw [List.getElem?_map, gv]
        rfl
      refine ⟨rfl, ?_⟩
      refine ⟨_, rfl, _, rfl, b, _, _, _, rfl, rfl, (hB.sm sm).1, at_of (Int.zero_add _) g1, _, rfl, _, rfl, c, _, _, _, rfl, rfl, (hC.sm sm).1, at_of (Int.zero_add _) g2, rfl, _, rfl, ?_⟩
      by_cases e : u = v
      · refine iteNS (by rw [e]) ⟨sm, ?_⟩
        rw [dfI_succ, getD_of gu, getD_of gv, if_neg (by simp [e]), List.append_nil]
        exact eD
      · rw [decide_eq_false (fun z => e (V.int.inj z))]
        refine iteT ⟨_, rfl, _, eD, ?_, fun x o e' => ?_, ?_⟩
        · rw [List.length_map]
          have := dfI_len i us ws
          exact small1000 (by omega)
        · rw [upd_ne (ne_of_none e' nD)]
          exact sm x o e'
        · rw [upd_same, dfI_succ, getD_of gu, getD_of gv, if_pos e, List.map_append]
          show some (HO.lst ((dfI i us ws).map V.int ++ [V.int (0 + (i : Int))])) = _
          rw [Int.zero_add]
          rfl
    · rintro H' ⟨sm, eD⟩
      have ee : ((us.length : Nat) : Int).toNat = ns.length := by omega
      rw [ee] at eD
      exact q H' D sm nD eD
theorem scDiffering : FnScope ["sizes", "case", "second_case"] ["sizes", "case", "second_case"] (defScope sDiffering) := ⟨rfl, rfl, rfl, by decide +kernel, rfl, by decide +kernel, by decide +kernel⟩
def spDiffering (K : PySem.W.Frag) : Sp := fun vs H Q _ => ∃ a b c ns us ws, vs = [.ref a, .ref b, .ref c] ∧ SizesAt K H a ns ∧ CaseAt K H b ns us ∧ CaseAt K H c ns ws ∧
  ∀ H' r, Same H H' → H r = none → H' r = some (.lst ((dfI ns.length us ws).map V.int)) → Q (.ref r) H'
theorem ok_differing {f fS fC fU : Addr} {fd fdS fdC fdU : FuncData} {k : Nat} (F : Fun K "differing" "differing" sDiffering f fd) (GS : FnOk P w K mg base CX0 k fS fdS ["sizes"] (spCheckSizes K)) (bS : Binds K fdS ["sizes"] []) (gS : mg "check_sizes" = some (.ref fS)) (kS : PySem.W.keepIn K (.ref fS) = true)
    (GC : FnOk P w K mg base CX0 k fC fdC ["sizes", "case"] (spCheckCase K)) (bC : Binds K fdC ["sizes", "case"] []) (gC : mg "check_case" = some (.ref fC)) (kC : PySem.W.keepIn K (.ref fC) = true)
    (GU : FnOk P w K mg base CX0 k fU fdU ["case", "second_case"] (spUnlike K)) (bU : Binds K fdU ["case", "second_case"] []) (gU : mg "unlike_fields" = some (.ref fU)) (kU : PySem.W.keepIn K (.ref fU) = true) : FnOk P w K mg base CX0 (k + 1) f fd ["sizes", "case", "second_case"] (spDiffering K) := by
  refine F.ok scDiffering (fun vs H Q E h => ?_) (fun cdv A outer s H vs Q E hr h => ?_)
  · obtain ⟨a, b, c, ns, us, ws, rfl, _⟩ := h
    rfl
  · obtain ⟨a, b, c, ns, us, ws, rfl, hS, hB, hC, q⟩ := h
    refine ⟨_, pss_cons (ps_expr (pe_call GS hr (by rfl) gS kS bS .nil pass0 (pa_cons (pv 0) pa_nil)))
      (pss_cons (ps_expr (pe_call GC hr (by rfl) gC kC bC .nil pass0 (pa_cons (pv 0) (pa_cons (pv 1) pa_nil))))
      (pss_cons (ps_expr (pe_call GC hr (by rfl) gC kC bC .nil pass0 (pa_cons (pv 0) (pa_cons (pv 2) pa_nil))))
      (pss_one (ps_ret (pe_call GU hr (by rfl) gU kU bU .nil pass0 (pa_cons (pv 1) (pa_cons (pv 2) pa_nil))))))), ?_⟩
    refine ⟨_, rfl, a, ns, rfl, hS, fun H1 s1 => ⟨_, rfl, _, rfl, a, b, ns, us, rfl, hS.sm s1, hB.sm s1, fun H2 s2 => ?_⟩⟩
    have s12 := s1.trans s2
    refine ⟨_, rfl, _, rfl, a, c, ns, ws, rfl, hS.sm s12, hC.sm s12, fun H3 s3 => ?_⟩
    have s13 := s12.trans s3
    exact ⟨_, rfl, _, rfl, b, c, ns, us, ws, rfl, hS.2.1, hB.sm s13, hC.sm s13, fun H4 r s4 n4 e4 => q H4 r (s13.trans s4) (s13.free n4) e4⟩
end
end Lk
namespace Lk
open PySem PySem.Spec PyProof.Rows L2
abbrev sSizes : Stmt := top 30
abbrev sRows : Stmt := top 32
abbrev sHalf : Stmt := top 33
theorem prodI_snoc (ns : List Int) (s : Int) : prodI (ns ++ [s]) = prodI ns * s := by
  rw [← prodA_one, ← prodA_one ns]
  unfold prodA
  rw [List.foldl_append]
  rfl
theorem HalfI.snoc : ∀ {ns : List Int} {hs : List (Option Int)} {s : Int} {o : Option Int}, HalfI ns hs → (∀ v, o = some v → 0 ≤ v ∧ v < s) → HalfI (ns ++ [s]) (hs ++ [o])
  | [], [], s, o, _, h => ⟨h, trivial⟩
  | n :: ns, w :: vs, s, v, h, h1 => ⟨h.1, HalfI.snoc h.2 h1⟩
  | [], _ :: _, _, _, h, _ => h.elim
  | _ :: _, [], _, _, h, _ => h.elim
section
variable {P : Program} {w : World} {K : PySem.W.Frag} {mg : Str → Option Value} {base : Heap}
/-! ### _law_sizes -/
theorem scSizes : FnScope ["deck", "many", "most", "found", "room", "turn", "size"] ["deck", "many", "most"] (defScope sSizes) := ⟨rfl, rfl, rfl, by decide +kernel, rfl, by decide +kernel, by decide +kernel⟩
def spSizes : Sp := fun vs H Q _ => ∃ (p c : Addr) (m : Int), vs = [.ref p, .int m, .int 1024] ∧ DeckAt H p c ∧ 0 ≤ m ∧ m ≤ 24 ∧
  ∀ H' r ns, Kept p c H H' → DeckAt H' p c → (∀ b, H' b = none → H b = none) → H r = none → SizesL H' r ns → prodI ns ≤ 1024 → Q (.ref r) H'
theorem ok_sizes {f fT : Addr} {fd fdT : FuncData} {k : Nat} (F : Fun K "_law_sizes" "_law_sizes" sSizes f fd) (GT : FnOk P w K mg base CX0 k fT fdT ["deck", "wide"] spTake)
    (bT : Binds K fdT ["deck", "wide"] []) (gT : mg "_law_take" = some (.ref fT)) (kT : PySem.W.keepIn K (.ref fT) = true) (mr : mg "range" = none) : FnOk P w K mg base CX0 (k + 1) f fd ["deck", "many", "most"] spSizes := by
  refine F.ok scSizes (fun vs H Q E h => ?_) (fun cdv A outer s H vs Q E hr h => ?_)
  · obtain ⟨p, c, m, rfl, _⟩ := h
    rfl
  · obtain ⟨p, c, m, rfl, hD, m0, m1, q⟩ := h
    refine ⟨_, pss_cons (ps_par (i := 3) (j := 4) (by rfl) scSizes.nd rfl rfl (by decide) rfl rfl (pa_cons (pe_lstN pa_nil) (pa_cons (pv 2) pa_nil)) (by rfl))
      (pss_cons (ps_for PassesOwn.never rfl (pi_range1 rfl mr (pa_cons (pe_call GT hr (by rfl) gT kT bT .nil pass0 (pa_cons (pv 0) (pa_cons (pe_op op_add (pv 1) pe_int) pa_nil))) pa_nil)) (pg_name (i := 5) scSizes.nd rfl (.inl rfl))
        (pss_cons (ps_set (i := 6) scSizes.nd rfl (.inl rfl) (pe_op op_add pe_int (pe_ix ix_list (pe_lstN (pa_cons pe_int (pa_cons pe_int (pa_cons pe_int (pa_cons pe_int (pa_cons pe_int (pa_cons pe_int pa_nil)))))))
            (pe_call GT hr (by rfl) gT kT bT .nil pass0 (pa_cons (pv 0) (pa_cons pe_int pa_nil))) (fun _ _ => rfl))))
        (pss_one (ps_if (pt_cmpR op_le (pv 6) (pv 4) (nomark _))
          (pss_cons (ps_expr (pe_bm PySem.F.plainAttrs_list PySem.F.slot_list_append PySem.F.type_list_append mt_append (pv 3) (pa_cons (pv 6) pa_nil)))
          (pss_one (ps_set (i := 4) scSizes.nd rfl (.inl rfl) (pe_op op_fdiv (pv 4) (pv 6))))) pss_nil))))
      (pss_one (ps_ret (pv 3)))), ?_⟩
    refine ⟨by show 0 ≤ sizeLine; decide, fun r H1 s1 n1 e1 => ⟨_, rfl, _, _, rfl, ?_⟩⟩
    have ap := DeckAt.apart hD n1
    refine ⟨_, rfl, _, rfl, _, _, rfl, rfl, p, c, m + 1, rfl, DeckAt.sm s1 hD, by omega, small_log (by omega) (by omega), fun H2 t k2 D2 t0 t1 f2 => ?_⟩
    refine ⟨t, rfl, by omega, by omega, for_range (n := t.toNat) (fun i σ H' => ∃ (ns : List Int) (room : Int) (y5 y6 : Option V), σ = [some (.ref p), some (.int m), some (.int 1024), some (.ref r), some (.int room), y5, y6] ∧
        Kept p c H H' ∧ DeckAt H' p c ∧ (∀ b, H' b = none → H b = none) ∧ H' r = some (.lst (ns.map V.int)) ∧ ns.length ≤ i ∧ (∀ x ∈ ns, 2 ≤ x ∧ x ≤ 6) ∧ 1 ≤ room ∧ prodI ns * room ≤ 1024)
      ⟨[], 1024, none, none, rfl, Kept.trans (Kept.of s1) k2, D2, fun b h => s1.free (f2 b h), k2 _ _ ap.1 ap.2 e1, Nat.le_refl _, fun _ h => (nomatch h), by decide, by decide⟩ ?_ ?_⟩
    · rintro i σ H3 hi ⟨ns, room, y5, y6, rfl, k3, D3, f3, e3, ln, hn, r1, rp⟩
      refine ⟨by show 6 ≤ sizeLine; decide, fun l H4 s4 n4 e4 => ?_⟩
      have apl := DeckAt.apart D3 n4
      refine ⟨_, rfl, p, c, 6, rfl, DeckAt.sm s4 D3, by decide, by decide, fun H5 u k5 D5 u0 u1 f5 => ?_⟩
      obtain ⟨j, rfl⟩ := Int.eq_ofNat_of_zero_le u0
      obtain ⟨z, hz, z0, z1⟩ : ∃ z : Int, [V.int 0, .int 0, .int 1, .int 2, .int 3, .int 4][j]? = some (.int z) ∧ 0 ≤ z ∧ z ≤ 4 := by
        have j6 : j < 6 := by omega
        match j, j6 with
        | 0, _ => exact ⟨_, rfl, by decide, by decide⟩
        | 1, _ => exact ⟨_, rfl, by decide, by decide⟩
        | 2, _ => exact ⟨_, rfl, by decide, by decide⟩
        | 3, _ => exact ⟨_, rfl, by decide, by decide⟩
        | 4, _ => exact ⟨_, rfl, by decide, by decide⟩
        | 5, _ => exact ⟨_, rfl, by decide, by decide⟩
      refine ⟨l, _, _, _, rfl, rfl, .inl (.inl (k5 _ _ apl.1 apl.2 e4)), atI_nat hz, _, _, rfl, rfl, ?_⟩
      have k15 : Kept p c H H5 := Kept.trans k3 (Kept.trans (Kept.of s4) k5)
      have f15 : ∀ b, H5 b = none → H b = none := fun b h => f3 b (s4.free (f5 b h))
      have e5 := k5 _ _ ap.1 ap.2 (s4 _ _ e3)
      refine ⟨_, rfl, _, rfl, _, _, rfl, rfl, _, rfl, ite2 (fun e => ?_) (fun e => ?_)⟩
      · have le : 2 + z ≤ room := of_decide_eq_true e
        refine ⟨_, rfl, .inl ⟨rfl, _, .inl (.inl e5)⟩, _, rfl, r, _, _, rfl, rfl, e5, by rw [List.length_map]; exact small1000 (by omega), ?_⟩
        refine ⟨_, rfl, _, rfl, room, 2 + z, rfl, rfl, ⟨by omega, by omega⟩, ?_⟩
        have d1 : 1 ≤ room / (2 + z) := by
          have := Int.le_ediv_of_mul_le (a := 1) (b := room) (c := 2 + z) (by omega) (by omega)
          exact this
        have d2 : room / (2 + z) * (2 + z) ≤ room := Int.ediv_mul_le room (by omega)
        have pp : 0 < prodI ns := prodI_pos fun s hs => by have := hn s hs; omega
        refine ⟨ns ++ [2 + z], room / (2 + z), _, _, rfl, fun x o n1' n2' e' => ?_, DeckAt.upd ap.1 ap.2 D5, fun b h => f15 b (free_upd b h), by rw [upd_same, List.map_append]; rfl, by rw [List.length_append, List.length_singleton]; omega, ?_, d1, ?_⟩
        · have e'' := k15 x o n1' n2' e'
          rw [upd_ne (ne_of_none e' n1)]
          exact e''
        · intro x hx
          rcases List.mem_append.mp hx with hx | hx
          · exact hn x hx
          · rw [List.mem_singleton.mp hx]
            omega
        · rw [prodI_snoc, Int.mul_assoc, Int.mul_comm (2 + z)]
          exact Int.le_trans (Int.mul_le_mul_of_nonneg_left d2 (by omega)) rp
      · exact ⟨ns, room, _, _, rfl, k15, D5, f15, e5, by omega, hn, r1, rp⟩
    · rintro σ H3 ⟨ns, room, y5, y6, rfl, k3, D3, f3, e3, ln, hn, r1, rp⟩
      have pp : 0 < prodI ns := prodI_pos fun s hs => by have := hn s hs; omega
      refine ⟨_, rfl, q H3 r ns k3 D3 f3 n1 ⟨e3, by omega, hn⟩ ?_⟩
      have : prodI ns * 1 ≤ prodI ns * room := Int.mul_le_mul_of_nonneg_left r1 (by omega)
      omega
/-! ### _law_half -/
theorem scHalf : FnScope ["deck", "sizes_here", "way", "found", "size", "part", "is_known"] ["deck", "sizes_here"] (defScope sHalf) := ⟨rfl, rfl, rfl, by decide +kernel, rfl, by decide +kernel, by decide +kernel⟩
def spHalf : Sp := fun vs H Q _ => ∃ (p c s : Addr) (ns : List Int), vs = [.ref p, .ref s] ∧ DeckAt H p c ∧ SizesL H s ns ∧ s ≠ p ∧ s ≠ c ∧
  ∀ H' r hs, Kept p c H H' → DeckAt H' p c → (∀ b, H' b = none → H b = none) → H r = none → H' r = some (.lst (hs.map oV)) → HalfI ns hs → Q (.ref r) H'
def tKnown : TE := fun σ H Q => ∃ (p c : Addr) (way : Int), σ[0]? = some (some (.ref p)) ∧ σ[2]? = some (some (.int way)) ∧ DeckAt H p c ∧ ∀ k H', Kept p c H H' → DeckAt H' p c → (∀ b, H' b = none → H b = none) → Q (.bl k) H'
theorem ok_half {f fT : Addr} {fd fdT : FuncData} {k : Nat} (F : Fun K "_law_half" "_law_half" sHalf f fd) (GT : FnOk P w K mg base CX0 k fT fdT ["deck", "wide"] spTake)
    (bT : Binds K fdT ["deck", "wide"] []) (gT : mg "_law_take" = some (.ref fT)) (kT : PySem.W.keepIn K (.ref fT) = true) : FnOk P w K mg base CX0 (k + 1) f fd ["deck", "sizes_here"] spHalf := by
  refine F.ok scHalf (fun vs H Q E h => ?_) (fun cdv A outer s H vs Q E hr h => ?_)
  · obtain ⟨p, c, s, ns, rfl, _⟩ := h
    rfl
  · obtain ⟨p, c, s0, ns, rfl, hD, hS, nsp, nsc, q⟩ := h
    refine ⟨_, pss_cons (ps_set (i := 2) scHalf.nd rfl (.inl rfl) (pe_call GT hr (by rfl) gT kT bT .nil pass0 (pa_cons (pv 0) (pa_cons pe_int pa_nil))))
      (pss_cons (ps_set (i := 3) scHalf.nd rfl (.inl rfl) (pe_lstN pa_nil))
      (pss_cons (ps_for PassesOwn.never rfl (pi_list (pv 1)) (pg_name (i := 4) scHalf.nd rfl (.inl rfl))
        (pss_cons (ps_set (i := 5) scHalf.nd rfl (.inl rfl) (pe_call GT hr (by rfl) gT kT bT .nil pass0 (pa_cons (pv 0) (pa_cons (pv 4) pa_nil))))
        (pss_cons (ps_set (i := 6) scHalf.nd rfl (.inl rfl) (PE.imp (t' := tKnown) (pe_or (pe_cmpR op_eq (pv 2) pe_int (nomark _)) (pe_one (pe_and (pe_cmpR op_gt (pv 2) pe_int (nomark _))
            (pe_one (pe_cmpR op_eq (pe_call GT hr (by rfl) gT kT bT .nil pass0 (pa_cons (pv 0) (pa_cons pe_int pa_nil))) pe_int (nomark _)))))) ?kn))
        (pss_one (ps_expr (pe_bm PySem.F.plainAttrs_list PySem.F.slot_list_append PySem.F.type_list_append mt_append (pv 3) (pa_cons (pe_ifExp (pt_val (pv 6)) (pv 5) pe_non) pa_nil)))))))
      (pss_one (ps_ret (pv 3))))), ?_⟩
    case kn =>
      rintro σ H' Q' ⟨p, c, way, e0, e2, hD, z⟩
      refine ⟨_, e2, rfl, _, rfl, ite2 (fun e => z _ _ Kept.rfl' hD fun _ h => h) (fun e => ?_)⟩
      refine ⟨_, e2, _, _, rfl, rfl, _, rfl, ite2 (fun e => ?_) (fun e => z _ _ Kept.rfl' hD fun _ h => h)⟩
      exact ⟨_, e0, p, c, 2, rfl, hD, by decide, by decide, fun H1 r k1 D1 r0 r1 f1 => ⟨rfl, z _ _ k1 D1 f1⟩⟩
    refine ⟨_, rfl, p, c, 5, rfl, hD, by decide, by decide, fun H1 way k1 D1 w0 w1 f1 => ⟨by show 0 ≤ sizeLine; decide, fun r H2 s2 n2 e2 => ?_⟩⟩
    have D2 := DeckAt.sm s2 D1
    have ap := DeckAt.apart D1 n2
    have hs1 := k1 _ _ nsp nsc hS.1
    have nr : s0 ≠ r := ne_of_none hs1 n2
    refine ⟨_, rfl, s0, rfl, ⟨_, .inl (.inl (s2 _ _ hs1))⟩, for_list (K := K) (a := s0) (xs := ns.map V.int) (fun i σ H' => ∃ (hs : List (Option Int)) (y4 y5 y6 : Option V), σ = [some (.ref p), some (.ref s0), some (.int way), some (.ref r), y4, y5, y6] ∧
        Kept p c H1 H' ∧ DeckAt H' p c ∧ (∀ b, H' b = none → H1 b = none) ∧ H' r = some (.lst (hs.map oV)) ∧ hs.length = i ∧ HalfI (ns.take i) hs)
      ⟨[], none, none, none, rfl, Kept.of s2, D2, fun b h => s2.free h, e2, rfl, trivial⟩ (fun i σ H' _ ⟨_, _, _, _, _, kp, _⟩ => .inl (.inl (kp _ _ nsp nsc hs1))) ?_ ?_⟩
    · rintro i v σ H3 hi ⟨hs, y4, y5, y6, rfl, k3, D3, f3, e3, el, hH⟩
      rw [List.getElem?_map] at hi
      obtain ⟨n, hn, rfl⟩ := Option.map_eq_some_iff.mp hi
      have bs := hS.2.2 n (List.mem_of_getElem? hn)
      have lt : i < ns.length := (List.getElem?_eq_some_iff.mp hn).1
      have l24 := hS.2.1
      refine ⟨_, rfl, _, rfl, p, c, n, rfl, D3, by omega, small_log (by omega) (by omega), fun H4 t k4 D4 t0 t1 f4 => ?_⟩
      refine ⟨p, c, way, rfl, rfl, D4, fun b H5 k5 D5 f5 => ?_⟩
      have e5 := k5 _ _ ap.1 ap.2 (k4 _ _ ap.1 ap.2 e3)
      have k15 : Kept p c H1 H5 := Kept.trans k3 (Kept.trans k4 k5)
      refine ⟨_, rfl, .inl ⟨rfl, _, .inl (.inl e5)⟩, _, rfl, _, rfl, ?_⟩
      have kr : ∀ o : HO, Kept p c H1 (L2.upd H5 r o) := fun o x u n1 n2' e => by
        rw [upd_ne (ne_of_none e n2)]
        exact k15 x u n1 n2' e
      have fr : ∀ o : HO, ∀ b, L2.upd H5 r o b = none → H1 b = none := fun o b h => f3 b (f4 b (f5 b (free_upd b h)))
      have sz : (hs.map oV).length < sizeLine := by
        rw [List.length_map]
        exact small1000 (by omega)
      cases b with
      | true =>
        refine iteT ⟨_, rfl, r, _, _, rfl, rfl, e5, sz, ?_⟩
        refine ⟨hs ++ [some t], _, _, _, rfl, kr _, DeckAt.upd ap.1 ap.2 D5, fr _, by rw [upd_same, List.map_append]; rfl, by rw [List.length_append, el]; rfl, ?_⟩
        rw [take_snoc hn]
        exact hH.snoc fun v e => by cases e; exact ⟨t0, t1⟩
      | false =>
        refine iteF ⟨r, _, _, rfl, rfl, e5, sz, ?_⟩
        refine ⟨hs ++ [none], _, _, _, rfl, kr _, DeckAt.upd ap.1 ap.2 D5, fr _, by rw [upd_same, List.map_append]; rfl, by rw [List.length_append, el]; rfl, ?_⟩
        rw [take_snoc hn]
        exact hH.snoc fun v e => by cases e
    · rintro σ H3 ⟨hs, y4, y5, y6, rfl, k3, D3, f3, e3, el, hH⟩
      rw [List.length_map, List.take_length] at hH
      exact ⟨_, rfl, q H3 r hs (Kept.trans k1 k3) D3 (fun b h => f1 b (f3 b h)) (f1 _ n2) e3 hH⟩
end
end Lk
namespace Lk
open PySem PySem.Spec PyProof.Rows L2
theorem prodS_count : ∀ (n : Nat) (ns : List Int), ns.length = n → (∀ i ∈ ns, 2 ≤ i ∧ i ≤ 6) → ((prodS (ns.map rangeI)).length : Int) = prodI ns := by
  intro n
  induction n with
  | zero =>
    intro ns e _
    obtain rfl := List.length_eq_zero_iff.mp e
    rfl
  | succ n ih =>
    intro ns e hn
    rcases List.eq_nil_or_concat ns with rfl | ⟨ns', s, rfl⟩
    · simp at e
    rw [List.concat_eq_append] at *
    have b := hn s (by simp)
    have h := ih ns' (by simpa using e) fun i hi => hn i (List.mem_append_left _ hi)
    rw [List.map_append, List.map_singleton, prodS_snoc, stepR_len, prodI_snoc, rangeI_len, Int.natCast_mul, h, Int.toNat_of_nonneg (by omega)]
theorem range_get {s : Int} {l : Nat} (h : l < s.toNat) : (rangeI s)[l]? = some (l : Int) := by
  unfold rangeI
  rw [List.getElem?_map, List.getElem?_range h]
  rfl
theorem AR.append {H H' : Hp} : ∀ {bs ds : List Addr} {rs qs : List (List Int)}, AR H H' bs rs → AR H H' ds qs → AR H H' (bs ++ ds) (rs ++ qs)
  | [], _, [], _, _, t => t
  | _ :: _, _, _ :: _, _, h, t => ⟨h.1, h.2.1, AR.append h.2.2 t⟩
  | [], _, _ :: _, _, h, _ => h.elim
  | _ :: _, _, [], _, h, _ => h.elim
section
variable {P : Program} {w : World} {K : PySem.W.Frag} {mg : Str → Option Value} {base : Heap}
/-! ### _law_rows -/
theorem scRows : FnScope ["sizes_here", "found", "size", "longer", "row", "part"] ["sizes_here"] (defScope sRows) := ⟨rfl, rfl, rfl, by decide +kernel, rfl, by decide +kernel, by decide +kernel⟩
def spRows : Sp := fun vs H Q _ => ∃ (s : Addr) (ns : List Int), vs = [.ref s] ∧ SizesL H s ns ∧ prodI ns ≤ 1024 ∧
  ∀ H' r bs, Same H H' → H r = none → H' r = some (.lst (bs.map V.ref)) → AR H H' bs (prodS (ns.map rangeI)) → Q (.ref r) H'
theorem ok_rows {f : Addr} {fd : FuncData} {k : Nat} (F : Fun K "_law_rows" "_law_rows" sRows f fd) (mr : mg "range" = none) : FnOk P w K mg base CX0 (k + 1) f fd ["sizes_here"] spRows := by
  refine F.ok scRows (fun vs H Q E h => ?_) (fun cdv A outer s H vs Q E hr h => ?_)
  · obtain ⟨s, ns, rfl, _⟩ := h
    rfl
  · obtain ⟨s0, ns, rfl, hS, hp, q⟩ := h
    refine ⟨_, pss_cons (ps_set (i := 1) scRows.nd rfl (.inl rfl) (pe_lstN (pa_cons (pe_lstN pa_nil) pa_nil)))
      (pss_cons (ps_for PassesOwn.never rfl (pi_list (pv 0)) (pg_name (i := 2) scRows.nd rfl (.inl rfl))
        (pss_cons (ps_set (i := 3) scRows.nd rfl (.inl rfl) (pe_lstN pa_nil))
        (pss_cons (ps_for PassesOwn.never rfl (pi_list (pv 1)) (pg_name (i := 4) scRows.nd rfl (.inr rfl))
          (pss_one (ps_expr (pe_bm PySem.F.plainAttrs_list PySem.F.slot_list_extend PySem.F.type_list_extend mt_extend (pv 3) (pa_cons
            (pe_lc (own := [("part", 5)]) (g := gName 5) (tt := tYes) rfl scRows.nd (pi_range1 rfl mr (pa_cons (pv 2) pa_nil)) (blkOk_by (own := [("part", 5)]) (N := ["sizes_here", "found", "size", "longer", "row", "part"]) (sc := defScope sRows) (by decide +kernel))
              (fun _ _ _ _ _ => pg_name (i := 5) scRows.nd rfl (Or.inl rfl)) (fun _ _ _ _ _ => pts_nil) (fun _ _ _ _ _ => pe_op op_catN (pv 4) (pe_lstN (pa_cons (pv 5) pa_nil)))) pa_nil)))))
        (pss_one (ps_set (i := 1) scRows.nd rfl (.inl rfl) (pv 3))))))
      (pss_one (ps_ret (pv 1)))), ?_⟩
    have l24 := hS.2.1
    refine ⟨by show 0 ≤ sizeLine; decide, fun e0 H1 s1 n1 e1 => ⟨by show 1 ≤ sizeLine; decide, fun c0 H2 s2 n2 e2 => ?_⟩⟩
    have s12 := s1.trans s2
    refine ⟨_, rfl, s0, rfl, ⟨_, .inl (.inl (s12 _ _ hS.1))⟩, for_list (K := K) (a := s0) (xs := ns.map V.int) (fun i σ H' => ∃ (r : Addr) (bs : List Addr) (y2 y3 y4 y5 : Option V), σ = [some (.ref s0), some (.ref r), y2, y3, y4, y5] ∧
        Same H H' ∧ H r = none ∧ H' r = some (.lst (bs.map V.ref)) ∧ AR H H' bs (prodS ((ns.take i).map rangeI)))
      ⟨c0, [e0], none, none, none, none, rfl, s12, s1.free n2, e2, n1, s2 _ _ e1, trivial⟩ (fun i σ H' _ ⟨_, _, _, _, _, _, _, sm, _⟩ => .inl (.inl (sm _ _ hS.1))) ?_ ?_⟩
    · rintro i v σ H3 hi ⟨r, bs, y2, y3, y4, y5, rfl, sm, nr, er, hA⟩
      rw [List.getElem?_map] at hi
      obtain ⟨n, hn, rfl⟩ := Option.map_eq_some_iff.mp hi
      have bn := hS.2.2 n (List.mem_of_getElem? hn)
      have lt : i < ns.length := (List.getElem?_eq_some_iff.mp hn).1
      have nx : prodS ((ns.take (i + 1)).map rangeI) = stepR (prodS ((ns.take i).map rangeI)) (rangeI n) := by
        rw [take_snoc hn, List.map_append, List.map_singleton, prodS_snoc]
      have lR1 : ((prodS ((ns.take (i + 1)).map rangeI)).length : Int) ≤ 1024 := by
        rw [prodS_count (i + 1) (ns.take (i + 1)) (by rw [List.length_take]; omega) fun x hx => hS.2.2 x (List.mem_of_mem_take hx)]
        exact Int.le_trans (prod_pre hS.2.2 (i + 1)) hp
      rw [nx, stepR_len, Int.natCast_mul] at lR1
      have rowlen : ∀ x ∈ prodS ((ns.take i).map rangeI), x.length ≤ 24 := fun x hx => by
        rw [prodS_len hx, List.length_map, List.length_take]
        omega
      generalize hrows : prodS ((ns.take i).map rangeI) = rows at hA lR1 nx rowlen
      have lb := hA.len
      have rB : ∀ (m : Nat), m ≤ rows.length * (rangeI n).length → m < sizeLine := fun m hm => by
        have h2 : ((rows.length * (rangeI n).length : Nat) : Int) ≤ 1024 := by rw [Int.natCast_mul]; exact lR1
        have : sizeLine = 2 ^ 24 := rfl
        omega
      have rlen : (rangeI n).length = n.toNat := rangeI_len
      refine ⟨by show 0 ≤ sizeLine; decide, fun L H4 s4 n4 e4 => ?_⟩
      have s34 := sm.trans s4
      have nL0 : H L = none := sm.free n4
      refine ⟨_, rfl, r, rfl, ⟨_, .inl (.inl (s4 _ _ er))⟩, for_list (K := K) (a := r) (xs := bs.map V.ref) (fun j σ H' => ∃ (ds : List Addr) (z4 z5 : Option V), σ = [some (.ref s0), some (.ref r), some (.int n), some (.ref L), z4, z5] ∧ Same H3 H' ∧
          H' L = some (.lst (ds.map V.ref)) ∧ (∀ d ∈ ds, d ≠ L) ∧ AR H H' ds (stepR (rows.take j) (rangeI n)))
        ⟨[], _, _, rfl, s4, e4, fun _ h => (nomatch h), trivial⟩ (fun j σ H' _ ⟨_, _, _, _, sm', _⟩ => .inl (.inl (sm' _ _ er))) ?_ ?_⟩
      · rintro j x σ H5 hx ⟨ds, z4, z5, rfl, sm5, eL, nd, hD⟩
        rw [List.getElem?_map] at hx
        obtain ⟨bj, hbj, rfl⟩ := Option.map_eq_some_iff.mp hx
        have ltj : j < rows.length := by
          have := (List.getElem?_eq_some_iff.mp hbj).1
          omega
        have gr := List.getElem?_eq_getElem ltj
        obtain ⟨b', hb', nb', eb'⟩ := (AR.sm sm5 hA).get gr
        rw [hbj] at hb'
        cases hb'
        have rl24 := rowlen _ (List.getElem_mem ltj)
        refine ⟨_, rfl, .inl ⟨rfl, _, .inl (.inl eL)⟩, ?_⟩
        refine ⟨_, rfl, n, rfl, by omega, by omega, fun D nD => ?_⟩
        have s6 := same_upd (o := .lst []) nD
        have nDL : L ≠ D := ne_of_none eL nD
        refine lc_range (lo := 0) (n := n.toNat) (fun l H' => Same H5 H' ∧ ∃ nds : List Addr, H' D = some (.lst (nds.map V.ref)) ∧ (∀ d ∈ nds, d ≠ D ∧ d ≠ L) ∧ AR H H' nds (((rangeI n).take l).map fun v => rows[j] ++ [v])) ⟨s6, [], upd_same, fun _ h => (nomatch h), trivial⟩ ?_ ?_
        · rintro l H6 hl ⟨sm6, nds, eD, nn, hN⟩
          have gl := range_get hl
          have ln := hN.len
          rw [List.length_map, List.length_take] at ln
          refine ⟨rfl, ?_⟩
          refine ⟨_, rfl, _, rfl, by show 1 ≤ sizeLine; decide, fun pl H7 s7 n7 e7 => ⟨bj, pl, _, _, rfl, rfl, s7 _ _ (sm6 _ _ eb'), e7, ?_, fun nw H8 s8 n8 e8 => ?_⟩⟩
          · rw [List.length_map, List.length_singleton]
            exact Nat.le_of_lt (small1000 (by omega))
          · have s68 := s7.trans s8
            have nw6 := s7.free n8
            have nwD : nw ≠ D := (ne_of_none eD nw6).symm
            have nwL : nw ≠ L := (ne_of_none (sm6 _ _ eL) nw6).symm
            have nw0 : H nw = none := (sm.trans (sm5.trans sm6)).free nw6
            refine ⟨_, s68 _ _ eD, ?_, fun x o e => ?_, nds ++ [nw], ?_, ?_, ?_⟩
            · rw [List.length_map]
              exact small1000 (by omega)
            · rw [upd_ne (ne_of_none e nD)]
              exact s68 x o (sm6 x o e)
            · rw [upd_same, List.map_append]
              rfl
            · intro d hd
              rcases List.mem_append.mp hd with hd | hd
              · exact nn d hd
              · rw [List.mem_singleton.mp hd]
                exact ⟨nwD, nwL⟩
            · rw [take_snoc gl, List.map_append]
              refine AR.upd (fun d hd => ?_) ((AR.sm s68 hN).snoc nw0 ?_)
              · rcases List.mem_append.mp hd with hd | hd
                · exact (nn d hd).1
                · rw [List.mem_singleton.mp hd]
                  exact nwD
              · rw [e8, List.map_append]
                show some (HO.lst (rows[j].map V.int ++ [V.int (0 + (l : Int))])) = _
                rw [Int.zero_add]
                rfl
        · rintro H6 ⟨sm6, nds, eD, nn, hN⟩
          rw [← rlen, List.take_length] at hN
          have ln := hN.len
          rw [List.length_map] at ln
          have lds := hD.len
          rw [stepR_len, List.length_take] at lds
          refine ⟨L, D, _, _, rfl, rfl, sm6 _ _ eL, eD, ?_, ?_⟩
          · rw [List.length_map, List.length_map, lds, ln]
            have h1 : min j rows.length = j := by omega
            have h2 : (j + 1) * (rangeI n).length ≤ rows.length * (rangeI n).length := Nat.mul_le_mul_right _ (by omega)
            rw [Nat.succ_mul] at h2
            rw [h1]
            exact Nat.le_of_lt (rB _ h2)
          · refine ⟨ds ++ nds, _, _, rfl, fun x o e => ?_, by rw [upd_same, List.map_append], ?_, ?_⟩
            · rw [upd_ne (ne_of_none e n4)]
              exact sm6 x o (sm5 x o e)
            · intro d hd
              rcases List.mem_append.mp hd with hd | hd
              · exact nd d hd
              · exact (nn d hd).2
            · rw [stepR_snoc gr]
              refine AR.upd (fun d hd => ?_) ((AR.sm sm6 hD).append hN)
              rcases List.mem_append.mp hd with hd | hd
              · exact nd d hd
              · exact (nn d hd).2
      · rintro σ H5 ⟨ds, z4, z5, rfl, sm5, eL, nd, hD⟩
        rw [List.length_map, lb, List.take_length] at hD
        refine ⟨_, rfl, L, ds, _, _, _, _, rfl, sm.trans sm5, nL0, eL, ?_⟩
        rw [nx]
        exact hD
    · rintro σ H3 ⟨r, bs, y2, y3, y4, y5, rfl, sm, nr, er, hA⟩
      rw [List.length_map, List.take_length] at hA
      exact ⟨_, rfl, q H3 r bs sm nr er hA⟩
end
end Lk
namespace Lk
open PySem PySem.Spec PyProof.Rows L2
abbrev sRight : Stmt := top 34
theorem Ok.intB {n w : Nat} {i : Int} (h : i.natAbs < 2 ^ 64) (hw : 64 ≤ w) : Ok n w (.int i) := by
  have l : i.natAbs.log2 < 64 := by
    by_cases z : i.natAbs = 0
    · rw [z]
      decide
    · exact (Nat.log2_lt z).mpr h
  have h20 : i.natAbs < 10 ^ 20 := Nat.lt_trans h (by decide)
  have e : (PyData.shown (.int i)).length ≤ 64 := by
    have e := int_text_length_le10 (k := 20) (by decide) h20
    show (Str.ofString (toString i)).length ≤ 64
    rw [PySem.ofString_length]
    omega
  refine ⟨decide_eq_true (by omega), rfl, Nat.zero_le _, rfl, decide_eq_true e, ?_⟩
  show (if i == 0 then 0 else i.natAbs.log2 + 1) ≤ w
  split
  · exact Nat.zero_le _
  · omega
theorem Ok.d64 {n w : Nat} {d : PyData} (ok : Ok n w d) (hn : n ≤ 60 := by decide) : d.depth + 1 ≤ 64 := by
  have := ok.dp
  omega
abbrev ii (a : Int) : PyData := .list [.int a, .int a]
theorem dp_ii {K : PySem.W.Frag} {H : Hp} {p : Addr} {a : Int} (e : H p = some (.lst [.int a, .int a])) : Dp K H (.ref p) (ii a) := .lst (.inl (.inl e)) (.cons (.int _) (.cons (.int _) .nil))
theorem prod_top : ∀ {ns : List Int}, ns.length ≤ 24 → (∀ i ∈ ns, 2 ≤ i ∧ i ≤ 6) → prodI ns ≤ 6 ^ 24 := fun {ns} hl hn => by
  have step : ∀ ns : List Int, (∀ i ∈ ns, 2 ≤ i ∧ i ≤ 6) → prodI ns ≤ 6 ^ ns.length := by
    intro ns
    induction ns with
    | nil => intro _; decide
    | cons n ns ih =>
      intro h
      have b := h n (List.mem_cons_self ..)
      have ih := ih fun i hi => h i (List.mem_cons_of_mem _ hi)
      have p := prodI_pos (ns := ns) fun i hi => by have := h i (List.mem_cons_of_mem _ hi); omega
      show n * prodI ns ≤ 6 ^ (ns.length + 1)
      rw [Int.pow_succ, Int.mul_comm (6 ^ ns.length) 6]
      calc n * prodI ns ≤ 6 * prodI ns := Int.mul_le_mul_of_nonneg_right b.2 (by omega)
        _ ≤ 6 * 6 ^ ns.length := Int.mul_le_mul_of_nonneg_left ih (by decide)
  have c : (6 : Int) ^ ns.length ≤ 6 ^ 24 := by
    have : (6 : Nat) ^ ns.length ≤ 6 ^ 24 := Nat.pow_le_pow_right (by decide) hl
    exact_mod_cast this
  exact Int.le_trans (step ns hn) c
theorem ok_ii' {z : Int} (h0 : 0 ≤ z) (h1 : z < 6 ^ 24) : Ok 1 200 (ii z) := by
  have d : (6 : Int) ^ 24 < 2 ^ 64 := by decide
  have o : Ok 0 64 (.int z) := .intB (by omega) (by decide)
  exact (Ok.list (n := 0) (w := 64) (L := 2) (.cons o (.cons o .nil)) (by show 2 ≤ 2; decide)).mono (by decide) (by decide)
theorem row_abs {ns ws : List Int} (h : RowI ns ws) (hn : ∀ i ∈ ns, 2 ≤ i ∧ i ≤ 6) : ∀ v ∈ ws, v.natAbs < 2 ^ 30 := fun v hv => by
  obtain ⟨i, hi⟩ := List.mem_iff_getElem?.mp hv
  have lt : i < ns.length := by
    have := (List.getElem?_eq_some_iff.mp hi).1
    rw [h.len] at this
    exact this
  obtain ⟨u, e, b1, b2⟩ := RowI.get h (List.getElem?_eq_getElem lt)
  rw [hi] at e
  cases e
  have := hn _ (List.getElem_mem lt)
  omega
theorem ok_ints' {ns : List Int} (hl : ns.length ≤ 24) (hn : ∀ v ∈ ns, v.natAbs < 2 ^ 30) : Ok 1 1000 (.list (ns.map PyData.int)) :=
  (Ok.list (n := 0) (w := 30) (L := 24) (okAll.ints hn (by decide)) (by rw [List.length_map]; exact hl)).mono (by decide) (by decide)
theorem filter_snoc' {α : Type} {l : List α} {i : Nat} {x : α} (p : α → Bool) (h : l[i]? = some x) : (l.take (i + 1)).filter p = (l.take i).filter p ++ (if p x = true then [x] else []) := by
  rw [take_snoc h, List.filter_append]
  congr 1
  cases e : p x <;> simp [e]
theorem Ok.int3 {i : Int} (h0 : 0 ≤ i) (h1 : i < 8) : Ok 0 3 (.int i) := by
  have e : i = 0 ∨ i = 1 ∨ i = 2 ∨ i = 3 ∨ i = 4 ∨ i = 5 ∨ i = 6 ∨ i = 7 := by omega
  rcases e with rfl | rfl | rfl | rfl | rfl | rfl | rfl | rfl <;> exact ⟨by decide +kernel, rfl, Nat.zero_le _, rfl, by decide +kernel, by decide +kernel⟩
theorem prodS_all (p : Int → Prop) : ∀ (n : Nat) (cs : List (List Int)), cs.length = n → (∀ c ∈ cs, ∀ v ∈ c, p v) → ∀ r ∈ prodS cs, ∀ v ∈ r, p v := by
  intro n
  induction n with
  | zero =>
    intro cs e _ r hr
    obtain rfl := List.length_eq_zero_iff.mp e
    rw [List.mem_singleton.mp (show r ∈ [([] : List Int)] from hr)]
    exact fun v hv => nomatch hv
  | succ n ih =>
    intro cs e hc r hr
    rcases List.eq_nil_or_concat cs with rfl | ⟨cs', c, rfl⟩
    · simp at e
    rw [List.concat_eq_append] at *
    rw [prodS_snoc] at hr
    obtain ⟨r', h1, h2⟩ := List.mem_flatMap.mp hr
    obtain ⟨u, hu, rfl⟩ := List.mem_map.mp h2
    intro v hv
    rcases List.mem_append.mp hv with hv | hv
    · exact ih cs' (by simpa using e) (fun c hc' => hc c (List.mem_append_left _ hc')) r' h1 v hv
    · rw [List.mem_singleton.mp hv]
      exact hc c (by simp) u hu
theorem range_mem {s v : Int} (h : v ∈ rangeI s) : 0 ≤ v ∧ v < s := by
  unfold rangeI at h
  obtain ⟨k, hk, rfl⟩ := List.mem_map.mp h
  have := List.mem_range.mp hk
  omega
theorem choose_mem : ∀ {ns : List Int} {hs : List (Option Int)}, HalfI ns hs → (∀ i ∈ ns, 2 ≤ i ∧ i ≤ 6) → ∀ c ∈ List.zipWith choose ns hs, ∀ v ∈ c, 0 ≤ v ∧ v < 8
  | [], [], _, _, _, hc => nomatch hc
  | n :: ns, o :: hs, h, hn, c, hc => fun v hv => by
    have b := hn n (List.mem_cons_self ..)
    rcases List.mem_cons.mp hc with rfl | hc
    · cases o with
      | none =>
        have := range_mem hv
        omega
      | some u =>
        have e : v = u := List.mem_singleton.mp hv
        have := h.1 u rfl
        omega
    · exact choose_mem h.2 (fun i hi => hn i (List.mem_cons_of_mem _ hi)) c hc v hv
  | [], _ :: _, h, _, _, _ => h.elim
  | _ :: _, [], h, _, _, _ => h.elim
theorem ok_rowsD {ns : List Int} {hs : List (Option Int)} (hH : HalfI ns hs) (hl : ns.length ≤ 24) (hn : ∀ i ∈ ns, 2 ≤ i ∧ i ≤ 6) (hp : prodI ns ≤ 1024) : Ok 2 99328 (.list ((compS ns hs).map rowD)) := by
  have ll := hH.len
  refine Ok.list (n := 1) (w := 96) (L := 1024) (fun d hd => ?_) ?_
  · obtain ⟨r, hr, rfl⟩ := List.mem_map.mp hd
    have lr := prodS_len hr
    rw [List.length_zipWith] at lr
    refine Ok.list (n := 0) (w := 3) (L := 24) (fun x hx => ?_) (by rw [List.length_map]; omega)
    obtain ⟨v, hv, rfl⟩ := List.mem_map.mp hx
    have b := prodS_all (fun v => 0 ≤ v ∧ v < 8) _ _ rfl (choose_mem hH hn) r hr v hv
    exact .int3 b.1 b.2
  · rw [List.length_map]
    have := (compS_len ns.length ns hs rfl ll hn).1
    omega
theorem ok_half' {ns : List Int} {hs : List (Option Int)} (hH : HalfI ns hs) (hl : ns.length ≤ 24) (hn : ∀ i ∈ ns, 2 ≤ i ∧ i ≤ 6) : Ok 1 1000 (.list (hs.map oD)) := by
  have ll := hH.len
  refine (Ok.list (n := 0) (w := 30) (L := 24) (fun d hd => ?_) (by rw [List.length_map]; omega)).mono (by decide) (by decide)
  obtain ⟨o, ho, rfl⟩ := List.mem_map.mp hd
  obtain ⟨i, hi⟩ := List.mem_iff_getElem?.mp ho
  have lt : i < ns.length := by
    have := (List.getElem?_eq_some_iff.mp hi).1
    omega
  obtain ⟨o', e, b⟩ := HalfI.get hH (List.getElem?_eq_getElem lt)
  rw [hi] at e
  cases e
  cases o with
  | none => exact .none
  | some v =>
    have := b v rfl
    have := hn _ (List.getElem_mem lt)
    exact .int (by omega) (by decide)
def badAt (hs : List (Option Int)) (r : List Int) (k : Nat) : Bool := match hs.getD k none with
  | none => false
  | some u => decide (u ≠ r.getD k 0)
def badK (n : Nat) (hs : List (Option Int)) (r : List Int) : List Int := ((List.range n).filter (badAt hs r)).map fun (k : Nat) => (k : Int)
theorem badK_succ {n : Nat} {hs : List (Option Int)} {r : List Int} : badK (n + 1) hs r = badK n hs r ++ (if badAt hs r n = true then [(n : Int)] else []) := by
  unfold badK
  rw [List.range_succ, List.filter_append, List.map_append]
  congr 1
  by_cases e : badAt hs r n = true
  · rw [if_pos e, List.filter_cons, if_pos e]
    rfl
  · rw [if_neg e, List.filter_cons, if_neg e]
    rfl
theorem badK_len (n : Nat) (hs : List (Option Int)) (r : List Int) : (badK n hs r).length ≤ n := by
  unfold badK
  rw [List.length_map]
  exact Nat.le_trans (List.length_filter_le _ _) (by rw [List.length_range]; exact Nat.le_refl _)
theorem badK_mem {n : Nat} {hs : List (Option Int)} {r : List Int} : ∀ v ∈ badK n hs r, v.natAbs < n ∨ v.natAbs < n := fun v hv => by
  unfold badK at hv
  obtain ⟨k, hk, rfl⟩ := List.mem_map.mp hv
  have := List.mem_range.mp (List.mem_filter.mp hk).1
  exact .inl (by omega)
theorem badK_ok : ∀ {hs : List (Option Int)} {r : List Int}, r.length = hs.length → (badK hs.length hs r).isEmpty = okRow hs r
  | [], [], _ => rfl
  | o :: hs, v :: r, e => by
    have ih := badK_ok (hs := hs) (r := r) (by simpa using e)
    unfold badK at ih ⊢
    rw [List.length_cons, List.range_succ_eq_map, List.filter_cons]
    have hsh : ((List.range hs.length).map Nat.succ).filter (badAt (o :: hs) (v :: r)) = ((List.range hs.length).filter (badAt hs r)).map Nat.succ := by
      rw [List.filter_map]
      rfl
    rw [hsh]
    show _ = (okv o v && okRow hs r)
    have b0 : badAt (o :: hs) (v :: r) 0 = !okv o v := by
      cases o with
      | none => rfl
      | some u =>
        show decide (u ≠ v) = !decide (u = v)
        by_cases q : u = v
        · rw [decide_eq_true q, decide_eq_false (by simp [q])]
          rfl
        · rw [decide_eq_false q, decide_eq_true q]
          rfl
    rw [b0]
    cases hv : okv o v with
    | true =>
      rw [if_neg (by simp), Bool.true_and, ← ih]
      cases (List.range hs.length).filter (badAt hs r) <;> rfl
    | false =>
      rw [if_pos (by simp)]
      rfl
  | [], _ :: _, e => by simp at e
  | _ :: _, [], e => by simp at e
section
variable {P : Program} {w : World} {K : PySem.W.Frag} {mg : Str → Option Value} {base : Heap}
structure Fns (P : Program) (w : World) (K : PySem.W.Frag) (mg : Str → Option Value) (base : Heap) (k : Nat) : Prop where
  take : ∃ f fd, FnOk P w K mg base CX0 k f fd ["deck", "wide"] spTake ∧ Binds K fd ["deck", "wide"] [] ∧ mg "_law_take" = some (.ref f) ∧ PySem.W.keepIn K (.ref f) = true
  deck : ∃ f fd, FnOk P w K mg base CX0 k f fd ["script"] (spDeck K) ∧ Binds K fd ["script"] [] ∧ mg "_law_deck" = some (.ref f) ∧ PySem.W.keepIn K (.ref f) = true
  row : ∃ f fd, FnOk P w K mg base CX0 k f fd ["deck", "sizes_here"] spRow ∧ Binds K fd ["deck", "sizes_here"] [] ∧ mg "_law_row" = some (.ref f) ∧ PySem.W.keepIn K (.ref f) = true
  sizes : ∃ f fd, FnOk P w K mg base CX0 k f fd ["deck", "many", "most"] spSizes ∧ Binds K fd ["deck", "many", "most"] [] ∧ mg "_law_sizes" = some (.ref f) ∧ PySem.W.keepIn K (.ref f) = true
  half : ∃ f fd, FnOk P w K mg base CX0 k f fd ["deck", "sizes_here"] spHalf ∧ Binds K fd ["deck", "sizes_here"] [] ∧ mg "_law_half" = some (.ref f) ∧ PySem.W.keepIn K (.ref f) = true
  rows : ∃ f fd, FnOk P w K mg base CX0 k f fd ["sizes_here"] spRows ∧ Binds K fd ["sizes_here"] [] ∧ mg "_law_rows" = some (.ref f) ∧ PySem.W.keepIn K (.ref f) = true
  comp : ∃ f fd, FnOk P w K mg base CX0 k f fd ["sizes", "half"] (spListC K) ∧ Binds K fd ["sizes", "half"] [] ∧ KBinds K fd ["sizes", "half"] ["half", "sizes"] g21 g21 ∧ mg "completing" = some (.ref f) ∧ PySem.W.keepIn K (.ref f) = true
  diff : ∃ f fd, FnOk P w K mg base CX0 k f fd ["sizes", "case", "second_case"] (spDiffering K) ∧ Binds K fd ["sizes", "case", "second_case"] [] ∧ KBinds K fd ["sizes", "case", "second_case"] ["second_case", "case", "sizes"] g321 g321 ∧ mg "differing" = some (.ref f) ∧ PySem.W.keepIn K (.ref f) = true
/-! ### _law_right -/
theorem scRight : FnScope ["deck", "sizes_here", "half_here", "kept", "same", "due", "row", "told", "k"] ["deck", "sizes_here"] (defScope sRight) := ⟨rfl, rfl, rfl, by decide +kernel, rfl, by decide +kernel, by decide +kernel⟩
def spRight : Sp := fun vs H Q _ => ∃ (p c s : Addr) (ns : List Int), vs = [.ref p, .ref s] ∧ DeckAt H p c ∧ SizesL H s ns ∧ s ≠ p ∧ s ≠ c ∧ prodI ns ≤ 1024 ∧ ∀ H', DeckAt H' p c → Q (.bl true) H'
theorem ok_right {f : Addr} {fd : FuncData} {k : Nat} (F : Fun K "_law_right" "_law_right" sRight f fd) (G : Fns P w K mg base k) (mp : mg "repr" = none) (ml : mg "list" = none) (mr : mg "range" = none) (mn : mg "len" = none) : FnG P w K mg base CX0 (k + 1) f fd ["deck", "sizes_here"] spRight := by
  obtain ⟨fH, fdH, GH, bH, gH, kH⟩ := G.half
  obtain ⟨fR, fdR, GR, bR, gR, kR⟩ := G.rows
  obtain ⟨fC, fdC, GC, bC, kbC, gC, kC⟩ := G.comp
  refine Fun_okG F scRight (fun vs H Q E h => ?_) (fun cdv A outer s H vs Q E hg hr h => ?_)
  · obtain ⟨p, c, s, ns, rfl, _⟩ := h
    rfl
  · obtain ⟨p, c, s0, ns, rfl, hD, hS, nsp, nsc, hp, q⟩ := h
    refine ⟨_, pss_cons (ps_asg (pe_tupN (pa_cons (pe_call GH hr (by rfl) gH kH bH .nil pass0 (pa_cons (pv 0) (pa_cons (pv 1) pa_nil)))
        (pa_cons (pe_callTy call_listN (by rfl) ml (by decide +kernel) (pa_cons (pv 1) pa_nil)) pa_nil))) (pg_tup (by rfl) (pgs_cons (pg_name (i := 2) scRight.nd rfl (.inr rfl)) (pgs_cons (pg_name (i := 3) scRight.nd rfl (.inl rfl)) pgs_nil))))
      (pss_cons (ps_set (i := 4) scRight.nd rfl (.inl rfl) (pe_callTy call_listN (by rfl) ml (by decide +kernel) (pa_cons (pv 2) pa_nil)))
      (pss_cons (ps_set (i := 5) scRight.nd rfl (.inl rfl) (pe_lstN pa_nil))
      (pss_cons (ps_for PassesOwn.never rfl (pi_list (pe_call GR hr (by rfl) gR kR bR .nil pass0 (pa_cons (pv 1) pa_nil))) (pg_name (i := 6) scRight.nd rfl (.inr rfl))
        (pss_one (ps_if (pt_cmpR (op_eqD hr.units) (pe_lc (own := [("k", 8)]) (g := gName 8) rfl scRight.nd (pi_range1 rfl mr (pa_cons (pe_callB call_len_seq (by rfl) mn PySem.boot_len (pa_cons (pv 6) pa_nil)) pa_nil))
              (blkOk_by (own := [("k", 8)]) (N := ["deck", "sizes_here", "half_here", "kept", "same", "due", "row", "told", "k"]) (sc := defScope sRight) (by decide +kernel)) (fun _ _ _ _ _ => pg_name (i := 8) scRight.nd rfl (Or.inl rfl))
              (fun _ _ _ _ _ => pts_one (PW.pt (pw_and (pt_cmpR op_notN (pe_ix (r := rIxL K) ix_list (pv 2) (pv 8) (fun _ _ => rfl)) pe_non (nomark _))
                (pw_and1 (pt_cmpR op_ne (pe_ix (r := rIxL K) ix_list (pv 2) (pv 8) (fun _ _ => rfl)) (pe_ix (r := rIxL K) ix_list (pv 6) (pv 8) (fun _ _ => rfl)) (nomark _)))))) (fun _ _ _ _ _ => pv 8))
            (pe_lstN pa_nil) (nomark _))
          (pss_one (ps_expr (pe_bm PySem.F.plainAttrs_list PySem.F.slot_list_append PySem.F.type_list_append mt_append (pv 5) (pa_cons (pv 6) pa_nil)))) pss_nil)))
      (pss_cons (ps_set (i := 7) scRight.nd rfl (.inl rfl) (pe_call GC hr (by rfl) gC kC bC .nil pass0 (pa_cons (pv 1) (pa_cons (pv 2) pa_nil))))
      (pss_cons (ps_if (pt_cmpR op_ne (pe_callB (call_repr hg hr.units) (by rfl) mp (by decide +kernel) (pa_cons (pv 7) pa_nil)) (pe_callB (call_repr hg hr.units) (by rfl) mp (by decide +kernel) (pa_cons (pv 5) pa_nil)) (nomark _)) (pss_one (ps_ret pe_bl)) pss_nil)
      (pss_cons (ps_expr (pe_bm PySem.F.plainAttrs_list PySem.F.slot_list_append PySem.F.type_list_append mt_append (pe_ix ix_list (pv 7) pe_int (fun _ _ => rfl)) (pa_cons pe_int pa_nil)))
      (pss_cons (ps_expr (pe_bm PySem.F.plainAttrs_list PySem.F.slot_list_append PySem.F.type_list_append mt_append (pv 7) (pa_cons pe_non pa_nil)))
      (pss_one (ps_ret (pe_and (pe_cmpR (op_eqD hr.units) (pe_callK0 GC hr (by rfl) gC kC kbC pass0 (pk_cons (pv 2) (pk_cons (pv 1) pk_nil))) (pv 5) (nomark _))
        (pe_and (pe_cmpR (op_eqD hr.units) (pv 2) (pv 4) (nomark _)) (pe_one (pe_cmpR (op_eqD hr.units) (pv 1) (pv 3) (nomark _)))))))))))))), ?_⟩
    have l24 := hS.2.1
    have hn := hS.2.2
    refine ⟨_, rfl, _, rfl, p, c, s0, ns, rfl, hD, hS, nsp, nsc, fun H1 hh hs k1 D1 f1 nh eh hH => ?_⟩
    have hS1 : SizesL H1 s0 ns := ⟨k1 _ _ nsp nsc hS.1, hS.2⟩
    have hl := hH.len
    refine ⟨_, rfl, s0, _, rfl, .inl (.inl (.inl hS1.1)), fun kp H2 s2 n2 e2 => ⟨by show 2 ≤ sizeLine; decide, fun t H3 s3 n3 e3 => ⟨t, _, rfl, .inl (.inl e3), rfl, _, _, rfl, _, _, rfl, rfl, ?_⟩⟩⟩
    have s13 := s2.trans s3
    refine ⟨_, rfl, hh, _, rfl, .inl (.inl (.inl (s13 _ _ eh))), fun sa H4 s4 n4 e4 => ⟨by show 0 ≤ sizeLine; decide, fun du H5 s5 n5 e5 => ?_⟩⟩
    have s14 := s13.trans s4
    have hS5 : SizesL H5 s0 ns := ⟨s5 _ _ (s14 _ _ hS1.1), hS.2⟩
    refine ⟨_, rfl, s0, ns, rfl, hS5, hp, fun H6 rr bs s6 n6 e6 hA => ?_⟩
    have nrd : rr ≠ du := (ne_of_none e5 n6).symm
    have nbd : ∀ b ∈ bs, b ≠ du := fun b hb => (ne_of_none e5 (hA.mem hb).1).symm
    have rlen : ∀ x ∈ prodS (ns.map rangeI), x.length = hs.length := fun x hx => by rw [prodS_len hx, List.length_map, hl]
    have cnt : ((prodS (ns.map rangeI)).length : Int) ≤ 1024 := by
      rw [prodS_count ns.length ns rfl hn]
      exact hp
    have fin : (prodS (ns.map rangeI)).filter (okRow hs) = compS ns hs := prodS_filter ns.length ns hs rfl hH
    generalize hrows : prodS (ns.map rangeI) = rows at hA rlen cnt fin
    have lb := hA.len
    refine ⟨rr, rfl, ⟨_, .inl (.inl e6)⟩, for_list (K := K) (a := rr) (xs := bs.map V.ref) (fun j σ H' => ∃ (ds : List Addr) (y6 : Option V), σ = [some (.ref p), some (.ref s0), some (.ref hh), some (.ref kp), some (.ref sa), some (.ref du), y6, none, none] ∧
        Same H4 H' ∧ H' rr = some (.lst (bs.map V.ref)) ∧ AR H5 H' bs rows ∧ H' du = some (.lst (ds.map V.ref)) ∧ (∀ d ∈ ds, d ≠ du) ∧ AR H5 H' ds ((rows.take j).filter (okRow hs)))
      ⟨[], none, rfl, s5.trans s6, e6, hA, s6 _ _ e5, fun _ h => (nomatch h), trivial⟩ (fun j σ H' _ ⟨_, _, _, _, er, _⟩ => .inl (.inl er)) ?_ ?_⟩
    · rintro j x σ H7 hx ⟨ds, y6, rfl, sm, er, hB, ed, nd, hDs⟩
      rw [List.getElem?_map] at hx
      obtain ⟨bj, hbj, rfl⟩ := Option.map_eq_some_iff.mp hx
      have ltj : j < rows.length := by
        have := (List.getElem?_eq_some_iff.mp hbj).1
        omega
      have gr := List.getElem?_eq_getElem ltj
      obtain ⟨b', hb', nb', eb'⟩ := hB.get gr
      rw [hbj] at hb'
      cases hb'
      have rl := rlen _ (List.getElem_mem ltj)
      have hh7 : SqL K H7 hh (hs.map oV) := .inl (.inl (sm _ _ (s14 _ _ eh)))
      refine ⟨_, rfl, bj, _, rfl, .inl (.inl (.inl eb')), (hs.length : Int), by rw [List.length_map, rl], by omega, by omega, fun D nD => ?_⟩
      have s8 := same_upd (o := .lst []) nD
      refine lc_range (lo := 0) (n := ((hs.length : Nat) : Int).toNat) (fun l H' => Same H7 H' ∧ H' D = some (.lst ((badK l hs rows[j]).map V.int))) ⟨s8, upd_same⟩ ?_ ?_
      · rintro l H8 hlt ⟨sm8, eD⟩
        have ltl : l < ns.length := by omega
        obtain ⟨o, ho, _⟩ := HalfI.get hH (List.getElem?_eq_getElem ltl)
        have ltr : l < rows[j].length := by omega
        have gv : (rows[j].map V.int)[l]? = some (.int rows[j][l]) := by
          rw [List.getElem?_map, List.getElem?_eq_getElem ltr]
          rfl
        have gh : (hs.map oV)[l]? = some (oV o) := by
          rw [List.getElem?_map, ho]
          rfl
        have bA : badAt hs rows[j] l = match o with | none => false | some u => decide (u ≠ rows[j][l]) := by
          have g1 : hs.getD l none = o := by
            rw [List.getD_eq_getElem?_getD, ho]
            rfl
          have g2 := getD_of (List.getElem?_eq_getElem ltr)
          unfold badAt
          rw [g1, g2]
          cases o <;> rfl
        have no : badAt hs rows[j] l = false → Same H7 H8 ∧ H8 D = some (.lst ((badK (l + 1) hs rows[j]).map V.int)) := fun e => by
          rw [badK_succ, e, if_neg Bool.false_ne_true, List.append_nil]
          exact ⟨sm8, eD⟩
        refine ⟨rfl, ?_⟩
        refine ⟨_, rfl, _, rfl, hh, _, _, _, rfl, rfl, sm8.seq hh7, at_of (Int.zero_add _) gh, rfl, _, rfl, ?_⟩
        cases o with
        | none => exact iteF (no bA)
        | some u =>
          refine iteT ⟨_, rfl, _, rfl, hh, _, _, _, rfl, rfl, sm8.seq hh7, at_of (Int.zero_add _) gh, _, rfl, _, rfl, bj, _, _, _, rfl, rfl, .inl (.inl (sm8 _ _ eb')), at_of (Int.zero_add _) gv, rfl, _, rfl, ?_⟩
          by_cases e : u = rows[j][l]
          · refine iteNS (by rw [← e]; rfl) (no ?_)
            rw [bA]
            exact decide_eq_false (by simp [e])
          · rw [show decide (oV (some u) = V.int rows[j][l]) = false from decide_eq_false (fun z => e (V.int.inj z))]
            refine iteT ⟨_, rfl, _, eD, ?_, fun x o' e' => ?_, ?_⟩
            · rw [List.length_map]
              have := badK_len l hs rows[j]
              exact small1000 (by omega)
            · rw [upd_ne (ne_of_none e' nD)]
              exact sm8 x o' e'
            · rw [upd_same, badK_succ, bA, if_pos (decide_eq_true e), List.map_append]
              show some (HO.lst ((badK l hs rows[j]).map V.int ++ [V.int (0 + (l : Int))])) = _
              rw [Int.zero_add]
              rfl
      · rintro H8 ⟨sm8, eD⟩
        rw [Int.toNat_natCast] at eD
        refine ⟨by show 0 ≤ sizeLine; decide, fun e0 H9 s9 n9 e9 => ?_⟩
        have bl := badK_len hs.length hs rows[j]
        have okb : Ok 1 1000 (.list ((badK hs.length hs rows[j]).map PyData.int)) :=
          (Ok.list (n := 0) (w := 30) (L := 24) (okAll.ints (fun v hv => by have := badK_mem v hv; omega) (by decide)) (by rw [List.length_map]; omega)).mono (by decide) (by decide)
        refine ⟨.list ((badK hs.length hs rows[j]).map PyData.int), .list [], .lst (.inl (.inl (s9 _ _ eD))) (DpAll.ints _), .lst (.inl (.inl e9)) .nil, okb.shaped (by decide), by decide +kernel, _, rfl, ?_⟩
        have s79 := sm8.trans s9
        have ev : PyData.eqv (.list ((badK hs.length hs rows[j]).map PyData.int)) (.list []) = okRow hs rows[j] := by
          rw [eqv_nil, ← badK_ok rl]
          cases badK hs.length hs rows[j] <;> rfl
        rw [ev]
        have hB9 := AR.sm s79 hB
        have hD9 := AR.sm s79 hDs
        have ed9 := s79 _ _ ed
        have lds := hDs.len
        cases hok : okRow hs rows[j] with
        | false =>
          refine iteF ⟨ds, _, rfl, sm.trans s79, s79 _ _ er, hB9, ed9, nd, ?_⟩
          rw [filter_snoc' _ gr, hok, if_neg Bool.false_ne_true, List.append_nil]
          exact hD9
        | true =>
          refine iteT ⟨_, rfl, .inl ⟨rfl, _, .inl (.inl ed9)⟩, _, rfl, du, _, _, rfl, rfl, ed9, ?_, ?_⟩
          · rw [List.length_map, lds]
            have h1 := List.length_filter_le (okRow hs) (rows.take j)
            rw [List.length_take] at h1
            have : sizeLine = 2 ^ 24 := rfl
            omega
          · have nbj := nbd bj (List.mem_of_getElem? hbj)
            have nds : ∀ d ∈ ds ++ [bj], d ≠ du := fun d hd => by
              rcases List.mem_append.mp hd with hd | hd
              · exact nd d hd
              · rw [List.mem_singleton.mp hd]
                exact nbj
            refine ⟨ds ++ [bj], _, rfl, fun x o e => ?_, by rw [upd_ne nrd]; exact s79 _ _ er, AR.upd nbd hB9, by rw [upd_same, List.map_append]; rfl, nds, ?_⟩
            · rw [upd_ne (ne_of_none e n5)]
              exact s79 x o (sm x o e)
            · rw [filter_snoc' _ gr, hok, if_pos rfl]
              exact AR.upd nds (hD9.snoc nb' (s79 _ _ eb'))
    · rintro σ H10 ⟨ds, y6, rfl, sm, er, hB, ed, nd, hDs⟩
      rw [List.length_map, lb, List.take_length, fin] at hDs
      have hS10 : SizesL H10 s0 ns := ⟨sm _ _ (s14 _ _ hS1.1), hS.2⟩
      have hh10 : H10 hh = some (.lst (hs.map oV)) := sm _ _ (s14 _ _ eh)
      have okC := ok_rowsD hH l24 hn hp
      have okh := ok_half' hH l24 hn
      have oks := ok_ints' l24 (fun v hv => by have := hn v hv; omega)
      refine ⟨_, rfl, _, rfl, s0, hh, ns, hs, rfl, hS10.at, ⟨.inl (.inl hh10), hH⟩, hp, fun H11 tr tb s11 n11 e11 hT => ?_⟩
      refine ⟨_, rfl, _, _, rfl, .lst (.inl (.inl e11)) hT.dp, okC.sh, okC.nd, okC.d64, okC.fits (by decide), _, rfl, _, _, rfl, .lst (.inl (.inl (s11 _ _ ed))) (AR.sm s11 hDs).dp, okC.sh, okC.nd, okC.d64, okC.fits (by decide), rfl, _, rfl, iteNS rfl ?_⟩
      have lC := compS_len ns.length ns hs rfl hl hn
      have lT := hT.len
      obtain ⟨b0, tb', rfl⟩ : ∃ b0 tb', tb = b0 :: tb' := by
        cases tb with
        | nil => rw [List.length_nil] at lT; omega
        | cons b0 tb' => exact ⟨b0, tb', rfl⟩
      obtain ⟨r0, C', hC⟩ : ∃ r0 C', compS ns hs = r0 :: C' := by
        cases hc : compS ns hs with
        | nil => rw [hc] at lC; exact absurd lC.2 (by decide)
        | cons r0 C' => exact ⟨r0, C', rfl⟩
      have hT0 : H10 b0 = none ∧ H11 b0 = some (.lst (r0.map V.int)) := by
        rw [hC] at hT
        exact ⟨hT.1, hT.2.1⟩
      have r0l : r0.length ≤ 24 := by
        have m : r0 ∈ compS ns hs := by rw [hC]; exact List.mem_cons_self ..
        have := prodS_len m
        rw [List.length_zipWith] at this
        omega
      refine ⟨_, rfl, tr, _, 0, .ref b0, rfl, rfl, .inl (.inl e11), atI_nat (j := 0) rfl, .inl ⟨rfl, _, .inl (.inl hT0.2)⟩, b0, _, _, rfl, rfl, hT0.2, by rw [List.length_map]; exact small1000 (by omega), ?_⟩
      have ntb : tr ≠ b0 := ne_of e11 hT0.2 (fun z => by
        have z2 := HO.lst.inj z
        cases r0 with
        | nil => cases z2
        | cons v r0 => cases (List.cons.inj z2).1)
      have e12 : upd H11 b0 (.lst (r0.map V.int ++ [V.int 9])) tr = some (.lst ((b0 :: tb').map V.ref)) := by
        rw [upd_ne ntb]
        exact e11
      refine ⟨_, rfl, .inl ⟨rfl, _, .inl (.inl e12)⟩, tr, _, _, rfl, rfl, e12, ?_, ?_⟩
      · rw [List.length_map, lT]
        have : sizeLine = 2 ^ 24 := rfl
        omega
      have s13' : Same H10 (upd (upd H11 b0 (.lst (r0.map V.int ++ [V.int 9]))) tr (.lst ((b0 :: tb').map V.ref ++ [V.non]))) := fun x o e => by
        rw [upd_ne (ne_of_none e n11), upd_ne (ne_of_none e hT0.1)]
        exact s11 x o e
      refine ⟨_, rfl, _, rfl, s0, hh, ns, hs, rfl, SizesAt.sm s13' hS10.at, ⟨.inl (.inl (s13' _ _ hh10)), hH⟩, hp, fun H14 t2 tb2 s15 n15 e15 hT2 => ?_⟩
      have sE := s13'.trans s15
      refine ⟨_, rfl, .list ((compS ns hs).map rowD), .list ((compS ns hs).map rowD), .lst (.inl (.inl e15)) hT2.dp, .lst (.inl (.inl (sE _ _ ed))) (AR.sm sE hDs).dp, okC.shaped (by decide), okC.shaped (by decide), _, rfl, ?_⟩
      rw [eqv_rfl _ okC.nd]
      refine iteT ?_
      have sF := sm.trans sE
      refine ⟨_, rfl, _, rfl, .list (hs.map oD), .list (hs.map oD), .lst (.inl (.inl (sE _ _ hh10))) (DpAll.opts hs), .lst (.inl (.inl (sF _ _ e4))) (DpAll.opts hs), okh.shaped (by decide), okh.shaped (by decide), _, rfl, ?_⟩
      rw [eqv_rfl _ okh.nd]
      refine iteT ?_
      refine ⟨_, rfl, _, rfl, .list (ns.map PyData.int), .list (ns.map PyData.int), .lst (.inl (.inl (sE _ _ hS10.1))) (DpAll.ints ns), .lst (.inl (.inl (sF _ _ (s4 _ _ (s3 _ _ e2))))) (DpAll.ints ns), oks.shaped (by decide), oks.shaped (by decide), ?_⟩
      rw [eqv_rfl _ oks.nd]
      exact q H14 (DeckAt.sm (s14.trans sF) D1)
end
end Lk
namespace Lk
open PySem PySem.Spec PyProof.Rows L2
abbrev sTwo : Stmt := top 35
abbrev sLaw : Stmt := top 36
theorem RowI.set : ∀ {ns vs : List Int} {i : Nat} {s v : Int}, RowI ns vs → ns[i]? = some s → 0 ≤ v → v < s → RowI ns (vs.set i v)
  | [], [], i, s, v, _, e, _, _ => by simp at e
  | n :: ns, w :: vs, 0, s, v, h, e, h1, h2 => by
    cases e
    exact ⟨h1, h2, h.2.2⟩
  | n :: ns, w :: vs, i + 1, s, v, h, e, h1, h2 => ⟨h.1, h.2.1, RowI.set (i := i) h.2.2 (by simpa using e) h1 h2⟩
  | [], _ :: _, _, _, _, h, _, _, _ => h.elim
  | _ :: _, [], _, _, _, h, _, _, _ => h.elim
theorem dfI_self : ∀ (n : Nat) (ws : List Int), dfI n ws ws = []
  | 0, _ => rfl
  | n + 1, ws => by
    rw [dfI_succ, dfI_self n ws, if_neg (by simp)]
    rfl
theorem dfI_mem {n : Nat} {us ws : List Int} : ∀ v ∈ dfI n us ws, v.natAbs < n := fun v hv => by
  unfold dfI at hv
  obtain ⟨k, hk, rfl⟩ := List.mem_map.mp hv
  have := List.mem_range.mp (List.mem_filter.mp hk).1
  omega
theorem ok_df {n : Nat} {us ws : List Int} (h : n ≤ 24) : Ok 1 1000 (.list ((dfI n us ws).map PyData.int)) :=
  (Ok.list (n := 0) (w := 30) (L := 24) (okAll.ints (fun v hv => by have := dfI_mem v hv; omega) (by decide)) (by rw [List.length_map]; have := dfI_len n us ws; omega)).mono (by decide) (by decide)
section
variable {P : Program} {w : World} {K : PySem.W.Frag} {mg : Str → Option Value} {base : Heap}
/-! ### _law_two_right -/
theorem scTwo : FnScope ["deck", "sizes_here", "one", "two", "k", "kept", "due", "told", "again", "turn"] ["deck"] (defScope sTwo) := ⟨rfl, rfl, rfl, by decide +kernel, rfl, by decide +kernel, by decide +kernel⟩
def spTwo : Sp := fun vs H Q _ => ∃ (p c : Addr), vs = [.ref p] ∧ DeckAt H p c ∧ ∀ H', DeckAt H' p c → Q (.bl true) H'
theorem ok_two {f : Addr} {fd : FuncData} {k : Nat} (F : Fun K "_law_two_right" "_law_two_right" sTwo f fd) (G : Fns P w K mg base k) (mp : mg "repr" = none) (mr : mg "range" = none) (mn : mg "len" = none) : FnG P w K mg base CX0 (k + 1) f fd ["deck"] spTwo := by
  obtain ⟨fT, fdT, GT, bT, gT, kT⟩ := G.take
  obtain ⟨fR, fdR, GR, bR, gR, kR⟩ := G.row
  obtain ⟨fD, fdD, GD, bD, kbD, gD, kD⟩ := G.diff
  refine Fun_okG F scTwo (fun vs H Q E h => ?_) (fun cdv A outer s H vs Q E hg hr h => ?_)
  · obtain ⟨p, c, rfl, _⟩ := h
    rfl
  · obtain ⟨p, c, rfl, hD, q⟩ := h
    refine ⟨_, pss_cons (ps_setLc (i := 1) (own := [("turn", 9)]) (g := gName 9) (tt := tYes) rfl scTwo.nd rfl rfl (sw_true rfl rfl rfl (by decide +kernel)) (pi_range1 rfl mr (pa_cons (pe_call GT hr (by rfl) gT kT bT .nil pass0 (pa_cons (pv 0) (pa_cons pe_int pa_nil))) pa_nil))
          (blkOk_by (own := [("turn", 9)]) (N := ["deck", "sizes_here", "one", "two", "k", "kept", "due", "told", "again", "turn"]) (sc := defScope sTwo) (by decide +kernel)) (fun _ _ _ _ _ => pg_name (i := 9) scTwo.nd rfl (Or.inl rfl)) (fun _ _ _ _ _ => pts_nil)
          (fun _ _ _ _ _ => pe_op op_add pe_int (pe_call GT hr (by rfl) gT kT bT .nil pass0 (pa_cons (pv 0) (pa_cons pe_int pa_nil)))))
      (pss_cons (ps_asg (pe_tupN (pa_cons (pe_call GR hr (by rfl) gR kR bR .nil pass0 (pa_cons (pv 0) (pa_cons (pv 1) pa_nil))) (pa_cons (pe_call GR hr (by rfl) gR kR bR .nil pass0 (pa_cons (pv 0) (pa_cons (pv 1) pa_nil))) pa_nil)))
          (pg_tup (by rfl) (pgs_cons (pg_name (i := 2) scTwo.nd rfl (.inr rfl)) (pgs_cons (pg_name (i := 3) scTwo.nd rfl (.inr rfl)) pgs_nil))))
      (pss_cons (ps_for PassesOwn.never rfl (pi_range1 rfl mr (pa_cons (pe_callB call_len_seq (by rfl) mn PySem.boot_len (pa_cons (pv 2) pa_nil)) pa_nil)) (pg_name (i := 4) scTwo.nd rfl (.inl rfl))
        (pss_one (ps_if (pt_cmpR op_eq (pe_call GT hr (by rfl) gT kT bT .nil pass0 (pa_cons (pv 0) (pa_cons pe_int pa_nil))) pe_int (nomark _))
          (pss_one (ps_asg (pe_ix ix_list (pv 2) (pv 4) (fun _ _ => rfl)) (pg_sub (pv 3) (pv 4) set_list))) pss_nil)))
      (pss_cons (ps_set (i := 5) scTwo.nd rfl (.inl rfl) (pe_callB (call_repr hg hr.units) (by rfl) mp (by decide +kernel) (pa_cons (pe_lstN (pa_cons (pv 1) (pa_cons (pv 2) (pa_cons (pv 3) pa_nil)))) pa_nil)))
      (pss_cons (ps_setLc (i := 6) (own := [("k", 4)]) (g := gName 4) rfl scTwo.nd rfl rfl (sw_true rfl rfl rfl (by decide +kernel)) (pi_range1 rfl mr (pa_cons (pe_callB call_len_seq (by rfl) mn PySem.boot_len (pa_cons (pv 2) pa_nil)) pa_nil))
          (blkOk_by (own := [("k", 4)]) (N := ["deck", "sizes_here", "one", "two", "k", "kept", "due", "told", "again", "turn"]) (sc := defScope sTwo) (by decide +kernel)) (fun _ _ _ _ _ => pg_name (i := 4) scTwo.nd rfl (Or.inl rfl))
          (fun _ _ _ _ _ => pts_one (pt_cmpR op_ne (pe_ix (r := rIxL K) ix_list (pv 2) (pv 4) (fun _ _ => rfl)) (pe_ix (r := rIxL K) ix_list (pv 3) (pv 4) (fun _ _ => rfl)) (nomark _))) (fun _ _ _ _ _ => pv 4))
      (pss_cons (ps_set (i := 7) scTwo.nd rfl (.inl rfl) (pe_call GD hr (by rfl) gD kD bD .nil pass0 (pa_cons (pv 1) (pa_cons (pv 2) (pa_cons (pv 3) pa_nil)))))
      (pss_cons (ps_if (pt_cmpR op_ne (pe_callB (call_repr hg hr.units) (by rfl) mp (by decide +kernel) (pa_cons (pv 7) pa_nil)) (pe_callB (call_repr hg hr.units) (by rfl) mp (by decide +kernel) (pa_cons (pv 6) pa_nil)) (nomark _)) (pss_one (ps_ret pe_bl)) pss_nil)
      (pss_cons (ps_expr (pe_bm PySem.F.plainAttrs_list PySem.F.slot_list_append PySem.F.type_list_append mt_append (pv 7) (pa_cons pe_int pa_nil)))
      (pss_cons (ps_set (i := 8) scTwo.nd rfl (.inl rfl) (pe_callK0 GD hr (by rfl) gD kD kbD pass0 (pk_cons (pv 3) (pk_cons (pv 2) (pk_cons (pv 1) pk_nil)))))
      (pss_one (ps_ret (pe_and (pe_cmpR (op_eqD hr.units) (pv 8) (pv 6) (nomark _))
        (pe_and (pe_cmpR (op_eqD hr.units) (pe_call GD hr (by rfl) gD kD bD .nil pass0 (pa_cons (pv 1) (pa_cons (pv 3) (pa_cons (pv 3) pa_nil)))) (pe_lstN pa_nil) (nomark _))
        (pe_one (pe_cmpR op_eq (pe_callB (call_repr hg hr.units) (by rfl) mp (by decide +kernel) (pa_cons (pe_lstN (pa_cons (pv 1) (pa_cons (pv 2) (pa_cons (pv 3) pa_nil)))) pa_nil)) (pv 5) (nomark _))))))))))))))), ?_⟩
    refine ⟨_, rfl, p, c, 25, rfl, hD, by decide, by decide, fun H1 z k1 D1 z0 z1 f1 => ⟨z, rfl, by omega, by omega, fun D nD => ?_⟩⟩
    have apD := DeckAt.apart D1 nD
    refine lc_range (lo := 0) (n := z.toNat) (fun i H' => ∃ ms : List Int, ms.length = i ∧ (∀ m ∈ ms, 2 ≤ m ∧ m ≤ 6) ∧ DeckAt H' p c ∧ H' D = some (.lst (ms.map V.int)))
      ⟨[], rfl, fun _ h => (nomatch h), DeckAt.upd apD.1 apD.2 D1, upd_same⟩ ?_ ?_
    · rintro j H7 hj ⟨ms, el, hm, D7, e7⟩
      refine ⟨rfl, ?_⟩
      refine ⟨_, rfl, p, c, 5, rfl, D7, by decide, by decide, fun H8 r8 k8 D8 r80 r81 f8 => ⟨_, _, rfl, rfl, ?_⟩⟩
      refine ⟨_, k8 _ _ apD.1 apD.2 e7, ?_, ms ++ [2 + r8], ?_, ?_, DeckAt.upd apD.1 apD.2 D8, ?_⟩
      · rw [List.length_map]
        exact small1000 (by omega)
      · rw [List.length_append, el]
        rfl
      · intro m h
        rcases List.mem_append.mp h with h | h
        · exact hm m h
        · rw [List.mem_singleton.mp h]
          omega
      · rw [upd_same, List.map_append]
        rfl
    · rintro H2 ⟨ms, el, hm, D2, e2⟩
      have l24 : ms.length ≤ 24 := by omega
      refine ⟨_, rfl, _, rfl, p, c, D, ms, rfl, D2, ⟨e2, l24, hm⟩, apD.1, apD.2, fun H3 r1 us k3 D3 f3 nr1 er1 hU => ?_⟩
      have e3 := k3 _ _ apD.1 apD.2 e2
      refine ⟨_, rfl, _, rfl, p, c, D, ms, rfl, D3, ⟨e3, l24, hm⟩, apD.1, apD.2, fun H4 r2 ws k4 D4 f4 nr2 er2 hW => ?_⟩
      have ap1 := DeckAt.apart D2 nr1
      have ap2 := DeckAt.apart D3 nr2
      have n12 : r1 ≠ r2 := ne_of_none er1 nr2
      have nD2 : D ≠ r2 := ne_of_none e3 nr2
      refine ⟨by show 2 ≤ sizeLine; decide, fun t H5 s5 n5 e5 => ⟨t, _, rfl, .inl (.inl e5), rfl, _, _, rfl, _, _, rfl, rfl, ?_⟩⟩
      have lu := hU.len
      have er15 := s5 _ _ (k4 _ _ ap1.1 ap1.2 er1)
      refine ⟨_, rfl, r1, _, rfl, .inl (.inl (.inl er15)), (us.length : Int), by rw [List.length_map], by omega, by omega, for_range (n := ((us.length : Nat) : Int).toNat) (fun i σ H' => ∃ (ws : List Int) (y4 : Option V), σ = [some (.ref p), some (.ref D), some (.ref r1), some (.ref r2), y4, none, none, none, none, none] ∧
          DeckAt H' p c ∧ H' D = some (.lst (ms.map V.int)) ∧ H' r1 = some (.lst (us.map V.int)) ∧ H' r2 = some (.lst (ws.map V.int)) ∧ RowI ms ws)
        ⟨ws, none, rfl, DeckAt.sm s5 D4, s5 _ _ (k4 _ _ apD.1 apD.2 e3), er15, s5 _ _ er2, hW⟩ ?_ ?_⟩
      · rintro i σ H6 hi ⟨ws, y4, rfl, D6, eD, e1, e2', hW'⟩
        have lt : i < ms.length := by omega
        obtain ⟨v, gv, v0, v1⟩ := RowI.get hU (List.getElem?_eq_getElem lt)
        have g1 : (us.map V.int)[i]? = some (.int v) := by
          rw [List.getElem?_map, gv]
          rfl
        refine ⟨_, rfl, p, c, 3, rfl, D6, by decide, by decide, fun H7 x k7 D7 x0 x1 f7 => ⟨rfl, _, rfl, ?_⟩⟩
        have eD7 := k7 _ _ apD.1 apD.2 eD
        have e17 := k7 _ _ ap1.1 ap1.2 e1
        have e27 := k7 _ _ ap2.1 ap2.2 e2'
        refine ite2 (fun e => ?_) (fun e => ?_)
        · refine ⟨_, rfl, _, rfl, r1, _, _, _, rfl, rfl, .inl (.inl e17), at_of (Int.zero_add _) g1, _, rfl, _, rfl, r2, _, _, i, rfl, rfl, e27, ?_, ?_⟩
          · have lw := hW'.len
            unfold ixN
            rw [if_pos (by omega), if_pos (by rw [List.length_map]; omega)]
            congr 1
            omega
          · refine ⟨ws.set i v, _, rfl, DeckAt.upd ap2.1 ap2.2 D7, by rw [upd_ne nD2]; exact eD7, by rw [upd_ne n12]; exact e17, by rw [upd_same, List.map_set], hW'.set (List.getElem?_eq_getElem lt) v0 v1⟩
        · exact ⟨ws, _, rfl, D7, eD7, e17, e27, hW'⟩
      · rintro σ H6 ⟨ws, y4, rfl, D6, eD, e1, e2', hW'⟩
        clear er2 hW
        have lw := hW'.len
        have okm := ok_ints' l24 (fun v hv => by have := hm v hv; omega)
        have oku := ok_ints' (by rw [lu]; exact l24) (row_abs hU hm)
        have okw := ok_ints' (by rw [lw]; exact l24) (row_abs hW' hm)
        have ok3 : Ok 2 10000 (.list [.list (ms.map PyData.int), .list (us.map PyData.int), .list (ws.map PyData.int)]) := (Ok.list (n := 1) (w := 1000) (L := 3) (.cons okm (.cons oku (.cons okw .nil))) (by show 3 ≤ 3; decide)).mono (by decide) (by decide)
        have d3 : ∀ {H' : Hp} {a : Addr}, H' D = some (.lst (ms.map V.int)) → H' r1 = some (.lst (us.map V.int)) → H' r2 = some (.lst (ws.map V.int)) → H' a = some (.lst [.ref D, .ref r1, .ref r2]) → Dp K H' (.ref a) (.list [.list (ms.map PyData.int), .list (us.map PyData.int), .list (ws.map PyData.int)]) :=
          fun a1 a2 a3 a4 => .lst (.inl (.inl a4)) (.cons (.lst (.inl (.inl a1)) (DpAll.ints _)) (.cons (.lst (.inl (.inl a2)) (DpAll.ints _)) (.cons (.lst (.inl (.inl a3)) (DpAll.ints _)) .nil)))
        refine ⟨_, rfl, _, rfl, _, rfl, by show 3 ≤ sizeLine; decide, fun l1 H7 s7 n7 e7 => ⟨_, _, rfl, d3 (s7 _ _ eD) (s7 _ _ e1) (s7 _ _ e2') e7, ok3.sh, ok3.nd, ok3.d64, ok3.fits (by decide), ?_⟩⟩
        -- due
        refine ⟨_, rfl, r1, _, rfl, .inl (.inl (.inl (s7 _ _ e1))), (us.length : Int), by rw [List.length_map], by omega, by omega, fun du nu => ?_⟩
        have s8 := same_upd (o := .lst []) nu
        refine lc_range (lo := 0) (n := ((us.length : Nat) : Int).toNat) (fun i H' => Same H7 H' ∧ H' du = some (.lst ((dfI i us ws).map V.int))) ⟨s8, upd_same⟩ ?_ ?_
        · rintro i H8 hi ⟨sm, eu⟩
          have lt : i < ms.length := by omega
          obtain ⟨u, gu, _⟩ := RowI.get hU (List.getElem?_eq_getElem lt)
          obtain ⟨v, gv, _⟩ := RowI.get hW' (List.getElem?_eq_getElem lt)
          have g1 : (us.map V.int)[i]? = some (.int u) := by
            rw [List.getElem?_map, gu]
            rfl
          have g2 : (ws.map V.int)[i]? = some (.int v) := by
            rw [List.getElem?_map, gv]
            rfl
          have s68 := s7.trans sm
          refine ⟨rfl, ?_⟩
          refine ⟨_, rfl, _, rfl, r1, _, _, _, rfl, rfl, .inl (.inl (s68 _ _ e1)), at_of (Int.zero_add _) g1, _, rfl, _, rfl, r2, _, _, _, rfl, rfl, .inl (.inl (s68 _ _ e2')), at_of (Int.zero_add _) g2, rfl, _, rfl, ?_⟩
          by_cases e : u = v
          · refine iteNS (by rw [e]) ⟨sm, ?_⟩
            rw [dfI_succ, getD_of gu, getD_of gv, if_neg (by simp [e]), List.append_nil]
            exact eu
          · rw [decide_eq_false (fun z => e (V.int.inj z))]
            refine iteT ⟨_, rfl, _, eu, ?_, fun x o e' => ?_, ?_⟩
            · rw [List.length_map]
              have := dfI_len i us ws
              exact small1000 (by omega)
            · rw [upd_ne (ne_of_none e' nu)]
              exact sm x o e'
            · rw [upd_same, dfI_succ, getD_of gu, getD_of gv, if_pos e, List.map_append]
              show some (HO.lst ((dfI i us ws).map V.int ++ [V.int (0 + (i : Int))])) = _
              rw [Int.zero_add]
              rfl
        · rintro H8 ⟨sm, eu⟩
          rw [Int.toNat_natCast, lu] at eu
          have s68 := s7.trans sm
          have okd := ok_df (us := us) (ws := ws) l24
          have cu : CaseAt K H8 r1 ms us := ⟨.inl (.inl (s68 _ _ e1)), hU⟩
          have cw : CaseAt K H8 r2 ms ws := ⟨.inl (.inl (s68 _ _ e2')), hW'⟩
          have sz8 : SizesAt K H8 D ms := ⟨.inl (.inl (s68 _ _ eD)), l24, hm⟩
          refine ⟨_, rfl, _, rfl, _, rfl, D, r1, r2, ms, us, ws, rfl, sz8, cu, cw, fun H9 tr s9 n9 e9 => ?_⟩
          refine ⟨_, rfl, _, _, rfl, .lst (.inl (.inl e9)) (DpAll.ints _), okd.sh, okd.nd, okd.d64, okd.fits (by decide), _, rfl, _, _, rfl, .lst (.inl (.inl (s9 _ _ eu))) (DpAll.ints _), okd.sh, okd.nd, okd.d64, okd.fits (by decide), rfl, _, rfl, iteNS rfl ?_⟩
          refine ⟨_, rfl, .inl ⟨rfl, _, .inl (.inl e9)⟩, tr, _, _, rfl, rfl, e9, ?_, ?_⟩
          · rw [List.length_map]
            have := dfI_len ms.length us ws
            exact small1000 (by omega)
          have sA : Same H8 (upd H9 tr (.lst ((dfI ms.length us ws).map V.int ++ [V.int 0]))) := fun x o e => by
            rw [upd_ne (ne_of_none e n9)]
            exact s9 x o e
          refine ⟨_, rfl, _, rfl, _, rfl, D, r1, r2, ms, us, ws, rfl, sz8.sm sA, cu.sm sA, cw.sm sA, fun H11 ag s11 n11 e11 => ?_⟩
          have sB := sA.trans s11
          refine ⟨_, rfl, _, rfl, _, _, .lst (.inl (.inl e11)) (DpAll.ints _), .lst (.inl (.inl (sB _ _ eu))) (DpAll.ints _), okd.shaped (by decide), okd.shaped (by decide), _, rfl, ?_⟩
          rw [eqv_rfl _ okd.nd]
          refine iteT ?_
          refine ⟨_, rfl, _, rfl, _, rfl, D, r2, r2, ms, ws, ws, rfl, sz8.sm sB, cw.sm sB, cw.sm sB, fun H12 z2 s12 n12' e12 => ⟨by show 0 ≤ sizeLine; decide, fun z3 H13 s13 n13 e13 => ?_⟩⟩
          rw [dfI_self] at e12
          refine ⟨.list [], .list [], .lst (.inl (.inl (s13 _ _ e12))) .nil, .lst (.inl (.inl e13)) .nil, by decide +kernel, by decide +kernel, _, rfl, ?_⟩
          rw [show PyData.eqv (.list []) (.list []) = true by decide +kernel]
          refine iteT ?_
          have sC := s68.trans (sB.trans (s12.trans s13))
          refine ⟨_, rfl, _, rfl, _, rfl, by show 3 ≤ sizeLine; decide, fun l2 H14 s14 n14 e14 => ⟨_, _, rfl, d3 (s14 _ _ (sC _ _ eD)) (s14 _ _ (sC _ _ e1)) (s14 _ _ (sC _ _ e2')) e14, ok3.sh, ok3.nd, ok3.d64, ok3.fits (by decide), _, rfl, rfl, ?_⟩⟩
          rw [decide_eq_true rfl]
          exact q H14 (DeckAt.sm (sC.trans s14) D6)
/-! ### the law -/
theorem scLaw : FnScope ["script", "deck", "turn", "told"] ["script"] (defScope sLaw) := ⟨rfl, rfl, rfl, by decide +kernel, rfl, by decide +kernel, by decide +kernel⟩
def spLaw (K : PySem.W.Frag) : Sp := fun vs H Q _ => ∃ (a : Addr) (ns : List Int), vs = [.ref a] ∧ SqL K H a (ns.map V.int) ∧ ns.length ≤ 63 ∧ ∀ H', Q (.bl true) H'
theorem ok_law {f fR fW : Addr} {fd fdR fdW : FuncData} {k : Nat} (F : Fun K "law" "law" sLaw f fd) (G : Fns P w K mg base k) (GR : FnG P w K mg base CX0 k fR fdR ["deck", "sizes_here"] spRight) (bR : Binds K fdR ["deck", "sizes_here"] []) (gR : mg "_law_right" = some (.ref fR)) (kR : PySem.W.keepIn K (.ref fR) = true)
    (GW : FnG P w K mg base CX0 k fW fdW ["deck"] spTwo) (bW : Binds K fdW ["deck"] []) (gW : mg "_law_two_right" = some (.ref fW)) (kW : PySem.W.keepIn K (.ref fW) = true) (mr : mg "range" = none) : FnG P w K mg base CX0 (k + 1) f fd ["script"] (spLaw K) := by
  obtain ⟨fD, fdD, GD, bD, gD, kD⟩ := G.deck
  obtain ⟨fS, fdS, GS, bS, gS, kS⟩ := G.sizes
  obtain ⟨fC, fdC, GC, bC, kbC, gC, kC⟩ := G.comp
  obtain ⟨fX, fdX, GX, bX, kbX, gX, kX⟩ := G.diff
  refine Fun_okG F scLaw (fun vs H Q E h => ?_) (fun cdv A outer s H vs Q E hg hr h => ?_)
  · obtain ⟨v, d, rfl, _⟩ := h
    rfl
  · obtain ⟨a, ss, rfl, hS, hlen, q⟩ := h
    refine ⟨_, pss_cons (ps_set (i := 1) scLaw.nd rfl (.inl rfl) (pe_call GD hr (by rfl) gD kD bD .nil pass0 (pa_cons (pv 0) pa_nil)))
      (pss_cons (ps_for PassesOwn.never rfl (pi_range1 rfl mr (pa_cons pe_int pa_nil)) (pg_name (i := 2) scLaw.nd rfl (.inl rfl))
        (pss_one (ps_if (PW.pt (pw_or (pt_not (pt_val (pe_callG hg GR hr (by rfl) gR kR bR .nil pass0 (pa_cons (pv 1) (pa_cons (pe_call GS hr (by rfl) gS kS bS .nil pass0 (pa_cons (pv 1) (pa_cons pe_int (pa_cons pe_int pa_nil)))) pa_nil)))))
          (pw_or1 (pt_not (pt_val (pe_callG hg GW hr (by rfl) gW kW bW .nil pass0 (pa_cons (pv 1) pa_nil))))))) (pss_one (ps_ret pe_bl)) pss_nil)))
      (pss_cons (ps_set (i := 3) scLaw.nd rfl (.inl rfl) (pe_lstN (pa_cons (pe_call GC hr (by rfl) gC kC bC .nil pass0 (pa_cons (pe_lstN (pa_cons pe_int (pa_cons pe_int pa_nil))) (pa_cons (pe_lstN (pa_cons pe_non (pa_cons pe_int pa_nil))) pa_nil)))
        (pa_cons (pe_call GC hr (by rfl) gC kC bC .nil pass0 (pa_cons (pe_lstN pa_nil) (pa_cons (pe_lstN pa_nil) pa_nil)))
        (pa_cons (pe_call GC hr (by rfl) gC kC bC .nil pass0 (pa_cons (pe_lstN (pa_cons pe_int pa_nil)) (pa_cons (pe_lstN (pa_cons pe_int pa_nil)) pa_nil)))
        (pa_cons (pe_call GX hr (by rfl) gX kX bX .nil pass0 (pa_cons (pe_lstN pa_nil) (pa_cons (pe_lstN pa_nil) (pa_cons (pe_lstN pa_nil) pa_nil)))) pa_nil))))))
      (pss_one (ps_ret (pe_cmpR (op_eqD hr.units) (pv 3) (pe_lstN (pa_cons (pe_lstN (pa_cons (pe_lstN (pa_cons pe_int (pa_cons pe_int pa_nil))) (pa_cons (pe_lstN (pa_cons pe_int (pa_cons pe_int pa_nil))) pa_nil)))
        (pa_cons (pe_lstN (pa_cons (pe_lstN pa_nil) pa_nil)) (pa_cons (pe_lstN (pa_cons (pe_lstN (pa_cons pe_int pa_nil)) pa_nil)) (pa_cons (pe_lstN pa_nil) pa_nil))))) (nomark _)))))), ?_⟩
    refine ⟨_, rfl, a, ss, rfl, hS, hlen, fun H1 p c s1 n1 n2 D1 => ?_⟩
    refine ⟨5, rfl, by decide, by decide, for_range (n := 5) (fun i σ H' => ∃ y2, σ = [some (.ref a), some (.ref p), y2, none] ∧ DeckAt H' p c) ⟨none, rfl, D1⟩ ?_ ?_⟩
    · rintro i σ H2 hi ⟨y2, rfl, D2⟩
      refine ⟨_, rfl, _, rfl, p, c, 10, rfl, D2, by decide, by decide, fun H3 r ns k3 D3 f3 nr hN hp => ?_⟩
      have ap := DeckAt.apart D2 nr
      refine ⟨p, c, r, ns, rfl, D3, hN, ap.1, ap.2, hp, fun H4 D4 => ⟨_, rfl, iteF ?_⟩⟩
      exact ⟨_, rfl, p, c, rfl, D4, fun H5 D5 => ⟨_, rfl, iteF ⟨_, rfl, D5⟩⟩⟩
    · rintro σ H2 ⟨y2, rfl, D2⟩
      refine ⟨by show 2 ≤ sizeLine; decide, fun a1 H3 s3 n3 e3 => ⟨by show 2 ≤ sizeLine; decide, fun a2 H4 s4 n4 e4 => ?_⟩⟩
      refine ⟨a1, a2, [2, 3], [none, some 1], rfl, ⟨.inl (.inl (s4 _ _ e3)), by decide, by decide⟩, ⟨.inl (.inl e4), ⟨fun v e => (by cases e), fun v e => (by cases e; decide), trivial⟩⟩, by decide, fun H5 t1 b1 s5 n5 e5 h5 => ?_⟩
      refine ⟨by show 0 ≤ sizeLine; decide, fun a3 H6 s6 n6 e6 => ⟨by show 0 ≤ sizeLine; decide, fun a4 H7 s7 n7 e7 => ?_⟩⟩
      refine ⟨a3, a4, [], [], rfl, ⟨.inl (.inl (s7 _ _ e6)), by decide, by decide⟩, ⟨.inl (.inl e7), trivial⟩, by decide, fun H8 t2 b2 s8 n8 e8 h8 => ?_⟩
      refine ⟨by show 1 ≤ sizeLine; decide, fun a5 H9 s9 n9 e9 => ⟨by show 1 ≤ sizeLine; decide, fun a6 H10 s10 n10 e10 => ?_⟩⟩
      refine ⟨a5, a6, [2], [some 1], rfl, ⟨.inl (.inl (s10 _ _ e9)), by decide, by decide⟩, ⟨.inl (.inl e10), ⟨fun v e => (by cases e; decide), trivial⟩⟩, by decide, fun H11 t3 b3 s11 n11 e11 h11 => ?_⟩
      refine ⟨by show 0 ≤ sizeLine; decide, fun a7 H12 s12 n12 e12 => ⟨by show 0 ≤ sizeLine; decide, fun a8 H13 s13 n13 e13 => ⟨by show 0 ≤ sizeLine; decide, fun a9 H14 s14 n14 e14 => ?_⟩⟩⟩
      refine ⟨a7, a8, a9, [], [], [], rfl, ⟨.inl (.inl (s14 _ _ (s13 _ _ e12))), by decide, by decide⟩, ⟨.inl (.inl (s14 _ _ e13)), trivial⟩, ⟨.inl (.inl e14), trivial⟩, fun H15 t4 s15 n15 e15 => ?_⟩
      refine ⟨by show 4 ≤ sizeLine; decide, fun t5 H16 s16 n16 e16 => ?_⟩
      refine ⟨_, rfl, by show 2 ≤ sizeLine; decide, fun c1 H17 s17 n17 e17 => ⟨by show 2 ≤ sizeLine; decide, fun c2 H18 s18 n18 e18 => ⟨by show 2 ≤ sizeLine; decide, fun c3 H19 s19 n19 e19 => ?_⟩⟩⟩
      refine ⟨by show 0 ≤ sizeLine; decide, fun c4 H20 s20 n20 e20 => ⟨by show 1 ≤ sizeLine; decide, fun c5 H21 s21 n21 e21 => ?_⟩⟩
      refine ⟨by show 1 ≤ sizeLine; decide, fun c6 H22 s22 n22 e22 => ⟨by show 1 ≤ sizeLine; decide, fun c7 H23 s23 n23 e23 => ⟨by show 0 ≤ sizeLine; decide, fun c8 H24 s24 n24 e24 => ⟨by show 4 ≤ sizeLine; decide, fun c9 H25 s25 n25 e25 => ?_⟩⟩⟩⟩
      have S24 := s25
      have S23 := s24.trans S24
      have S22 := s23.trans S23
      have S21 := s22.trans S22
      have S20 := s21.trans S21
      have S19 := s20.trans S20
      have S18 := s19.trans S19
      have S17 := s18.trans S18
      have S16 := s17.trans S17
      have S15 := s16.trans S16
      have S11 := s12.trans (s13.trans (s14.trans (s15.trans S15)))
      have S8 := s9.trans (s10.trans (s11.trans S11))
      have S5 := s6.trans (s7.trans (s8.trans S8))
      refine ⟨.list [.list ((compS [2, 3] [none, some 1]).map rowD), .list ((compS [] []).map rowD), .list ((compS [2] [some 1]).map rowD), .list ((dfI 0 [] []).map PyData.int)],
        .list [.list [.list [.int 0, .int 1], .list [.int 1, .int 1]], .list [.list []], .list [.list [.int 1]], .list []],
        .lst (.inl (.inl (S16 _ _ e16))) (.cons (.lst (.inl (.inl (S5 _ _ e5))) (AR.sm S5 h5).dp) (.cons (.lst (.inl (.inl (S8 _ _ e8))) (AR.sm S8 h8).dp) (.cons (.lst (.inl (.inl (S11 _ _ e11))) (AR.sm S11 h11).dp) (.cons (.lst (.inl (.inl (S15 _ _ e15))) (DpAll.ints _)) .nil)))),
        .lst (.inl (.inl e25)) (.cons (.lst (.inl (.inl (S19 _ _ e19))) (.cons (.lst (.inl (.inl (S17 _ _ e17))) (DpAll.ints [0, 1])) (.cons (.lst (.inl (.inl (S18 _ _ e18))) (DpAll.ints [1, 1])) .nil)))
          (.cons (.lst (.inl (.inl (S21 _ _ e21))) (.cons (.lst (.inl (.inl (S20 _ _ e20))) .nil) .nil)) (.cons (.lst (.inl (.inl (S23 _ _ e23))) (.cons (.lst (.inl (.inl (S22 _ _ e22))) (DpAll.ints [1])) .nil)) (.cons (.lst (.inl (.inl (S24 _ _ e24))) .nil) .nil)))),
        by decide +kernel, by decide +kernel, ?_⟩
      rw [show PyData.eqv (.list [.list ((compS [2, 3] [none, some 1]).map rowD), .list ((compS [] []).map rowD), .list ((compS [2] [some 1]).map rowD), .list ((dfI 0 [] []).map PyData.int)])
        (.list [.list [.list [.int 0, .int 1], .list [.int 1, .int 1]], .list [.list []], .list [.list [.int 1]], .list []]) = true by decide +kernel]
      exact q _
end
end Lk
namespace Lk
open PySem PySem.Spec PyProof.Rows L2
theorem all_mk {l : PySem.W.OpenLaw} {w : World} {K : PySem.W.Frag} {h : Heap} {mg : Str → Option Value} {fa : Addr} (X : K.In h) (G : h.Ns mainGlobals mg) (hfa : mg "law" = some (.ref fa))
    {f0 : Addr} {od0 an0 : Option Addr} {sl0 : Array (Option Value)} {oc0 kV0 dc0 pm0 cd0 ct0 : Value}
    {f1 : Addr} {od1 an1 : Option Addr} {sl1 : Array (Option Value)} {oc1 kV1 dc1 pm1 cd1 ct1 : Value}
    {f2 : Addr} {od2 an2 : Option Addr} {sl2 : Array (Option Value)} {oc2 kV2 dc2 pm2 cd2 ct2 : Value}
    {f3 : Addr} {od3 an3 : Option Addr} {sl3 : Array (Option Value)} {oc3 kV3 dc3 pm3 cd3 ct3 : Value}
    {f4 : Addr} {od4 an4 : Option Addr} {sl4 : Array (Option Value)} {oc4 kV4 dc4 pm4 cd4 ct4 : Value}
    {f5 : Addr} {od5 an5 : Option Addr} {sl5 : Array (Option Value)} {oc5 kV5 dc5 pm5 cd5 ct5 : Value}
    {f6 : Addr} {od6 an6 : Option Addr} {sl6 : Array (Option Value)} {oc6 kV6 dc6 pm6 cd6 ct6 : Value}
    {f7 : Addr} {od7 an7 : Option Addr} {sl7 : Array (Option Value)} {oc7 kV7 dc7 pm7 cd7 ct7 : Value}
    {f8 : Addr} {od8 an8 : Option Addr} {sl8 : Array (Option Value)} {oc8 kV8 dc8 pm8 cd8 ct8 : Value}
    {f9 : Addr} {od9 an9 : Option Addr} {sl9 : Array (Option Value)} {oc9 kV9 dc9 pm9 cd9 ct9 : Value}
    {f10 : Addr} {od10 an10 : Option Addr} {sl10 : Array (Option Value)} {oc10 kV10 dc10 pm10 cd10 ct10 : Value}
    {f11 : Addr} {od11 an11 : Option Addr} {sl11 : Array (Option Value)} {oc11 kV11 dc11 pm11 cd11 ct11 : Value}
    {f12 : Addr} {od12 an12 : Option Addr} {sl12 : Array (Option Value)} {oc12 kV12 dc12 pm12 cd12 ct12 : Value}
    {f13 : Addr} {od13 an13 : Option Addr} {sl13 : Array (Option Value)} {oc13 kV13 dc13 pm13 cd13 ct13 : Value}
    {f14 : Addr} {od14 an14 : Option Addr} {sl14 : Array (Option Value)} {oc14 kV14 dc14 pm14 cd14 ct14 : Value}
    {f15 : Addr} {od15 an15 : Option Addr} {sl15 : Array (Option Value)} {oc15 kV15 dc15 pm15 cd15 ct15 : Value}
    {f16 : Addr} {od16 an16 : Option Addr} {sl16 : Array (Option Value)} {oc16 kV16 dc16 pm16 cd16 ct16 : Value}
    {f17 : Addr} {od17 an17 : Option Addr} {sl17 : Array (Option Value)} {oc17 kV17 dc17 pm17 cd17 ct17 : Value}
    {f18 : Addr} {od18 an18 : Option Addr} {sl18 : Array (Option Value)} {oc18 kV18 dc18 pm18 cd18 ct18 : Value}
    {f19 : Addr} {od19 an19 : Option Addr} {sl19 : Array (Option Value)} {oc19 kV19 dc19 pm19 cd19 ct19 : Value}
    {f20 : Addr} {od20 an20 : Option Addr} {sl20 : Array (Option Value)} {oc20 kV20 dc20 pm20 cd20 ct20 : Value}
    {f21 : Addr} {od21 an21 : Option Addr} {sl21 : Array (Option Value)} {oc21 kV21 dc21 pm21 cd21 ct21 : Value}
    {f22 : Addr} {od22 an22 : Option Addr} {sl22 : Array (Option Value)} {oc22 kV22 dc22 pm22 cd22 ct22 : Value}
    {f23 : Addr} {od23 an23 : Option Addr} {sl23 : Array (Option Value)} {oc23 kV23 dc23 pm23 cd23 ct23 : Value}
    {t0 : Tok}
    {t1 : Tok}
    {t2 : Tok}
    {t3 : Tok}
    (a0 : PySem.W.nsIn K mainGlobals "is_integer" = some (some (.ref f0))) (l0 : K.lookup f0 = some ⟨oc0, od0, .func (PySem.W.fnOf "is_integer" "is_integer" (defArgs sIsInteger) (defBody sIsInteger) (defScope sIsInteger) .none kV0 dc0 pm0 an0 cd0 ct0), sl0⟩)
    (c0 : PySem.W.codeIn K cd0 "is_integer" = true) (k0 : PySem.W.keepIn K (.ref f0) = true)
    (a1 : PySem.W.nsIn K mainGlobals "is_integer_below" = some (some (.ref f1))) (l1 : K.lookup f1 = some ⟨oc1, od1, .func (PySem.W.fnOf "is_integer_below" "is_integer_below" (defArgs sBelow) (defBody sBelow) (defScope sBelow) .none kV1 dc1 pm1 an1 cd1 ct1), sl1⟩)
    (c1 : PySem.W.codeIn K cd1 "is_integer_below" = true) (k1 : PySem.W.keepIn K (.ref f1) = true)
    (a2 : PySem.W.nsIn K mainGlobals "is_sizes" = some (some (.ref f2))) (l2 : K.lookup f2 = some ⟨oc2, od2, .func (PySem.W.fnOf "is_sizes" "is_sizes" (defArgs sIsSizes) (defBody sIsSizes) (defScope sIsSizes) .none kV2 dc2 pm2 an2 cd2 ct2), sl2⟩)
    (c2 : PySem.W.codeIn K cd2 "is_sizes" = true) (k2 : PySem.W.keepIn K (.ref f2) = true)
    (a3 : PySem.W.nsIn K mainGlobals "check_sizes" = some (some (.ref f3))) (l3 : K.lookup f3 = some ⟨oc3, od3, .func (PySem.W.fnOf "check_sizes" "check_sizes" (defArgs sCheckSizes) (defBody sCheckSizes) (defScope sCheckSizes) .none kV3 dc3 pm3 an3 cd3 ct3), sl3⟩)
    (c3 : PySem.W.codeIn K cd3 "check_sizes" = true) (k3 : PySem.W.keepIn K (.ref f3) = true)
    (a4 : PySem.W.nsIn K mainGlobals "is_half_case" = some (some (.ref f4))) (l4 : K.lookup f4 = some ⟨oc4, od4, .func (PySem.W.fnOf "is_half_case" "is_half_case" (defArgs sIsHalf) (defBody sIsHalf) (defScope sIsHalf) .none kV4 dc4 pm4 an4 cd4 ct4), sl4⟩)
    (c4 : PySem.W.codeIn K cd4 "is_half_case" = true) (k4 : PySem.W.keepIn K (.ref f4) = true)
    (a5 : PySem.W.nsIn K mainGlobals "is_case" = some (some (.ref f5))) (l5 : K.lookup f5 = some ⟨oc5, od5, .func (PySem.W.fnOf "is_case" "is_case" (defArgs sIsCase) (defBody sIsCase) (defScope sIsCase) .none kV5 dc5 pm5 an5 cd5 ct5), sl5⟩)
    (c5 : PySem.W.codeIn K cd5 "is_case" = true) (k5 : PySem.W.keepIn K (.ref f5) = true)
    (a6 : PySem.W.nsIn K mainGlobals "check_case" = some (some (.ref f6))) (l6 : K.lookup f6 = some ⟨oc6, od6, .func (PySem.W.fnOf "check_case" "check_case" (defArgs sCheckCase) (defBody sCheckCase) (defScope sCheckCase) .none kV6 dc6 pm6 an6 cd6 ct6), sl6⟩)
    (c6 : PySem.W.codeIn K cd6 "check_case" = true) (k6 : PySem.W.keepIn K (.ref f6) = true)
    (a7 : PySem.W.nsIn K mainGlobals "check_half" = some (some (.ref f7))) (l7 : K.lookup f7 = some ⟨oc7, od7, .func (PySem.W.fnOf "check_half" "check_half" (defArgs sCheckHalf) (defBody sCheckHalf) (defScope sCheckHalf) .none kV7 dc7 pm7 an7 cd7 ct7), sl7⟩)
    (c7 : PySem.W.codeIn K cd7 "check_half" = true) (k7 : PySem.W.keepIn K (.ref f7) = true)
    (a8 : PySem.W.nsIn K mainGlobals "number_of_cases" = some (some (.ref f8))) (l8 : K.lookup f8 = some ⟨oc8, od8, .func (PySem.W.fnOf "number_of_cases" "number_of_cases" (defArgs sNumber) (defBody sNumber) (defScope sNumber) .none kV8 dc8 pm8 an8 cd8 ct8), sl8⟩)
    (c8 : PySem.W.codeIn K cd8 "number_of_cases" = true) (k8 : PySem.W.keepIn K (.ref f8) = true)
    (a9 : PySem.W.nsIn K mainGlobals "is_small_sheet" = some (some (.ref f9))) (l9 : K.lookup f9 = some ⟨oc9, od9, .func (PySem.W.fnOf "is_small_sheet" "is_small_sheet" (defArgs sIsSmallSheet) (defBody sIsSmallSheet) (defScope sIsSmallSheet) .none kV9 dc9 pm9 an9 cd9 ct9), sl9⟩)
    (c9 : PySem.W.codeIn K cd9 "is_small_sheet" = true) (k9 : PySem.W.keepIn K (.ref f9) = true)
    (a10 : PySem.W.nsIn K mainGlobals "check_small" = some (some (.ref f10))) (l10 : K.lookup f10 = some ⟨oc10, od10, .func (PySem.W.fnOf "check_small" "check_small" (defArgs sCheckSmall) (defBody sCheckSmall) (defScope sCheckSmall) .none kV10 dc10 pm10 an10 cd10 ct10), sl10⟩)
    (c10 : PySem.W.codeIn K cd10 "check_small" = true) (k10 : PySem.W.keepIn K (.ref f10) = true)
    (a11 : PySem.W.nsIn K mainGlobals "list_completing" = some (some (.ref f11))) (l11 : K.lookup f11 = some ⟨oc11, od11, .func (PySem.W.fnOf "list_completing" "list_completing" (defArgs sListC) (defBody sListC) (defScope sListC) .none kV11 dc11 pm11 an11 cd11 ct11), sl11⟩)
    (c11 : PySem.W.codeIn K cd11 "list_completing" = true) (k11 : PySem.W.keepIn K (.ref f11) = true)
    (a12 : PySem.W.nsIn K mainGlobals "completing" = some (some (.ref f12))) (l12 : K.lookup f12 = some ⟨oc12, od12, .func (PySem.W.fnOf "completing" "completing" (defArgs sCompleting) (defBody sCompleting) (defScope sCompleting) .none kV12 dc12 pm12 an12 cd12 ct12), sl12⟩)
    (c12 : PySem.W.codeIn K cd12 "completing" = true) (k12 : PySem.W.keepIn K (.ref f12) = true)
    (a13 : PySem.W.nsIn K mainGlobals "differing" = some (some (.ref f13))) (l13 : K.lookup f13 = some ⟨oc13, od13, .func (PySem.W.fnOf "differing" "differing" (defArgs sDiffering) (defBody sDiffering) (defScope sDiffering) .none kV13 dc13 pm13 an13 cd13 ct13), sl13⟩)
    (c13 : PySem.W.codeIn K cd13 "differing" = true) (k13 : PySem.W.keepIn K (.ref f13) = true)
    (a14 : PySem.W.nsIn K mainGlobals "_law_deck" = some (some (.ref f14))) (l14 : K.lookup f14 = some ⟨oc14, od14, .func (PySem.W.fnOf "_law_deck" "_law_deck" (defArgs sDeck) (defBody sDeck) (defScope sDeck) .none kV14 dc14 pm14 an14 cd14 ct14), sl14⟩)
    (c14 : PySem.W.codeIn K cd14 "_law_deck" = true) (k14 : PySem.W.keepIn K (.ref f14) = true)
    (a15 : PySem.W.nsIn K mainGlobals "_law_take" = some (some (.ref f15))) (l15 : K.lookup f15 = some ⟨oc15, od15, .func (PySem.W.fnOf "_law_take" "_law_take" (defArgs sTake) (defBody sTake) (defScope sTake) .none kV15 dc15 pm15 an15 cd15 ct15), sl15⟩)
    (c15 : PySem.W.codeIn K cd15 "_law_take" = true) (k15 : PySem.W.keepIn K (.ref f15) = true)
    (a16 : PySem.W.nsIn K mainGlobals "_law_sizes" = some (some (.ref f16))) (l16 : K.lookup f16 = some ⟨oc16, od16, .func (PySem.W.fnOf "_law_sizes" "_law_sizes" (defArgs sSizes) (defBody sSizes) (defScope sSizes) .none kV16 dc16 pm16 an16 cd16 ct16), sl16⟩)
    (c16 : PySem.W.codeIn K cd16 "_law_sizes" = true) (k16 : PySem.W.keepIn K (.ref f16) = true)
    (a17 : PySem.W.nsIn K mainGlobals "_law_row" = some (some (.ref f17))) (l17 : K.lookup f17 = some ⟨oc17, od17, .func (PySem.W.fnOf "_law_row" "_law_row" (defArgs sRow) (defBody sRow) (defScope sRow) .none kV17 dc17 pm17 an17 cd17 ct17), sl17⟩)
    (c17 : PySem.W.codeIn K cd17 "_law_row" = true) (k17 : PySem.W.keepIn K (.ref f17) = true)
    (a18 : PySem.W.nsIn K mainGlobals "_law_rows" = some (some (.ref f18))) (l18 : K.lookup f18 = some ⟨oc18, od18, .func (PySem.W.fnOf "_law_rows" "_law_rows" (defArgs sRows) (defBody sRows) (defScope sRows) .none kV18 dc18 pm18 an18 cd18 ct18), sl18⟩)
    (c18 : PySem.W.codeIn K cd18 "_law_rows" = true) (k18 : PySem.W.keepIn K (.ref f18) = true)
    (a19 : PySem.W.nsIn K mainGlobals "_law_half" = some (some (.ref f19))) (l19 : K.lookup f19 = some ⟨oc19, od19, .func (PySem.W.fnOf "_law_half" "_law_half" (defArgs sHalf) (defBody sHalf) (defScope sHalf) .none kV19 dc19 pm19 an19 cd19 ct19), sl19⟩)
    (c19 : PySem.W.codeIn K cd19 "_law_half" = true) (k19 : PySem.W.keepIn K (.ref f19) = true)
    (a20 : PySem.W.nsIn K mainGlobals "_law_right" = some (some (.ref f20))) (l20 : K.lookup f20 = some ⟨oc20, od20, .func (PySem.W.fnOf "_law_right" "_law_right" (defArgs sRight) (defBody sRight) (defScope sRight) .none kV20 dc20 pm20 an20 cd20 ct20), sl20⟩)
    (c20 : PySem.W.codeIn K cd20 "_law_right" = true) (k20 : PySem.W.keepIn K (.ref f20) = true)
    (a21 : PySem.W.nsIn K mainGlobals "_law_two_right" = some (some (.ref f21))) (l21 : K.lookup f21 = some ⟨oc21, od21, .func (PySem.W.fnOf "_law_two_right" "_law_two_right" (defArgs sTwo) (defBody sTwo) (defScope sTwo) .none kV21 dc21 pm21 an21 cd21 ct21), sl21⟩)
    (c21 : PySem.W.codeIn K cd21 "_law_two_right" = true) (k21 : PySem.W.keepIn K (.ref f21) = true)
    (a22 : PySem.W.nsIn K mainGlobals "unlike_fields" = some (some (.ref f22))) (l22 : K.lookup f22 = some ⟨oc22, od22, .func (PySem.W.fnOf "unlike_fields" "unlike_fields" (defArgs sUnlike) (defBody sUnlike) (defScope sUnlike) .none kV22 dc22 pm22 an22 cd22 ct22), sl22⟩)
    (c22 : PySem.W.codeIn K cd22 "unlike_fields" = true) (k22 : PySem.W.keepIn K (.ref f22) = true)
    (a23 : PySem.W.nsIn K mainGlobals "law" = some (some (.ref f23))) (l23 : K.lookup f23 = some ⟨oc23, od23, .func (PySem.W.fnOf "law" "law" (defArgs sLaw) (defBody sLaw) (defScope sLaw) .none kV23 dc23 pm23 an23 cd23 ct23), sl23⟩)
    (c23 : PySem.W.codeIn K cd23 "law" = true) (k23 : PySem.W.keepIn K (.ref f23) = true)
    (n0 : PySem.W.nsIn K mainGlobals "MOST_FIELDS" = some (some (.int 24 t0)))
    (n1 : PySem.W.nsIn K mainGlobals "LEAST_SIZE" = some (some (.int 2 t1)))
    (n2 : PySem.W.nsIn K mainGlobals "GREATEST_SIZE" = some (some (.int 6 t2)))
    (n3 : PySem.W.nsIn K mainGlobals "MOST_CASES_OF_SMALL" = some (some (.int 1024 t3)))
    (z0 : PySem.W.nsIn K mainGlobals "int" = some none)
    (z1 : PySem.W.nsIn K mainGlobals "bool" = some none)
    (z2 : PySem.W.nsIn K mainGlobals "list" = some none)
    (z3 : PySem.W.nsIn K mainGlobals "len" = some none)
    (z4 : PySem.W.nsIn K mainGlobals "isinstance" = some none)
    (z5 : PySem.W.nsIn K mainGlobals "all" = some none)
    (z6 : PySem.W.nsIn K mainGlobals "abs" = some none)
    (z7 : PySem.W.nsIn K mainGlobals "range" = some none)
    (z8 : PySem.W.nsIn K mainGlobals "repr" = some none)
    (z9 : PySem.W.nsIn K mainGlobals "reversed" = some none)
    : ∃ fd : FuncData, (∀ (s : Shared) (v : Value), BindsTo s fd ⟨[v], []⟩ [("script", v)]) ∧ ∀ base : Heap, K.In base → base.Ns mainGlobals mg → FnG l.prog w K mg base CX0 8 fa fd ["script"] (spLaw K) := by
  have e := hfa.symm.trans (PySem.W.mg_of X G a23)
  cases e
  have F0 := fun_mk (st := sIsInteger) l0 c0 k0
  have g0' := PySem.W.mg_of X G a0
  have b0 := F0.binds (ps := ["value"]) fun _ _ _ _ _ _ us hl => match us, hl with | [_], _ => rfl
  have F1 := fun_mk (st := sBelow) l1 c1 k1
  have g1' := PySem.W.mg_of X G a1
  have b1 := F1.binds (ps := ["value", "limit"]) fun _ _ _ _ _ _ us hl => match us, hl with | [_, _], _ => rfl
  have F2 := fun_mk (st := sIsSizes) l2 c2 k2
  have g2' := PySem.W.mg_of X G a2
  have b2 := F2.binds (ps := ["value"]) fun _ _ _ _ _ _ us hl => match us, hl with | [_], _ => rfl
  have F3 := fun_mk (st := sCheckSizes) l3 c3 k3
  have g3' := PySem.W.mg_of X G a3
  have b3 := F3.binds (ps := ["sizes"]) fun _ _ _ _ _ _ us hl => match us, hl with | [_], _ => rfl
  have F4 := fun_mk (st := sIsHalf) l4 c4 k4
  have g4' := PySem.W.mg_of X G a4
  have b4 := F4.binds (ps := ["sizes", "value"]) fun _ _ _ _ _ _ us hl => match us, hl with | [_, _], _ => rfl
  have F5 := fun_mk (st := sIsCase) l5 c5 k5
  have g5' := PySem.W.mg_of X G a5
  have b5 := F5.binds (ps := ["sizes", "value"]) fun _ _ _ _ _ _ us hl => match us, hl with | [_, _], _ => rfl
  have F6 := fun_mk (st := sCheckCase) l6 c6 k6
  have g6' := PySem.W.mg_of X G a6
  have b6 := F6.binds (ps := ["sizes", "case"]) fun _ _ _ _ _ _ us hl => match us, hl with | [_, _], _ => rfl
  have F7 := fun_mk (st := sCheckHalf) l7 c7 k7
  have g7' := PySem.W.mg_of X G a7
  have b7 := F7.binds (ps := ["sizes", "half"]) fun _ _ _ _ _ _ us hl => match us, hl with | [_, _], _ => rfl
  have F8 := fun_mk (st := sNumber) l8 c8 k8
  have g8' := PySem.W.mg_of X G a8
  have b8 := F8.binds (ps := ["sizes"]) fun _ _ _ _ _ _ us hl => match us, hl with | [_], _ => rfl
  have F9 := fun_mk (st := sIsSmallSheet) l9 c9 k9
  have g9' := PySem.W.mg_of X G a9
  have b9 := F9.binds (ps := ["sizes"]) fun _ _ _ _ _ _ us hl => match us, hl with | [_], _ => rfl
  have F10 := fun_mk (st := sCheckSmall) l10 c10 k10
  have g10' := PySem.W.mg_of X G a10
  have b10 := F10.binds (ps := ["sizes"]) fun _ _ _ _ _ _ us hl => match us, hl with | [_], _ => rfl
  have F11 := fun_mk (st := sListC) l11 c11 k11
  have g11' := PySem.W.mg_of X G a11
  have b11 := F11.binds (ps := ["sizes", "half"]) fun _ _ _ _ _ _ us hl => match us, hl with | [_, _], _ => rfl
  have F12 := fun_mk (st := sCompleting) l12 c12 k12
  have g12' := PySem.W.mg_of X G a12
  have b12 := F12.binds (ps := ["sizes", "half"]) fun _ _ _ _ _ _ us hl => match us, hl with | [_, _], _ => rfl
  have F13 := fun_mk (st := sDiffering) l13 c13 k13
  have g13' := PySem.W.mg_of X G a13
  have b13 := F13.binds (ps := ["sizes", "case", "second_case"]) fun _ _ _ _ _ _ us hl => match us, hl with | [_, _, _], _ => rfl
  have F14 := fun_mk (st := sDeck) l14 c14 k14
  have g14' := PySem.W.mg_of X G a14
  have b14 := F14.binds (ps := ["script"]) fun _ _ _ _ _ _ us hl => match us, hl with | [_], _ => rfl
  have F15 := fun_mk (st := sTake) l15 c15 k15
  have g15' := PySem.W.mg_of X G a15
  have b15 := F15.binds (ps := ["deck", "wide"]) fun _ _ _ _ _ _ us hl => match us, hl with | [_, _], _ => rfl
  have F16 := fun_mk (st := sSizes) l16 c16 k16
  have g16' := PySem.W.mg_of X G a16
  have b16 := F16.binds (ps := ["deck", "many", "most"]) fun _ _ _ _ _ _ us hl => match us, hl with | [_, _, _], _ => rfl
  have F17 := fun_mk (st := sRow) l17 c17 k17
  have g17' := PySem.W.mg_of X G a17
  have b17 := F17.binds (ps := ["deck", "sizes_here"]) fun _ _ _ _ _ _ us hl => match us, hl with | [_, _], _ => rfl
  have F18 := fun_mk (st := sRows) l18 c18 k18
  have g18' := PySem.W.mg_of X G a18
  have b18 := F18.binds (ps := ["sizes_here"]) fun _ _ _ _ _ _ us hl => match us, hl with | [_], _ => rfl
  have F19 := fun_mk (st := sHalf) l19 c19 k19
  have g19' := PySem.W.mg_of X G a19
  have b19 := F19.binds (ps := ["deck", "sizes_here"]) fun _ _ _ _ _ _ us hl => match us, hl with | [_, _], _ => rfl
  have F20 := fun_mk (st := sRight) l20 c20 k20
  have g20' := PySem.W.mg_of X G a20
  have b20 := F20.binds (ps := ["deck", "sizes_here"]) fun _ _ _ _ _ _ us hl => match us, hl with | [_, _], _ => rfl
  have F21 := fun_mk (st := sTwo) l21 c21 k21
  have g21' := PySem.W.mg_of X G a21
  have b21 := F21.binds (ps := ["deck"]) fun _ _ _ _ _ _ us hl => match us, hl with | [_], _ => rfl
  have F22 := fun_mk (st := sUnlike) l22 c22 k22
  have g22' := PySem.W.mg_of X G a22
  have b22 := F22.binds (ps := ["case", "second_case"]) fun _ _ _ _ _ _ us hl => match us, hl with | [_, _], _ => rfl
  have F23 := fun_mk (st := sLaw) l23 c23 k23
  have g23' := PySem.W.mg_of X G a23
  have m0 := PySem.W.mg_of X G n0
  have m1 := PySem.W.mg_of X G n1
  have m2 := PySem.W.mg_of X G n2
  have m3 := PySem.W.mg_of X G n3
  have y0 := PySem.W.mg_none_of X G z0
  have y1 := PySem.W.mg_none_of X G z1
  have y2 := PySem.W.mg_none_of X G z2
  have y3 := PySem.W.mg_none_of X G z3
  have y4 := PySem.W.mg_none_of X G z4
  have y5 := PySem.W.mg_none_of X G z5
  have y6 := PySem.W.mg_none_of X G z6
  have y7 := PySem.W.mg_none_of X G z7
  have y8 := PySem.W.mg_none_of X G z8
  have y9 := PySem.W.mg_none_of X G z9
  refine ⟨PySem.W.fnOf "law" "law" (defArgs sLaw) (defBody sLaw) (defScope sLaw) .none kV23 dc23 pm23 an23 cd23 ct23, fun s v => .of_eq rfl, fun base _ _ => ?_⟩
  have T : Txt1 mg := ⟨y0, y1, y2, y3, y4, y5, ⟨_, m0⟩, ⟨_, m1⟩, ⟨_, m2⟩, ⟨_, m3⟩⟩
  have T2 : Txt2 mg := ⟨T, y7, y9⟩
  have G0 : FnOk l.prog w K mg base CX0 1 f0 _ ["value"] (spIsInteger K) := ok_isInteger F0 T
  have G1 : FnOk l.prog w K mg base CX0 2 f1 _ ["value", "limit"] (spBelow K) := ok_below F1 G0 b0 g0' k0
  have G2 : FnOk l.prog w K mg base CX0 2 f2 _ ["value"] (spIsSizes K) := ok_isSizes (k := 0) F2 T F0 b0 g0'
  have G3 : FnOk l.prog w K mg base CX0 3 f3 _ ["sizes"] (spCheckSizes K) := ok_checkSizes (k := 1) F3 G2 b2 g2' k2
  have G4 : FnOk l.prog w K mg base CX0 3 f4 _ ["sizes", "value"] (spIsHalf K) := ok_isHalf F4 T2 G1 b1 g1' k1
  have G5 : FnOk l.prog w K mg base CX0 4 f5 _ ["sizes", "value"] (spIsCase K) := ok_isCase F5 G4 b4 g4' k4
  have G6 : FnOk l.prog w K mg base CX0 5 f6 _ ["sizes", "case"] (spCheckCase K) := ok_checkCase F6 G5 b5 g5' k5
  have G7 : FnOk l.prog w K mg base CX0 4 f7 _ ["sizes", "half"] (spCheckHalf K) := ok_checkHalf F7 G4 b4 g4' k4
  have G9 : FnOk l.prog w K mg base CX0 3 f9 _ ["sizes"] (spIsSmallSheet K) := ok_isSmallSheet (k := 1) F9 T F8 b8 g8'
  have G10 : FnOk l.prog w K mg base CX0 4 f10 _ ["sizes"] (spCheckSmall K) := ok_checkSmall F10 G9 b9 g9' k9
  have G11 : FnOk l.prog w K mg base CX0 4 f11 _ ["sizes", "half"] (spListC K) := ok_listC F11 T2
  have G12 : FnOk l.prog w K mg base CX0 5 f12 _ ["sizes", "half"] (spListC K) := ok_completing F12 (G3.mono (by decide)) b3 g3' k3 G7 b7 g7' k7 G10 b10 g10' k10 G11 b11 g11' k11
  have G22 : FnOk l.prog w K mg base CX0 5 f22 _ ["case", "second_case"] (spUnlike K) := ok_unlike F22 T2
  have G13 : FnOk l.prog w K mg base CX0 6 f13 _ ["sizes", "case", "second_case"] (spDiffering K) := ok_differing F13 (G3.mono (by decide)) b3 g3' k3 G6 b6 g6' k6 G22 b22 g22' k22
  have G14 : FnOk l.prog w K mg base CX0 6 f14 _ ["script"] (spDeck K) := ok_deck F14 y0 y6
  have G15 : FnOk l.prog w K mg base CX0 5 f15 _ ["deck", "wide"] spTake := ok_take F15 y0 y3
  have G16 : FnOk l.prog w K mg base CX0 6 f16 _ ["deck", "many", "most"] spSizes := ok_sizes F16 G15 b15 g15' k15 y7
  have G17 : FnOk l.prog w K mg base CX0 6 f17 _ ["deck", "sizes_here"] spRow := ok_row F17 G15 b15 g15' k15
  have G18 : FnOk l.prog w K mg base CX0 6 f18 _ ["sizes_here"] spRows := ok_rows F18 y7
  have G19 : FnOk l.prog w K mg base CX0 6 f19 _ ["deck", "sizes_here"] spHalf := ok_half F19 G15 b15 g15' k15
  have kbC := kb21 (n := "sizes") (m := "half") F12 fun _ _ _ _ _ _ _ _ => rfl
  have kbD := kb321 (n := "sizes") (m := "case") (l := "second_case") F13 fun _ _ _ _ _ _ _ _ _ => rfl
  have A : ∀ k, 6 ≤ k → Fns l.prog w K mg base k := fun k hk => ⟨⟨_, _, G15.mono (by omega), b15, g15', k15⟩, ⟨_, _, G14.mono hk, b14, g14', k14⟩, ⟨_, _, G17.mono hk, b17, g17', k17⟩, ⟨_, _, G16.mono hk, b16, g16', k16⟩, ⟨_, _, G19.mono hk, b19, g19', k19⟩, ⟨_, _, G18.mono hk, b18, g18', k18⟩,
    ⟨_, _, G12.mono (by omega), b12, kbC, g12', k12⟩, ⟨_, _, G13.mono hk, b13, kbD, g13', k13⟩⟩
  have G20 : FnG l.prog w K mg base CX0 7 f20 _ ["deck", "sizes_here"] spRight := ok_right F20 (A 6 (by decide)) y8 y2 y7 y3
  have G21 : FnG l.prog w K mg base CX0 7 f21 _ ["deck"] spTwo := ok_two F21 (A 6 (by decide)) y8 y7 y3
  exact ok_law F23 (A 7 (by decide)) G20 b20 g20' k20 G21 b21 g21' k21 y7
end Lk
open PySem PySem.W PyProof.Rows in
set_option maxRecDepth 100000 in
set_option maxHeartbeats 0 in
theorem PySem.Challenge.cw_leastreasons_k03_cases_that_complete_holds : PySem.Challenge.rw_leastreasons_k03_cases_that_complete.Holds := by
  w_on; o_law; k_head; (case hw => w_witness2)
  k_fill
  refine Lk.walk_ofG (l := PySem.Challenge.rw_leastreasons_k03_cases_that_complete) (n := 63) (k := 8) (x := "script") (sp := fun w => Lk.spLaw _) rfl (by decide) rfl ⟨rfl, by decide, by decide⟩ (fun w h Y => PySem.W.kIn_of Y) ?F (fun _ _ a ns hl _ hS => ⟨a, ns, rfl, hS, hl, fun _ => rfl⟩)
  case F =>
    intro w mg fa h KX G hmg
    refine' Lk.all_mk KX G hmg ?a0 ?l0 ?c0 ?k0 ?a1 ?l1 ?c1 ?k1 ?a2 ?l2 ?c2 ?k2 ?a3 ?l3 ?c3 ?k3 ?a4 ?l4 ?c4 ?k4 ?a5 ?l5 ?c5 ?k5 ?a6 ?l6 ?c6 ?k6 ?a7 ?l7 ?c7 ?k7 ?a8 ?l8 ?c8 ?k8 ?a9 ?l9 ?c9 ?k9 ?a10 ?l10 ?c10 ?k10 ?a11 ?l11 ?c11 ?k11 ?a12 ?l12 ?c12 ?k12 ?a13 ?l13 ?c13 ?k13 ?a14 ?l14 ?c14 ?k14 ?a15 ?l15 ?c15 ?k15 ?a16 ?l16 ?c16 ?k16 ?a17 ?l17 ?c17 ?k17 ?a18 ?l18 ?c18 ?k18 ?a19 ?l19 ?c19 ?k19 ?a20 ?l20 ?c20 ?k20 ?a21 ?l21 ?c21 ?k21 ?a22 ?l22 ?c22 ?k22 ?a23 ?l23 ?c23 ?k23 ?n0 ?n1 ?n2 ?n3 ?z0 ?z1 ?z2 ?z3 ?z4 ?z5 ?z6 ?z7 ?z8 ?z9
    (case a0 => k_is)
    (case l0 => k_is)
    (case c0 => k_is)
    (case k0 => k_is)
    (case a1 => k_is)
    (case l1 => k_is)
    (case c1 => k_is)
    (case k1 => k_is)
    (case a2 => k_is)
    (case l2 => k_is)
    (case c2 => k_is)
    (case k2 => k_is)
    (case a3 => k_is)
    (case l3 => k_is)
    (case c3 => k_is)
    (case k3 => k_is)
    (case a4 => k_is)
    (case l4 => k_is)
    (case c4 => k_is)
    (case k4 => k_is)
    (case a5 => k_is)
    (case l5 => k_is)
    (case c5 => k_is)
    (case k5 => k_is)
    (case a6 => k_is)
    (case l6 => k_is)
    (case c6 => k_is)
    (case k6 => k_is)
    (case a7 => k_is)
    (case l7 => k_is)
    (case c7 => k_is)
    (case k7 => k_is)
    (case a8 => k_is)
    (case l8 => k_is)
    (case c8 => k_is)
    (case k8 => k_is)
    (case a9 => k_is)
    (case l9 => k_is)
    (case c9 => k_is)
    (case k9 => k_is)
    (case a10 => k_is)
    (case l10 => k_is)
    (case c10 => k_is)
    (case k10 => k_is)
    (case a11 => k_is)
    (case l11 => k_is)
    (case c11 => k_is)
    (case k11 => k_is)
    (case a12 => k_is)
    (case l12 => k_is)
    (case c12 => k_is)
    (case k12 => k_is)
    (case a13 => k_is)
    (case l13 => k_is)
    (case c13 => k_is)
    (case k13 => k_is)
    (case a14 => k_is)
    (case l14 => k_is)
    (case c14 => k_is)
    (case k14 => k_is)
    (case a15 => k_is)
    (case l15 => k_is)
    (case c15 => k_is)
    (case k15 => k_is)
    (case a16 => k_is)
    (case l16 => k_is)
    (case c16 => k_is)
    (case k16 => k_is)
    (case a17 => k_is)
    (case l17 => k_is)
    (case c17 => k_is)
    (case k17 => k_is)
    (case a18 => k_is)
    (case l18 => k_is)
    (case c18 => k_is)
    (case k18 => k_is)
    (case a19 => k_is)
    (case l19 => k_is)
    (case c19 => k_is)
    (case k19 => k_is)
    (case a20 => k_is)
    (case l20 => k_is)
    (case c20 => k_is)
    (case k20 => k_is)
    (case a21 => k_is)
    (case l21 => k_is)
    (case c21 => k_is)
    (case k21 => k_is)
    (case a22 => k_is)
    (case l22 => k_is)
    (case c22 => k_is)
    (case k22 => k_is)
    (case a23 => k_is)
    (case l23 => k_is)
    (case c23 => k_is)
    (case k23 => k_is)
    (case n0 => k_is)
    (case n1 => k_is)
    (case n2 => k_is)
    (case n3 => k_is)
    (case z0 => k_is)
    (case z1 => k_is)
    (case z2 => k_is)
    (case z3 => k_is)
    (case z4 => k_is)
    (case z5 => k_is)
    (case z6 => k_is)
    (case z7 => k_is)
    (case z8 => k_is)
    (case z9 => k_is)
