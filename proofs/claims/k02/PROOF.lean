import PyProof.Rows.All
import Wide.All
import OpenK.AllK
import Wide.FinOn
import HandS.ForMost
import HandS.IsInst
import HandS.Wide
import KE.LtSeq
import HandS.TupLe
import HandS.RevRange
import HandS.NoneIn
import PySem.Challenge.RW_leastreasons_k02_cases_numbered
set_option exponentiation.threshold 2000
set_option Elab.async false
set_option linter.all false
set_option maxRecDepth 100000
set_option maxHeartbeats 8000000
namespace Lk
open PySem PySem.Spec PyProof.Rows L2
structure FnG (P : Program) (w : World) (K : PySem.W.Frag) (mg : Str → Option Value) (base : Heap) (CX : CXT)
    (k : Nat) (f : Addr) (fd : FuncData) (ps : List Str) (sp : Sp) : Prop where
  len : ∀ vs H Q E, sp vs H Q E → vs.length = ps.length
  run : ∀ (A : Around) (outer : List Env) (s : Shared) (H : Hp) (args : Args) (us : List Value) (vs : List V) (Q : VK) (E : XK),
    A.guards = some [] → Room k A → Env0 P w K mg base A outer s H → BindsTo s fd args (ps.zip us) → Vals vs us → sp vs H Q E →
    codeAny (model P w) A (.call (.ref f) args) (CR CX outer P w H s Q E) s
section
variable {P : Program} {w : World} {K : PySem.W.Frag} {mg : Str → Option Value} {base : Heap} {CX : CXT} {k : Nat} {f : Addr}
theorem FnG.mono {fd : FuncData} {ps : List Str} {sp : Sp} {j : Nat} (F : FnG P w K mg base CX j f fd ps sp) (h : j ≤ k) : FnG P w K mg base CX k f fd ps sp :=
  ⟨F.len, fun A outer s H args us vs Q E g r e b v z => F.run A outer s H args us vs Q E g (r.mono h) e b v z⟩
/-- a def by its body, which may use that no display runs further out -/
theorem fnG_of {name qual : Str} {params : Arguments} {body : List Stmt} {scope : Scope} {dV kV doc pm cdv ct oc : Value} {an od : Option Addr}
    {osl : Array (Option Value)} {N ps : List Str} {sp : Sp}
    (lk : K.lookup f = some ⟨oc, od, .func (PySem.W.fnOf name qual params body scope dV kV doc pm an cdv ct), osl⟩)
    (cd : PySem.W.codeIn K cdv qual = true) (S : FnScope N ps scope) (len : ∀ vs H Q E, sp vs H Q E → vs.length = ps.length)
    (bd : ∀ (A : Around) (outer : List Env) (s : Shared) (H : Hp) (vs : List V) (Q : VK) (E : XK), A.guards = some [] →
      Room k (A.deeper (envOfC qual scope s.heap.objs.size f cdv)) → sp vs H Q E →
      ∃ t, PSs (cxOf CX P w K mg base N qual scope f cdv A outer s H E) body t ∧ t { nx := fun _ H' => Q .non H', rt := Q } (start N vs) H) :
    FnG P w K mg base CX (k + 1) f (PySem.W.fnOf name qual params body scope dV kV doc pm an cdv ct) ps sp := by
  constructor
  · exact len
  intro A outer s H args us vs Q E hg rm env bnd rel prom
  have inK : K.In s.heap := env.mod.kin.keeps fun b o e => (env.bs b o e).1
  have noLim : s.heap.NoLimit := env.mod.nolimit.keeps fun b o e => (env.bs b o e).1
  refine codeAny_call_function rm.depth (inK _ _ lk) rfl S.co S.gen rfl (PySem.W.codeRec_of inK cd) (bnd _ _ _ _ ?_)
  refine wpAny_newFunctionEnv_cells S.kind ?kinds fun env' ee s1 x => ?_
  case kinds =>
    rintro ⟨n, v⟩ mem
    rcases S.par n (List.of_mem_zip mem).1 with z | z
    · exact Or.inl z
    · exact Or.inr ⟨z, PySem.W.cellsFrom_some _ _ _ (Or.inl z)⟩
  subst ee
  refine ⟨noLim.keeps x.toInCall.keep, codeAny_func ?_⟩
  obtain ⟨t, der, rd⟩ := bd A outer s H vs Q E hg (rm.deeper _) prom
  have I0 := inv_start (CX := CX) (E := E) S rm.hd env (len _ _ _ _ prom) rel x
  refine wpAny_mono (der.run [] s1 (start N vs) H _ I0 rd) (fun fl s' z => ?_) fun _ _ z => z
  cases fl with
  | ret u =>
    obtain ⟨v, _, H', J, rv, q⟩ := z
    exact ⟨v, H', J.os, J.bare, J.base, J.hok, rv, q⟩
  | next =>
    obtain ⟨_, H', J, q⟩ := z
    exact ⟨V.non, H', J.os, J.bare, J.base, J.hok, rfl, q⟩
  | brk => exact z.choose_spec.choose_spec.2.elim
  | cont => exact z.choose_spec.choose_spec.2.elim
end
/-- Fun.ok for guarded promises, no exception leaving -/
theorem Fun_okG {P : Program} {w : World} {K : PySem.W.Frag} {mg : Str → Option Value} {base : Heap} {x qual : Str} {st : Stmt} {f : Addr} {fd : FuncData}
    {N ps : List Str} {k : Nat} {sp : Sp} (F : Fun K x qual st f fd) (S : FnScope N ps (defScope st)) (len : ∀ vs H Q E, sp vs H Q E → vs.length = ps.length)
    (bd : ∀ (cdv : Value) (A : Around) (outer : List Env) (s : Shared) (H : Hp) (vs : List V) (Q : VK) (E : XK), A.guards = some [] →
      Room k (A.deeper (envOfC qual (defScope st) s.heap.objs.size f cdv)) → sp vs H Q E →
      ∃ t, PSs (cxOf CX0 P w K mg base N qual (defScope st) f cdv A outer s H E).nox (defBody st) t ∧ t { nx := fun _ H' => Q .non H', rt := Q } (start N vs) H) :
    FnG P w K mg base CX0 (k + 1) f fd ps sp := by
  obtain ⟨_, _, _, _, _, _, cdv, _, _, rfl, lk, hcd⟩ := F.ex
  refine fnG_of lk hcd S len fun A outer s H vs Q E hg hr z => ?_
  obtain ⟨t, d, q⟩ := bd cdv A outer s H vs Q E hg hr z
  exact ⟨t, d.nox, q⟩
section
variable {X : Cx} {CX : CXT} {k : Nat} {f : Addr} {fd : FuncData} {ps : List Str} {sp : Sp} {dvs : List V} {ds : List Value} {E : XK} {x : Str} {p pos : Pos} {e : Expr} {es : List Expr} {t : TA}
/-- a call of such a def, from a body that itself knows that no display runs -/
theorem pe_callG (hgd : X.A.guards = some []) (F : FnG X.prog X.w X.K X.mg X.base CX k f fd ps sp) (hr : Room k X.A) (hg : Gl X x) (hm : X.mg x = some (.ref f))
    (hk : PySem.W.keepIn X.K (.ref f) = true) (hb : Binds X.K fd ps ds) (hd : Vals dvs ds) (hx : Passes CX X E) (ha : PA X (e :: es) t)
    (hdb : (x == ("__debug__" : Str)) = false := by decide) (he : starEach (e :: es) X.env = (false, eval e X.env) :: starEach es X.env := by rfl)
    (hpl : (backTo pos (starEach es X.env)).any (·.1) = false := by rfl) : PE X (.Call (.Name x p) (e :: es) [] pos) (tCall sp dvs E t) := by
  constructor
  intro pins s σ H Q I h
  refine wpAny_Call_Name_kw (ld_glob I hg hm ?_ hdb)
  refine PySem.W.callWith_K (h₀ := X.base) I.ok.mod.kin hk (thn (ha.run pos pins s σ H _ I h) ?_) he hpl
  rintro us s1 ⟨vs, H1, I1, r, q⟩
  refine ⟨I1.kIn, ?_⟩
  have r2 := r.append hd
  have hl := r2.length.symm.trans (F.len _ _ _ _ q)
  refine wpAny_call (codeAny_mono (F.run X.A X.stack s1 H1 ⟨us, []⟩ (us ++ ds) (vs ++ dvs) Q E hgd hr I1.env0 (hb s1 us I1.kIn hl) r2 q) ?_)
  rintro (e' | fl) s' z
  · exact hx pins σ H1 s1 e' s' I1 z
  · cases fl with
    | ret u => exact I1.after z
    | next => exact z.elim
    | brk => exact z.elim
    | cont => exact z.elim
end
theorem law_callG {P : Program} {w : World} {K : PySem.W.Frag} {mg mb : Str → Option Value} {k : Nat} {fa a : Addr} {fd : FuncData} {x : Str} {sp : Sp} {s₁ : Shared} {vs : List Value} {ns : List Int}
    (KX : K.In s₁.heap) (hns : s₁.heap.Ns mainGlobals mg) (hb : s₁.heap.Ns builtinsNs mb) (hbb : ∀ x : Str, x ≠ "__name__" → mb x = bootBuiltins x) (hlim : s₁.heap.NoLimit)
    (hg : s₁.gens = #[]) (ha : s₁.heap.get? a = some { cls := .type "list", data := .seq vs.toArray }) (hi : IntsAre vs ns) (hl : ns.length ≤ sizeLine) (hr : Room k callerA)
    (F : ∀ base : Heap, K.In base → base.Ns mainGlobals mg → FnG P w K mg base CX0 k fa fd [x] sp) (bnd : ∀ (s : Shared) (u : Value), BindsTo s fd ⟨[u], []⟩ [(x, u)])
    (hsp : ∀ H : Hp, Only H → SqL K H a (ns.map V.int) → sp [.ref a] H (fun v _ => v = .bl true) fun _ _ _ => False) :
    codeAny (model P w) callerA (.call (.ref fa) ⟨[.ref a], []⟩) (fun r s' => r = .ok (.ret (.bool true)) ∧ OldK s₁.heap s'.heap ∧ s'.os = s₁.os ∧ AllBare s'.gens) s₁ := by
  have rel := vals_ints hi
  have obj : (⟨.type "list", none, .seq vs.toArray 0, #[]⟩ : Obj) = { cls := .type "list", data := .seq vs.toArray } := rfl
  suffices core : ∀ H : Hp, Only H → SqL K H a (ns.map V.int) → HOk P w H s₁.heap → (∀ b, H b ≠ none → b = a ∧ K.lookup a = none) →
      codeAny (model P w) callerA (.call (.ref fa) ⟨[.ref a], []⟩) (fun r s' => r = .ok (.ret (.bool true)) ∧ OldK s₁.heap s'.heap ∧ s'.os = s₁.os ∧ AllBare s'.gens) s₁ by
    cases hk : K.lookup a with
    | some o =>
      have e := KX a o hk
      rw [ha] at e
      cases e
      refine core (fun _ => none) (fun _ => Or.inl rfl) (Or.inr ⟨_, vs.toArray, _, hk, rfl, rfl, rfl, ?_, by simpa using rel⟩) (fun b u z => nomatch z) fun b z => absurd rfl z
      rw [List.size_toArray, hi.length]
      exact hl
    | none =>
      refine core (fun b => if b = a then some (.frz { cls := .type "list", data := .seq vs.toArray } (.lst (ns.map V.int))) else none) ?_ (Or.inl (Or.inr ⟨_, if_pos rfl⟩)) ?_ ?_
      · intro b
        by_cases q : b = a
        · exact Or.inr ⟨_, _, if_pos q⟩
        · exact Or.inl (if_neg q)
      · intro b u z
        by_cases q : b = a
        · subst q
          have z2 := (if_pos rfl).symm.trans z
          cases z2
          exact ⟨ha, by simpa using hl, vs, _, rel, ha⟩
        · exact nomatch (if_neg q).symm.trans z
      · intro b z
        by_cases q : b = a
        · exact ⟨q, hk⟩
        · exact absurd (if_neg q) z
  intro H only seq hok one
  have untr : ∀ {b : Addr} {m : Str → Option Value}, s₁.heap.Ns b m → (hidT s₁.heap H).Ns b m := by
    rintro b m ⟨o, es, ep, e, d, r⟩
    refine ⟨o, es, ep, hidT_get e ?_, d, r⟩
    by_cases q : H b = none
    · exact q
    · obtain ⟨rfl, _⟩ := one b q
      rw [ha] at e
      cases e
      exact absurd d (by simp)
  have inB : K.In (hidT s₁.heap H) := by
    intro b o e
    refine hidT_get (KX b o e) ?_
    by_cases q : H b = none
    · exact q
    · obtain ⟨rfl, z⟩ := one b q
      rw [z] at e
      cases e
  have modu : Mod K mg (hidT s₁.heap H) := ⟨inB, untr hns, ⟨mb, untr hb, hbb⟩, hlim.elim fun mc z => ⟨mc, untr z.1, z.2⟩⟩
  have env : Env0 P w K mg (hidT s₁.heap H) callerA [] s₁ H :=
    ⟨rfl, modu, fun _ _ e => of_hidT e, Nat.le_of_eq (hidT_size _ _), trivial, fun b z => absurd (show b ∈ ([] : List Addr) from z) (by simp), hok, .of_eq hg⟩
  refine codeAny_mono ((F _ inB (untr hns)).run callerA [] s₁ H ⟨[.ref a], []⟩ [.ref a] [.ref a] _ _ rfl hr env (bnd s₁ (.ref a)) (.cons rfl .nil) (hsp H only seq)) ?_
  rintro (e' | fl) s' z
  · exact z.elim
  cases fl with
  | next => exact z.elim
  | brk => exact z.elim
  | cont => exact z.elim
  | ret u =>
    obtain ⟨v, H', os, bare, un, ok', rv, rfl⟩ := z
    obtain rfl : u = Value.bool true := rv
    refine ⟨rfl, OldK.of_keep ?_, os, bare⟩
    intro b o e
    rcases only b with q | ⟨ob, xs, q⟩
    · exact un.keep b o e q (fun z => absurd (show b ∈ ([] : List Addr) from z) (by simp)) (by simp)
    · have q2 := (ok' b _ (un.frzs b ob _ q)).1
      have q1 := (hok b _ q).1
      rw [e] at q1
      cases q1
      exact q2
theorem walk_ofG {l : PySem.W.OpenLaw} {n k : Nat} {q : Program} {loose : List Str} {XP : (Str → Option Value) → Heap → Prop} {YP : World → Heap → Prop} {d : DefRec}
    {K : Params → PySem.W.Frag} {sp : World → Sp} {x : Str} (hn : l.most = some n) (hn2 : n ≤ sizeLine) (hdf : d.params.defaults = []) (hr : Room k callerA)
    (hY : ∀ (w : World) (h : Heap), YP w h → (K w.params).In h)
    (F : ∀ (w : World) (mg : Str → Option Value) (fa : Addr) (h : Heap), (K w.params).In h → h.Ns mainGlobals mg → mg d.name = some (.ref fa) →
      ∃ fd : FuncData, (∀ (s : Shared) (u : Value), BindsTo s fd ⟨[u], []⟩ [(x, u)]) ∧
        ∀ base : Heap, (K w.params).In base → base.Ns mainGlobals mg → FnG l.prog w (K w.params) mg base CX0 k fa fd [x] (sp w))
    (hsp : ∀ (w : World) (H : Hp) (a : Addr) (ns : List Int), ns.length ≤ n → Only H → SqL (K w.params) H a (ns.map V.int) → sp w [.ref a] H (fun v _ => v = .bl true) fun _ _ _ => False) :
    PySem.W.WalkO q loose XP YP l.row.toRowW d [] (fun f vs => PySem.call f vs) := by
  refine Att.attach_call hn hdf ?_
  intro w s₀ s₁ mg mb fa o pm cd doc a vs ns G Y _ _ _ hmg hobj hints hlen hg
  have KX := hY w _ Y
  obtain ⟨fd, hb, hF⟩ := F w mg fa _ KX G.T.g hmg
  exact law_callG KX G.T.g G.T.b G.T.builtins G.T.nolimit hg hobj hints (Nat.le_trans hlen hn2) hr hF hb fun H hO hS => hsp w H a ns hlen hO hS
section
variable {X : Cx}
theorem op_powN : OpR X (binaryOp .Pow) (rI (fun i j => 0 ≤ j ∧ (Builtin.Int.intBits i : Int) * j ≤ 2 ^ 27) fun i j => .int (i ^ j.toNat)) :=
  opI fun _ _ _ _ _ _ _ hc q => pow_int hc.1 hc.2 q
/-- repr of a list or tuple of data -/
theorem call_reprD (hg : X.A.guards = some []) (hu : X.A.units + 64 < cLine) : CallR X (.builtin "repr") (fun xs H Q =>
    ∃ a d, xs = [.ref a] ∧ Dp X.K H (.ref a) d ∧ d.showable = true ∧ d.hasDict = false ∧ d.depth + 1 ≤ 64 ∧ d.shown.length ≤ sizeLine ∧ Q (.str d.shown) H) := by
  intro pins s σ H xs us Q I r h
  obtain ⟨a, d, rfl, hd, hs, hn, hdp, hz, q⟩ := h
  obtain ⟨u, rfl, ru⟩ := vals1 r
  cases ru
  obtain ⟨as, rd⟩ := Dp.reads I d _ _ hd rfl
  exact repr_of_reads' rd hs (PyData.noDict_hsm hn) hg (by omega) (fun _ _ e => e) (fun h' u tk hk => ⟨.str d.shown, H, I.kept hk, ⟨_, rfl⟩, q⟩) hz
/-- repr of any data -/
theorem call_repr (hg : X.A.guards = some []) (hu : X.A.units + 64 < cLine) : CallR X (.builtin "repr") (fun xs H Q =>
    ∃ v d, xs = [v] ∧ Dp X.K H v d ∧ d.showable = true ∧ d.hasDict = false ∧ d.depth + 1 ≤ 64 ∧ d.shown.length ≤ sizeLine ∧ Q (.str d.shown) H) := by
  intro pins s σ H xs us Q I r h
  obtain ⟨v, d, rfl, hd, hs, hn, hdp, hz, q⟩ := h
  cases hd with
  | non =>
    obtain ⟨u, rfl, ru⟩ := vals1 r
    cases ru
    exact PySem.P.repr_of_none ⟨.str _, H, I.tok _, ⟨_, rfl⟩, q⟩
  | bl b =>
    obtain ⟨u, rfl, ru⟩ := vals1 r
    cases ru
    refine PySem.P.repr_of_bool ⟨.str _, H, I.tok _, ⟨_, rfl⟩, ?_⟩
    cases b <;> exact q
  | int i =>
    obtain ⟨u, rfl, t, rfl⟩ := vals1 r
    exact PySem.P.repr_of_int (of_decide_eq_true hs) ⟨.str _, H, I.tok _, ⟨_, rfl⟩, q⟩
  | str x =>
    obtain ⟨u, rfl, t, rfl⟩ := vals1 r
    exact PySem.P.repr_of_str ⟨.str _, H, I.tok _, ⟨_, rfl⟩, q⟩ hz
  | lst hs' ha => exact call_reprD hg hu pins s σ H _ us Q I r ⟨_, _, rfl, .lst hs' ha, hs, hn, hdp, hz, q⟩
  | tup hs' ha => exact call_reprD hg hu pins s σ H _ us Q I r ⟨_, _, rfl, .tup hs' ha, hs, hn, hdp, hz, q⟩
end
end Lk
namespace Lk
open PySem PySem.Spec PyProof.Rows L2
structure Ok (n w : Nat) (d : PyData) : Prop where
  sh : d.showable = true
  nd : d.hasDict = false
  dp : d.depth ≤ n
  cl : d.canLay0 = true
  lv : d.leavesShort 64 = true
  wt : d.weight ≤ w
namespace Ok
variable {n w n' w' L : Nat} {d : PyData} {ds : List PyData}
theorem mono (h : Ok n w d) (hn : n ≤ n') (hw : w ≤ w') : Ok n' w' d := ⟨h.sh, h.nd, Nat.le_trans h.dp hn, h.cl, h.lv, Nat.le_trans h.wt hw⟩
theorem shaped (h : Ok n w d) (hn : n ≤ 64) : SeqAt.shaped d = true := by
  unfold SeqAt.shaped
  rw [h.cl, decide_eq_true (Nat.le_trans h.dp hn)]
  rfl
theorem fits (h : Ok n w d) (hw : w ≤ 2 ^ 17) : d.shown.length ≤ sizeLine := by
  have a := PyData.shown_le 64 (by decide) d h.lv
  have b : (64 + 2) * d.weight ≤ 66 * 2 ^ 17 := Nat.mul_le_mul_left 66 (Nat.le_trans h.wt hw)
  have c : sizeLine = 2 ^ 24 := rfl
  omega
theorem none : Ok n w .none := ⟨rfl, rfl, Nat.zero_le _, rfl, rfl, Nat.zero_le _⟩
theorem bool (b : Bool) : Ok n w (.bool b) := ⟨rfl, rfl, Nat.zero_le _, rfl, rfl, Nat.zero_le _⟩
end Ok
def okAll (n w : Nat) (ds : List PyData) : Prop := ∀ d ∈ ds, Ok n w d
theorem okAll_facts {n w : Nat} : ∀ {ds : List PyData}, okAll n w ds → PyData.showableAll ds = true ∧ PyData.hasDictAll ds = false ∧ PyData.depthAll ds ≤ n ∧ PyData.canLayAll0 ds = true ∧ PyData.leavesShortAll 64 ds = true ∧ PyData.weightAll ds ≤ ds.length * (w + 1)
  | [], _ => ⟨rfl, rfl, Nat.zero_le _, rfl, rfl, Nat.zero_le _⟩
  | d :: ds, h => by
    have a := h d (List.mem_cons_self ..)
    obtain ⟨b1, b2, b3, b4, b5, b6⟩ := okAll_facts (ds := ds) fun x hx => h x (List.mem_cons_of_mem _ hx)
    refine ⟨?_, ?_, ?_, ?_, ?_, ?_⟩
    · show (d.showable && PyData.showableAll ds) = true
      rw [a.sh, b1]
      rfl
    · show (d.hasDict || PyData.hasDictAll ds) = false
      rw [a.nd, b2]
      rfl
    · show max d.depth (PyData.depthAll ds) ≤ n
      exact Nat.max_le.mpr ⟨a.dp, b3⟩
    · show (d.canLay0 && PyData.canLayAll0 ds) = true
      rw [a.cl, b4]
      rfl
    · show (d.leavesShort 64 && PyData.leavesShortAll 64 ds) = true
      rw [a.lv, b5]
      rfl
    · show d.weight + 1 + PyData.weightAll ds ≤ (ds.length + 1) * (w + 1)
      have := a.wt
      rw [Nat.succ_mul]
      omega
theorem Ok.list {n w L : Nat} {ds : List PyData} (h : okAll n w ds) (hl : ds.length ≤ L) : Ok (n + 1) (L * (w + 1)) (.list ds) := by
  obtain ⟨b1, b2, b3, b4, b5, b6⟩ := okAll_facts h
  refine ⟨b1, b2, ?_, b4, b5, ?_⟩
  · show PyData.depthAll ds + 1 ≤ n + 1
    omega
  · show PyData.weightAll ds ≤ _
    exact Nat.le_trans b6 (Nat.mul_le_mul_right _ hl)
theorem Ok.tuple {n w L : Nat} {ds : List PyData} (h : okAll n w ds) (hl : ds.length ≤ L) : Ok (n + 1) (L * (w + 1)) (.tuple ds) := by
  obtain ⟨b1, b2, b3, b4, b5, b6⟩ := okAll_facts h
  refine ⟨b1, b2, ?_, b4, b5, ?_⟩
  · show PyData.depthAll ds + 1 ≤ n + 1
    omega
  · show PyData.weightAll ds ≤ _
    exact Nat.le_trans b6 (Nat.mul_le_mul_right _ hl)
theorem Ok.int {n w : Nat} {i : Int} (h : i.natAbs < 2 ^ 30) (hw : 30 ≤ w) : Ok n w (.int i) := by
  have l : i.natAbs.log2 < 30 ∨ i.natAbs = 0 := by
    by_cases z : i.natAbs = 0
    · exact .inr z
    · exact .inl ((Nat.log2_lt z).mpr h)
  have l2 : i.natAbs.log2 < 1920 := by
    rcases l with l | l
    · omega
    · rw [l]
      decide
  refine ⟨decide_eq_true l2, rfl, Nat.zero_le _, rfl, ?_, ?_⟩
  · refine decide_eq_true (Nat.le_trans (PyData.shown_int_le (by omega)) (by decide))
  · show (if i == 0 then 0 else i.natAbs.log2 + 1) ≤ w
    split
    · exact Nat.zero_le _
    · rename_i hi
      rcases l with l | l
      · omega
      · exact absurd (by simpa using Int.natAbs_eq_zero.mp l) hi
theorem okAll.nil {n w : Nat} : okAll n w [] := fun _ h => nomatch h
theorem okAll.cons {n w : Nat} {d : PyData} {ds : List PyData} (h : Ok n w d) (t : okAll n w ds) : okAll n w (d :: ds) := fun x hx => by
  rcases List.mem_cons.mp hx with rfl | hx
  · exact h
  · exact t x hx
theorem okAll.append {n w : Nat} {ds es : List PyData} (h : okAll n w ds) (t : okAll n w es) : okAll n w (ds ++ es) := fun x hx => by
  rcases List.mem_append.mp hx with hx | hx
  · exact h x hx
  · exact t x hx
theorem okAll.mono {n w n' w' : Nat} {ds : List PyData} (h : okAll n w ds) (hn : n ≤ n') (hw : w ≤ w') : okAll n' w' ds := fun x hx => (h x hx).mono hn hw
theorem okAll.ints {n w : Nat} {ns : List Int} (h : ∀ i ∈ ns, i.natAbs < 2 ^ 30) (hw : 30 ≤ w) : okAll n w (ns.map PyData.int) := fun x hx => by
  obtain ⟨i, hi, rfl⟩ := List.mem_map.mp hx
  exact .int (h i hi) hw
mutual
theorem Dp.same {K : PySem.W.Frag} {H H' : Hp} (f : ∀ a xs, SqL K H a xs → SqL K H' a xs) (g : ∀ a xs, SqT K H a xs → SqT K H' a xs) : ∀ (d : PyData) {v : V}, Dp K H v d → Dp K H' v d
  | .none, _, h => by cases h; exact .non
  | .bool _, _, h => by cases h; exact .bl _
  | .int _, _, h => by cases h; exact .int _
  | .str _, _, h => by cases h; exact .str _
  | .list ds, _, h => by
    cases h with
    | lst hs ha => exact .lst (f _ _ hs) (DpAll.same f g ds ha)
  | .tuple ds, _, h => by
    cases h with
    | tup hs ha => exact .tup (g _ _ hs) (DpAll.same f g ds ha)
  | .dict _, _, h => by cases h
theorem DpAll.same {K : PySem.W.Frag} {H H' : Hp} (f : ∀ a xs, SqL K H a xs → SqL K H' a xs) (g : ∀ a xs, SqT K H a xs → SqT K H' a xs) : ∀ (ds : List PyData) {vs : List V}, DpAll K H vs ds → DpAll K H' vs ds
  | [], _, h => by cases h; exact .nil
  | d :: ds, _, h => by
    cases h with
    | cons h1 h2 => exact .cons (Dp.same f g d h1) (DpAll.same f g ds h2)
end
theorem Same.tup {K : PySem.W.Frag} {H H' : Hp} {a : Addr} {xs : List V} (e : Same H H') (h : SqT K H a xs) : SqT K H' a xs := by
  rcases h with (h | ⟨o, h⟩) | h
  · exact .inl (.inl (e _ _ h))
  · exact .inl (.inr ⟨o, e _ _ h⟩)
  · exact .inr h
theorem Dp.sm {K : PySem.W.Frag} {H H' : Hp} {d : PyData} {v : V} (s : Same H H') (h : Dp K H v d) : Dp K H' v d := Dp.same (fun _ _ => s.seq) (fun _ _ => Same.tup s) d h
theorem DpAll.sm {K : PySem.W.Frag} {H H' : Hp} {ds : List PyData} {vs : List V} (s : Same H H') (h : DpAll K H vs ds) : DpAll K H' vs ds := DpAll.same (fun _ _ => s.seq) (fun _ _ => Same.tup s) ds h
section
variable {K : PySem.W.Frag} {H : Hp}
theorem DpAll.length : ∀ {vs : List V} {ds : List PyData}, DpAll K H vs ds → vs.length = ds.length
  | _, [], h => by cases h; rfl
  | _, d :: ds, h => by
    cases h with
    | cons h1 h2 => rw [List.length_cons, List.length_cons, DpAll.length h2]
theorem DpAll.get : ∀ {vs : List V} {ds : List PyData} {i : Nat} {v : V}, DpAll K H vs ds → vs[i]? = some v → ∃ d, ds[i]? = some d ∧ Dp K H v d
  | _, [], i, v, h, e => by cases h; simp at e
  | _, d :: ds, 0, v, h, e => by
    cases h with
    | cons h1 h2 =>
      cases e
      exact ⟨d, rfl, h1⟩
  | _, d :: ds, i + 1, v, h, e => by
    cases h with
    | cons h1 h2 => exact DpAll.get (i := i) h2 (by simpa using e)
theorem DpAll.ints : ∀ (ns : List Int), DpAll K H (ns.map V.int) (ns.map PyData.int)
  | [] => .nil
  | _ :: ns => .cons (.int _) (DpAll.ints ns)
theorem DpAll.append : ∀ {vs ws : List V} {ds es : List PyData}, DpAll K H vs ds → DpAll K H ws es → DpAll K H (vs ++ ws) (ds ++ es)
  | _, _, [], _, h, t => by cases h; exact t
  | _, _, d :: ds, _, h, t => by
    cases h with
    | cons h1 h2 => exact .cons h1 (DpAll.append h2 t)
theorem DpAll.take : ∀ (n : Nat) {vs : List V} {ds : List PyData}, DpAll K H vs ds → DpAll K H (vs.take n) (ds.take n)
  | 0, _, _, _ => .nil
  | n + 1, _, [], h => by cases h; exact .nil
  | n + 1, _, d :: ds, h => by
    cases h with
    | cons h1 h2 => exact .cons h1 (DpAll.take n h2)
theorem DpAll.drop : ∀ (n : Nat) {vs : List V} {ds : List PyData}, DpAll K H vs ds → DpAll K H (vs.drop n) (ds.drop n)
  | 0, _, _, h => h
  | n + 1, _, [], h => by cases h; exact .nil
  | n + 1, _, d :: ds, h => by
    cases h with
    | cons h1 h2 => exact DpAll.drop n h2
end
def tyD : PyData → String
  | .none => "NoneType"
  | .bool _ => "bool"
  | .int _ => "int"
  | .str _ => "str"
  | .list _ => "list"
  | .tuple _ => "tuple"
  | .dict _ => "dict"
def isTy (T : String) (d : PyData) : Bool := tyD d == T || (T == "int" && tyD d == "bool")
theorem SqL.ty {K : PySem.W.Frag} {H : Hp} {a : Addr} {xs : List V} (h : SqL K H a xs) : TyX K H (.ref a) (.type "list") := by
  rcases h with (h | ⟨o, h⟩) | ⟨o, its, n, h1, h2, _⟩
  · exact .base (.lst h)
  · exact .base (.frz h)
  · exact .kList h1 h2
theorem SqT.ty {K : PySem.W.Frag} {H : Hp} {a : Addr} {xs : List V} (h : SqT K H a xs) : TyX K H (.ref a) (.type "tuple") := by
  rcases h with (h | ⟨o, h⟩) | ⟨o, its, n, h1, h2, _⟩
  · exact .base (.tup h)
  · exact .fTuple h
  · exact .kTuple h1 h2
theorem Dp.ty {K : PySem.W.Frag} {H : Hp} {v : V} {d : PyData} (h : Dp K H v d) : TyX K H v (.type (tyD d)) := by
  cases h with
  | non => exact .base .non
  | bl b => exact .base (.bl b)
  | int i => exact .base (.int i)
  | str x => exact .base (.str x)
  | lst hs _ => exact SqL.ty hs
  | tup hs _ => exact SqT.ty hs
theorem kit_names : ∀ a ∈ ["NoneType", "bool", "int", "str", "list", "tuple"], ∀ T ∈ ["int", "bool", "list", "tuple", "str"], kitB a T = some (a == T || (T == "int" && a == "bool")) := by decide +kernel
theorem Dp.kit {K : PySem.W.Frag} {H : Hp} {v : V} {d : PyData} (h : Dp K H v d) {T : String} (hT : T ∈ ["int", "bool", "list", "tuple", "str"]) : kitB (tyD d) T = some (isTy T d) := by
  refine kit_names (tyD d) ?_ T hT
  cases h <;> simp [tyD]
section
variable {X : Cx}
theorem call_isiD (T : String) (hT : T ∈ ["int", "bool", "list", "tuple", "str"] := by decide) : CallR X (.builtin "isinstance") (fun xs H Q => ∃ v d, xs = [v, .ty T] ∧ Dp X.K H v d ∧ Q (.bl (isTy T d)) H) := by
  intro pins s σ H xs us Q I r h
  obtain ⟨v, d, rfl, hd, q⟩ := h
  exact call_isi pins s σ H _ us Q I r ⟨v, .ty T, .type (tyD d), .type T, _, rfl, .ty T, Dp.ty hd, kit_ty (Dp.kit hd hT), q⟩
/-- the same within a comprehension, where X.K is K by computation -/
theorem call_isiDK {K : PySem.W.Frag} (T : String) (hK : X.K = K := by rfl) (hT : T ∈ ["int", "bool", "list", "tuple", "str"] := by decide) :
    CallR X (.builtin "isinstance") (fun xs H Q => ∃ v d, xs = [v, .ty T] ∧ Dp K H v d ∧ Q (.bl (isTy T d)) H) := by
  subst hK
  exact call_isiD T hT
end
end Lk
namespace Lk
open PySem PySem.Spec PyProof.Rows L2
section
variable {X : Cx} {CX : CXT} {k : Nat} {f : Addr} {fd : FuncData} {ps ks : List Str} {sp : Sp} {E : XK} {x : Str} {p pos : Pos} {kws : List Keyword} {tk : TA}
  {g : List Value → List Value → List Value} {gV : List V → List V → List V}
theorem pe_callK0 (F : FnOk X.prog X.w X.K X.mg X.base CX k f fd ps sp) (hr : Room k X.A) (hg : Gl X x) (hm : X.mg x = some (.ref f))
    (hk : PySem.W.keepIn X.K (.ref f) = true) (hb : KBinds X.K fd ps ks g gV) (hx : Passes CX X E) (hkw : PK X kws tk)
    (hall : (backToKw pos (keywordEach kws X.env)).all (·.1.isSome) = true := by rfl) (hks : (backToKw pos (keywordEach kws X.env)).filterMap (·.1) = ks := by rfl)
    (hdb : (x == ("__debug__" : Str)) = false := by decide)
    (hpl : ((backTo pos (starEach [] X.env)).any (·.1) || (backToKw pos (keywordEach kws X.env)).any (·.1.isNone)) = false := by rfl) :
    PE X (.Call (.Name x p) [] kws pos) (tCallK sp gV E tNil tk) := by
  constructor
  intro pins s σ H Q I h
  refine wpAny_Call_Name_kw (ld_glob I hg hm ?_ hdb)
  refine PySem.W.callWith_KW0 (h₀ := X.base) I.ok.mod.kin hk hall ?_ hpl
  refine thn (hkw.run pos pins s σ H _ I h) ?_
  rintro ws s2 ⟨zs, H2, I2, rz, q2⟩
  refine ⟨I2.kIn, ?_⟩
  rw [hks]
  exact run_fnk (us := []) (vs := []) F hr hb hx I2 .nil rz q2
end
def g1 {α : Type} : List α → List α → List α
  | [], [a] => [a]
  | _, _ => []
def g21 {α : Type} : List α → List α → List α
  | [], [a, b] => [b, a]
  | _, _ => []
section
variable {K : PySem.W.Frag} {x qual : Str} {st : Stmt} {f : Addr} {fd : FuncData} {n m l : Str}
theorem kb21 (F : Fun K x qual st f fd) (h : ∀ (kV doc pm : Value) (an : Option Addr) (cdv ct w w' : Value),
      bindArgs (PySem.W.fnOf x qual (defArgs st) (defBody st) (defScope st) .none kV doc pm an cdv ct) ⟨[], [(m, w'), (n, w)]⟩ = pure [(n, w), (m, w')]) : KBinds K fd [n, m] [m, n] g21 g21 := by
  obtain ⟨oc, od, kV, doc, pm, an, cdv, ct, osl, rfl, lk, hcd⟩ := F.ex
  constructor
  · intro s us ws _ hl
    match us, ws, hl with
    | [], [w', w], _ => exact .of_eq (h kV doc pm an cdv ct w w')
  · intro vs us zs ws r rz
    cases r with
    | nil =>
      cases rz with
      | nil => exact .nil
      | cons a t =>
        cases t with
        | nil => exact .nil
        | cons b t =>
          cases t with
          | nil => exact .cons b (.cons a .nil)
          | cons _ _ => exact .nil
    | cons _ _ => exact .nil
end
theorem new_of {H : Hp} {o : HO} {Q : V → Hp → Prop} (h : ∀ p H', Same H H' → H p = none → H' p = some o → Q (.ref p) H') : ∀ p, H p = none → Q (.ref p) (upd H p o) := fun p np => h p _ (fun b x e => by
  rw [upd_ne (ne_of_none e np)]
  exact e) np upd_same
mutual
theorem eqv_rfl : ∀ d : PyData, d.hasDict = false → PyData.eqv d d = true
  | .none, _ => rfl
  | .bool b, _ => by cases b <;> rfl
  | .int i, _ => by
    show (i == i) = true
    exact beq_self_eq_true i
  | .str x, _ => by
    show (x == x) = true
    exact beq_self_eq_true x
  | .list ds, h => eqvAll_rfl ds h
  | .tuple ds, h => eqvAll_rfl ds h
  | .dict _, h => by cases h
theorem eqvAll_rfl : ∀ ds : List PyData, PyData.hasDictAll ds = false → PyData.eqvAll ds ds = true
  | [], _ => rfl
  | d :: ds, h => by
    have h' : (d.hasDict || PyData.hasDictAll ds) = false := h
    rw [Bool.or_eq_false_iff] at h'
    show (PyData.eqv d d && PyData.eqvAll ds ds) = true
    rw [eqv_rfl d h'.1, eqvAll_rfl ds h'.2]
    rfl
end
def New (o : HO) (H : Hp) (Q : V → Hp → Prop) : Prop := ∀ p H', Same H H' → H p = none → H' p = some o → Q (.ref p) H'
section
variable {X : Cx} {es : List Expr} {t : TA} {pos : Pos}
def tLstN (t : TA) : TE := fun σ H Q => t σ H fun xs H1 => xs.length ≤ sizeLine ∧ New (.lst xs) H1 Q
def tTupN (t : TA) : TE := fun σ H Q => t σ H fun xs H1 => xs.length ≤ sizeLine ∧ New (.tup xs) H1 Q
theorem pe_lstN (h : PA X es t) : PE X (.List es pos) (tLstN t) := by
  constructor
  intro pins s σ H Q I hq
  refine wpAny_List_spliced (thn (h.run pos pins s σ H _ I hq) ?_)
  rintro us s1 ⟨xs, H1, I1, r, z, q⟩
  refine ⟨r.length ▸ z, ?_⟩
  have fresh : H1 s1.heap.objs.size = none := I1.hok.fresh (Nat.le_refl _)
  refine ⟨.ref s1.heap.objs.size, upd H1 s1.heap.objs.size (.lst xs), ?_, rfl, new_of q _ fresh⟩
  exact I1.laid (t' := s1.toks) (fun b u e => Heap.get?_push_of_some _ e) (Nat.le_refl _) ⟨z, us, 0, r, Heap.get?_push_size _ rfl⟩
theorem pe_tupN {x1} (h : PA X es t) : PE X (.Tuple es x1 pos) (tTupN t) := by
  constructor
  intro pins s σ H Q I hq
  refine wpAny_Tuple_spliced (thn (h.run pos pins s σ H _ I hq) ?_)
  rintro us s1 ⟨xs, H1, I1, r, z, q⟩
  refine ⟨r.length ▸ z, ?_⟩
  have fresh : H1 s1.heap.objs.size = none := I1.hok.fresh (Nat.le_refl _)
  refine ⟨.ref s1.heap.objs.size, upd H1 s1.heap.objs.size (.tup xs), ?_, rfl, new_of q _ fresh⟩
  exact I1.laid (t' := s1.toks) (fun b u e => Heap.get?_push_of_some _ e) (Nat.le_refl _) ⟨z, us, r, ⟨_, Heap.get?_push_size _ rfl, rfl, _, rfl⟩⟩
def rRepN : R2 := fun x y H Q => ∃ l k xs, x = .ref l ∧ y = .int k ∧ H l = some (.lst xs) ∧ -(2 ^ 63) ≤ k ∧ k < 2 ^ 63 ∧ xs.length * k.toNat ≤ sizeLine ∧ New (.lst (List.replicate k.toNat xs).flatten) H Q
theorem op_repN : OpR X (binaryOp .Mult) rRepN := by
  intro pins s σ H x y v u Q I rx ry h
  obtain ⟨l, k, xs, h1, h2, h3, h4, h5, h6, q⟩ := h
  exact op_rep pins s σ H x y v u Q I rx ry ⟨l, k, xs, h1, h2, h3, h4, h5, h6, new_of q⟩
theorem call_listN : CallR X (.type "list") (fun xs H Q => ∃ p ys, xs = [.ref p] ∧ (SqL X.K H p ys ∨ SqT X.K H p ys) ∧ New (.lst ys) H Q) := by
  intro pins s σ H xs us Q I r h
  obtain ⟨p, ys, h1, h2, q⟩ := h
  exact call_list_of pins s σ H xs us Q I r ⟨p, ys, h1, h2, new_of q⟩
end
end Lk
namespace Lk
open PySem PySem.Spec PyProof.Rows L2
def prodI : List Int → Int
  | [] => 1
  | n :: ns => n * prodI ns
def prodA (acc : Int) (ns : List Int) : Int := ns.foldl (· * ·) acc
theorem prodA_eq : ∀ (ns : List Int) (acc : Int), prodA acc ns = acc * prodI ns
  | [], acc => by show acc = acc * 1; omega
  | n :: ns, acc => by
    show prodA (acc * n) ns = acc * (n * prodI ns)
    rw [prodA_eq ns (acc * n), Int.mul_assoc]
theorem prodA_one (ns : List Int) : prodA 1 ns = prodI ns := by rw [prodA_eq, Int.one_mul]
def plI : List Int → List Int → Int
  | _ :: ss, v :: vs => v * prodI ss + plI ss vs
  | _, _ => 0
def RowI : List Int → List Int → Prop
  | [], [] => True
  | s :: ss, v :: vs => 0 ≤ v ∧ v < s ∧ RowI ss vs
  | _, _ => False
theorem RowI.len : ∀ {ns vs : List Int}, RowI ns vs → vs.length = ns.length
  | [], [], _ => rfl
  | _ :: _, _ :: _, h => by rw [List.length_cons, List.length_cons, RowI.len h.2.2]
  | [], _ :: _, h => h.elim
  | _ :: _, [], h => h.elim
theorem prodI_pos : ∀ {ns : List Int}, (∀ s ∈ ns, 0 < s) → 0 < prodI ns
  | [], _ => by decide
  | n :: ns, h => Int.mul_pos (h n (List.mem_cons_self ..)) (prodI_pos fun s hs => h s (List.mem_cons_of_mem _ hs))
theorem step_lt {v s a P : Int} (h1 : v < s) (h2 : a < P) (hP : 0 < P) : v * P + a < s * P := by
  have h : (v + 1) * P ≤ s * P := Int.mul_le_mul_of_nonneg_right (by omega) (by omega)
  rw [Int.add_mul, Int.one_mul] at h
  omega
theorem pl_bound : ∀ {ns vs : List Int}, RowI ns vs → 0 ≤ plI ns vs ∧ plI ns vs < prodI ns
  | [], [], _ => by decide
  | s :: ss, v :: vs, h => by
    have ih := pl_bound h.2.2
    have hP : 0 < prodI ss := by omega
    refine ⟨?_, ?_⟩
    · show 0 ≤ v * prodI ss + plI ss vs
      have := Int.mul_nonneg h.1 (Int.le_of_lt hP)
      omega
    · exact step_lt h.2.1 ih.2 hP
  | [], _ :: _, h => h.elim
  | _ :: _, [], h => h.elim
theorem digit_cmp {v w a b P : Int} (ha : 0 ≤ a) (ha' : a < P) (hb : 0 ≤ b) (hb' : b < P) (h : v * P + a < w * P + b) : v < w ∨ v = w ∧ a < b := by
  by_cases e : v < w
  · exact .inl e
  · by_cases e2 : v = w
    · subst e2
      exact .inr ⟨rfl, by omega⟩
    · have : w < v := by omega
      have := step_lt this hb' (by omega)
      omega
theorem digit_eq {v w a b P : Int} (ha : 0 ≤ a) (ha' : a < P) (hb : 0 ≤ b) (hb' : b < P) (h : v * P + a = w * P + b) : v = w ∧ a = b := by
  by_cases e : v < w
  · have := step_lt e ha' (by omega)
    omega
  · by_cases e2 : v = w
    · subst e2
      exact ⟨rfl, by omega⟩
    · have : w < v := by omega
      have := step_lt this hb' (by omega)
      omega
theorem pl_inj : ∀ {ns vs ws : List Int}, RowI ns vs → RowI ns ws → plI ns vs = plI ns ws → vs = ws
  | [], [], [], _, _, _ => rfl
  | s :: ss, v :: vs, w :: ws, h, g, e => by
    have b1 := pl_bound h.2.2
    have b2 := pl_bound g.2.2
    obtain ⟨rfl, e2⟩ := digit_eq b1.1 b1.2 b2.1 b2.2 (show v * prodI ss + plI ss vs = w * prodI ss + plI ss ws from e)
    rw [pl_inj h.2.2 g.2.2 e2]
  | [], _ :: _, _, h, _, _ => h.elim
  | [], [], _ :: _, _, g, _ => g.elim
  | _ :: _, [], _, h, _, _ => h.elim
  | _ :: _, _ :: _, [], _, g, _ => g.elim
def ltL : List Int → List Int → Bool
  | x :: xs, y :: ys => if x = y then ltL xs ys else decide (x < y)
  | [], _ :: _ => true
  | _, [] => false
theorem pl_lt : ∀ {ns vs ws : List Int}, RowI ns vs → RowI ns ws → plI ns vs < plI ns ws → ltL vs ws = true
  | [], [], [], _, _, e => absurd e (by decide)
  | s :: ss, v :: vs, w :: ws, h, g, e => by
    have b1 := pl_bound h.2.2
    have b2 := pl_bound g.2.2
    show (if v = w then ltL vs ws else decide (v < w)) = true
    rcases digit_cmp b1.1 b1.2 b2.1 b2.2 (show v * prodI ss + plI ss vs < w * prodI ss + plI ss ws from e) with q | ⟨rfl, q⟩
    · rw [if_neg (by omega), decide_eq_true q]
    · rw [if_pos rfl]
      exact pl_lt h.2.2 g.2.2 q
  | [], _ :: _, _, h, _, _ => h.elim
  | [], [], _ :: _, _, g, _ => g.elim
  | _ :: _, [], _, h, _, _ => h.elim
  | _ :: _, _ :: _, [], _, g, _ => g.elim
theorem firstLt_map {e r : Nat → Bool} {fin : Bool} : ∀ l : List Nat, SeqAt.firstLt e r fin (l.map Nat.succ) = SeqAt.firstLt (fun j => e (j + 1)) (fun j => r (j + 1)) fin l
  | [] => rfl
  | j :: l => by
    show (if e (j + 1) = true then SeqAt.firstLt e r fin (l.map Nat.succ) else r (j + 1)) = _
    rw [firstLt_map l]
    rfl
theorem firstLt_ltL : ∀ (xs ys : List Int), SeqAt.firstLt (fun j => decide (xs.getD j 0 = ys.getD j 0)) (fun j => decide (xs.getD j 0 < ys.getD j 0)) (decide (xs.length < ys.length)) (List.range (min xs.length ys.length)) = ltL xs ys
  | [], [] => rfl
  | [], _ :: _ => by
    show decide _ = true
    rw [List.length_nil, List.length_cons, decide_eq_true (by omega)]
  | _ :: _, [] => by
    show decide _ = false
    rw [List.length_nil, List.length_cons, decide_eq_false (by omega)]
  | x :: xs, y :: ys => by
    rw [List.length_cons, List.length_cons, show min (xs.length + 1) (ys.length + 1) = min xs.length ys.length + 1 by omega, List.range_succ_eq_map]
    show (if decide (x = y) = true then SeqAt.firstLt _ _ _ ((List.range (min xs.length ys.length)).map Nat.succ) else decide (x < y)) = (if x = y then ltL xs ys else decide (x < y))
    rw [firstLt_map, ← firstLt_ltL xs ys]
    by_cases q : x = y
    · rw [decide_eq_true q, if_pos rfl, if_pos q]
      simp only [List.getD_cons_succ, Nat.add_lt_add_iff_right]
    · rw [decide_eq_false q, if_neg Bool.false_ne_true, if_neg q]
theorem op_ltL {X : Cx} (hu : X.A.units < cLine) : OpR X (compareOp .Lt) (fun x y H Q => ∃ (a b : Addr) (ns ms : List Int), x = .ref a ∧ y = .ref b ∧ SqL X.K H a (ns.map V.int) ∧ SqL X.K H b (ms.map V.int) ∧ Q (.bl (ltL ns ms)) H) := by
  intro pins s σ H x y v u Q I rx ry h
  obtain ⟨a, b, ns, ms, rfl, rfl, ha, hb, q⟩ := h
  cases rx
  cases ry
  obtain ⟨its, r1, p1, _⟩ := I.list ha
  obtain ⟨its2, r2, p2, _⟩ := I.list hb
  have i1 : IntsAre its ns := Vals.ints r1
  have i2 : IntsAre its2 ms := Vals.ints r2
  have z1 : its.toArray.size = ns.length := List.size_toArray ▸ i1.length
  have z2 : its2.toArray.size = ms.length := List.size_toArray ▸ i2.length
  have g1 : ∀ j (h1 : j < its.toArray.size), ∃ t, its.toArray[j] = .int (ns.getD j 0) t := fun j h1 => PyProof.Rows.IntsAre.int_at i1 _ _ (by simp at h1; simp [h1])
  have g2 : ∀ j (h1 : j < its2.toArray.size), ∃ t, its2.toArray[j] = .int (ms.getD j 0) t := fun j h1 => PyProof.Rows.IntsAre.int_at i2 _ _ (by simp at h1; simp [h1])
  have R := SeqAt.RcLt.lists (A := X.A) (s := s) (e := fun j => decide (ns.getD j 0 = ms.getD j 0)) (r := fun j => decide (ns.getD j 0 < ms.getD j 0)) p1.isList p2.isList hu ?eq ?lt
  · rw [z1, z2, firstLt_ltL] at R
    exact R X.prog X.w X.xe (EP X pins σ Q) ⟨.bl _, H, I, rfl, q⟩
  case eq =>
    intro j h1 h2
    obtain ⟨t, et⟩ := g1 j h1
    obtain ⟨t', et'⟩ := g2 j h2
    rw [et, et', show decide (ns.getD j 0 = ms.getD j 0) = (ns.getD j 0 == ms.getD j 0) by
      by_cases q : ns.getD j 0 = ms.getD j 0
      · rw [decide_eq_true q, beq_iff_eq.mpr q]
      · rw [decide_eq_false q, beq_eq_false_iff_ne.mpr q]]
    exact SeqAt.EqAt.int_int _ _ _ _
  case lt =>
    intro j h1 h2 _
    obtain ⟨t, et⟩ := g1 j h1
    obtain ⟨t', et'⟩ := g2 j h2
    rw [et, et']
    exact fun prog w E Q z => PyProof.Rows.lt_int z
end Lk
namespace Lk
open PySem PySem.Spec PyProof.Rows L2
def top (i : Nat) : Stmt := PySem.Challenge.pw_leastreasons_k02_cases_numbered.main.body.getD i (.Pass ⟨0, 0, 0, 0⟩)
abbrev sDeck : Stmt := top 24
abbrev sTake : Stmt := top 25
theorem scDeck : FnScope ["script", "seed", "cell"] ["script"] (defScope sDeck) := ⟨rfl, rfl, rfl, by decide +kernel, rfl, by decide +kernel, by decide +kernel⟩
/-- the deck at p, its cells at c -/
def DeckAt (H : Hp) (p c : Addr) : Prop := ∃ (cells : List Int) (pos : Nat) (seed extra : Int),
  H p = some (.lst [.ref c, .int pos, .int seed, .int extra]) ∧ H c = some (.lst (cells.map V.int)) ∧ cells.length ≤ 63 ∧ (∀ z ∈ cells, 0 ≤ z) ∧ 0 ≤ seed ∧ seed < 2147483647
theorem same_upd {H : Hp} {p : Addr} {o : HO} (h : H p = none) : Same H (upd H p o) := fun b x e => by
  rw [upd_ne (ne_of_none e h)]
  exact e
theorem upd_id {H : Hp} {p : Addr} {o : HO} (h : H p = some o) : upd H p o = H := by
  funext b
  by_cases e : b = p
  · rw [e, upd_same, h]
  · rw [upd_ne e]
theorem cut_up {xs : List V} {n : Nat} (h : xs.length ≤ n) : cutV xs none (some (n : Int)) = xs := by
  unfold cutV
  rw [HT.sIx_none, HT.sIx_nat, Nat.min_eq_right h]
  show List.take (xs.length - 0) xs = xs
  exact List.take_length
section
variable {P : Program} {w : World} {K : PySem.W.Frag} {mg : Str → Option Value} {base : Heap}
def spDeck (K : PySem.W.Frag) : Sp := fun vs H Q _ => ∃ (a : Addr) (ns : List Int), vs = [.ref a] ∧ SqL K H a (ns.map V.int) ∧ ns.length ≤ 63 ∧
  ∀ H' p c, Same H H' → H p = none → H c = none → DeckAt H' p c → Q (.ref p) H'
theorem ok_deck {f : Addr} {fd : FuncData} {k : Nat} (F : Fun K "_law_deck" "_law_deck" sDeck f fd) (mi : mg "int" = none) (ma : mg "abs" = none) : FnOk P w K mg base CX0 (k + 1) f fd ["script"] (spDeck K) := by
  refine F.ok scDeck (fun vs H Q E h => ?_) (fun cdv A outer s H vs Q E hr h => ?_)
  · obtain ⟨a, ns, rfl, _⟩ := h
    rfl
  · obtain ⟨a, ns, rfl, hS, hlen, q⟩ := h
    refine ⟨_, pss_cons (ps_set (i := 1) scDeck.nd rfl (.inl rfl) pe_int)
      (pss_cons (ps_for PassesOwn.never rfl (pi_list (pe_slice sl_list (pv 0) po_none (po_some pe_int))) (pg_name (i := 2) scDeck.nd rfl (.inl rfl))
        (pss_one (ps_set (i := 1) scDeck.nd rfl (.inl rfl) (pe_op op_mod (pe_callTy call_int1 (by rfl) mi (by decide +kernel) (pa_cons (pe_op op_add (pe_op op_add (pe_op op_mul (pv 1) pe_int)
          (pe_op op_mod (pe_callTy call_int1 (by rfl) mi (by decide +kernel) (pa_cons (pv 2) pa_nil)) pe_int)) pe_int) pa_nil)) pe_int))))
      (pss_one (ps_ret (pe_lst (pa_cons (pe_lc (own := [("cell", 2)]) (g := gName 2) (tt := tYes) rfl scDeck.nd (pi_list (pe_slice sl_list (pv 0) po_none (po_some pe_int)))
            (blkOk_by (own := [("cell", 2)]) (N := ["script", "seed", "cell"]) (sc := defScope sDeck) (by decide +kernel)) (fun _ _ _ _ _ => pg_name (i := 2) scDeck.nd rfl (Or.inl rfl)) (fun _ _ _ _ _ => pts_nil)
            (fun _ _ _ _ _ => pe_op op_mod (pe_callTy call_int1 (by rfl) mi (by decide +kernel) (pa_cons (pe_callB call_abs (by rfl) ma (by decide +kernel) (pa_cons (pv 2) pa_nil)) pa_nil)) (pe_op op_powN (pe_op op_powN pe_int pe_int) pe_int)))
          (pa_cons pe_int (pa_cons (pv 1) (pa_cons pe_int pa_nil)))))))), ?_⟩
    have hlV : (ns.map V.int).length ≤ 63 := by
      rw [List.length_map]
      exact hlen
    refine ⟨_, rfl, 63, rfl, a, ns.map V.int, rfl, hS, fun c1 nc1 => ?_⟩
    have s1 := same_upd (o := .lst (cutV (ns.map V.int) none (some 63))) nc1
    rw [show cutV (ns.map V.int) none (some 63) = ns.map V.int from cut_up hlV] at s1 ⊢
    have hL : SqL K (upd H c1 (.lst (ns.map V.int))) c1 (ns.map V.int) := .inl (.inl upd_same)
    refine ⟨c1, rfl, ⟨_, hL⟩, for_list (K := K) (a := c1) (xs := ns.map V.int) (fun i σ H' => ∃ (z : Int) (y : Option V), σ = [some (.ref a), some (.int z), y] ∧ H' = upd H c1 (.lst (ns.map V.int)) ∧ 0 ≤ z ∧ z < 2147483647)
      ⟨40009, none, rfl, rfl, by decide, by decide⟩ (fun i σ H' _ ⟨_, _, _, e, _⟩ => by rw [e]; exact hL) ?_ ?_⟩
    · rintro i v σ H' hi ⟨z, y, rfl, rfl, z0, z1⟩
      obtain ⟨n, rfl⟩ : ∃ n, v = V.int n := by
        obtain ⟨n, _, e⟩ := List.mem_map.mp (List.mem_of_getElem? hi)
        exact ⟨n, e.symm⟩
      refine ⟨_, rfl, z, 62089911, rfl, rfl, .inr ⟨by decide, by decide⟩, _, rfl, .inl ⟨n, rfl, n, 2147483629, rfl, rfl, (by show (0 : Int) < 2147483629; decide), _, _, rfl, rfl, _, _, rfl, rfl, .inl ⟨_, rfl, ?_⟩⟩⟩
      refine ⟨_, 2147483647, rfl, rfl, (by show (0 : Int) < 2147483647; decide), _, _, rfl, rfl, Int.emod_nonneg _ (by decide), Int.emod_lt_of_pos _ (by decide)⟩
    · rintro σ H' ⟨z, y, rfl, rfl, z0, z1⟩
      refine ⟨_, rfl, 63, rfl, a, ns.map V.int, rfl, s1.seq hS, fun c2 nc2 => ?_⟩
      have s2 := same_upd (o := .lst (cutV (ns.map V.int) none (some 63))) nc2
      rw [show cutV (ns.map V.int) none (some 63) = ns.map V.int from cut_up hlV] at s2 ⊢
      have hL2 : SqL K (upd (upd H c1 (.lst (ns.map V.int))) c2 (.lst (ns.map V.int))) c2 (ns.map V.int) := .inl (.inl upd_same)
      refine ⟨c2, rfl, ⟨_, hL2⟩, fun D nD => ?_⟩
      have s3 := same_upd (o := .lst []) nD
      refine lc_list (K := K) (a := c2) (xs := ns.map V.int) (fun i H' => ∃ ms : List Int, ms.length = i ∧ (∀ z ∈ ms, 0 ≤ z) ∧ Same (upd (upd H c1 (.lst (ns.map V.int))) c2 (.lst (ns.map V.int))) H' ∧ H' D = some (.lst (ms.map V.int)))
        ⟨[], rfl, fun _ h => (nomatch h), s3, upd_same⟩ (fun i H' _ ⟨_, _, _, sm, _⟩ => sm.seq hL2) ?_ ?_
      · rintro i v H' hi ⟨ms, el, nn, sm, eD⟩
        obtain ⟨n, rfl⟩ : ∃ n, v = V.int n := by
          obtain ⟨n, _, e⟩ := List.mem_map.mp (List.mem_of_getElem? hi)
          exact ⟨n, e.symm⟩
        have hi2 : i < 63 := Nat.lt_of_lt_of_le (List.getElem?_eq_some_iff.mp hi).1 hlV
        refine ⟨rfl, ?_⟩
        refine ⟨_, rfl, n, rfl, .inl ⟨_, rfl, ?_⟩⟩
        refine ⟨10, 60, rfl, rfl, ⟨by decide, by decide⟩, 10 ^ 60, 10, rfl, rfl, ⟨by decide, by decide +kernel⟩, _, _, rfl, rfl, (by show (0 : Int) < (10 ^ 60) ^ Int.toNat 10; decide +kernel), ?_⟩
        refine ⟨ms.map V.int, eD, ?_, ms ++ [(if n < 0 then -n else n) % ((10 ^ 60) ^ Int.toNat 10)], ?_, ?_, ?_, ?_⟩
        · rw [List.length_map, el]
          exact small1000 (by omega)
        · rw [List.length_append, el]
          rfl
        · intro z hz
          rcases List.mem_append.mp hz with hz | hz
          · exact nn z hz
          · rw [List.mem_singleton.mp hz]
            exact Int.emod_nonneg _ (by decide +kernel)
        · intro b o e
          have nb : b ≠ D := ne_of_none e nD
          rw [upd_ne nb]
          exact sm b o e
        · rw [upd_same, List.map_append]
          rfl
      · rintro H' ⟨ms, el, nn, sm, eD⟩
        refine ⟨_, rfl, (by show 4 ≤ sizeLine; decide), fun p np => ?_⟩
        have nDp : D ≠ p := ne_of_none eD np
        have nD0 : H D = none := (s1.trans s2).free nD
        refine q _ p D (((s1.trans s2).trans sm).trans (same_upd np)) (((s1.trans s2).trans sm).free np) nD0 ⟨ms, 0, z, 0, upd_same, ?_, ?_, nn, z0, z1⟩
        · rw [upd_ne nDp]
          exact eD
        · rw [el]
          exact hlV
theorem scTake : FnScope ["deck", "wide", "left", "mixed"] ["deck", "wide"] (defScope sTake) := ⟨rfl, rfl, rfl, by decide +kernel, rfl, by decide +kernel, by decide +kernel⟩
/-- all but the deck's two lists is as it was -/
def Kept (p c : Addr) (H H' : Hp) : Prop := ∀ b o, b ≠ p → b ≠ c → H b = some o → H' b = some o
def spTake : Sp := fun vs H Q _ => ∃ (p c : Addr) (wide : Int), vs = [.ref p, .int wide] ∧ DeckAt H p c ∧ 0 < wide ∧ wide.natAbs.log2 < 9000 ∧
  ∀ H' r, Kept p c H H' → DeckAt H' p c → 0 ≤ r → r < wide → (∀ b, H' b = none → H b = none) → Q (.int r) H'
theorem ok_take {f : Addr} {fd : FuncData} {k : Nat} (F : Fun K "_law_take" "_law_take" sTake f fd) (mi : mg "int" = none) (ml : mg "len" = none) : FnOk P w K mg base CX0 (k + 1) f fd ["deck", "wide"] spTake := by
  refine F.ok scTake (fun vs H Q E h => ?_) (fun cdv A outer s H vs Q E hr h => ?_)
  · obtain ⟨a, c, w, rfl, _⟩ := h
    rfl
  · obtain ⟨p, c, wide, rfl, hD, w0, w1, q⟩ := h
    refine ⟨_, pss_cons (ps_while PassesOwn.never (PW.pt (pw_and (pt_cmpR op_lt (pe_ix ix_list (pv 0) pe_int (fun _ _ => rfl)) (pe_callB call_len_seq (by rfl) ml PySem.boot_len (pa_cons (pe_ix ix_list (pv 0) pe_int (fun _ _ => rfl)) pa_nil)) (nomark _))
          (pw_and1 (pt_cmpR op_eq (pe_ix ix_list (pe_ix ix_list (pv 0) pe_int (fun _ _ => rfl)) (pe_ix ix_list (pv 0) pe_int (fun _ _ => rfl)) (fun _ _ => rfl)) pe_int (nomark _)))))
        (pss_one (ps_asg (pe_op op_add (pe_ix ix_list (pv 0) pe_int (fun _ _ => rfl)) pe_int) (pg_sub (pv 0) pe_int set_list))))
      (pss_cons (ps_if (pt_cmpR op_lt (pe_ix ix_list (pv 0) pe_int (fun _ _ => rfl)) (pe_callB call_len_seq (by rfl) ml PySem.boot_len (pa_cons (pe_ix ix_list (pv 0) pe_int (fun _ _ => rfl)) pa_nil)) (nomark _))
          (pss_cons (ps_set (i := 2) scTake.nd rfl (.inl rfl) (pe_ix ix_list (pe_ix ix_list (pv 0) pe_int (fun _ _ => rfl)) (pe_ix ix_list (pv 0) pe_int (fun _ _ => rfl)) (fun _ _ => rfl)))
          (pss_cons (ps_asg (pe_op op_fdivW (pv 2) (pv 1)) (pg_sub (pe_ix ix_list (pv 0) pe_int (fun _ _ => rfl)) (pe_ix ix_list (pv 0) pe_int (fun _ _ => rfl)) set_list))
          (pss_one (ps_ret (pe_op op_mod (pe_callTy call_int1 (by rfl) mi (by decide +kernel) (pa_cons (pv 2) pa_nil)) (pv 1)))))) pss_nil)
      (pss_cons (ps_asg (pe_op op_add (pe_ix ix_list (pv 0) pe_int (fun _ _ => rfl)) pe_int) (pg_sub (pv 0) pe_int set_list))
      (pss_cons (ps_set (i := 3) scTake.nd rfl (.inl rfl) (pe_op op_add (pe_op op_add (pe_op op_add (pe_op op_pow (pe_ix ix_list (pv 0) pe_int (fun _ _ => rfl)) pe_int) (pe_op op_mul pe_int (pe_ix ix_list (pv 0) pe_int (fun _ _ => rfl))))
          (pe_op op_mul pe_int (pe_ix ix_list (pv 0) pe_int (fun _ _ => rfl)))) pe_int))
      (pss_cons (ps_asg (pe_op op_mod (pe_callTy call_int1 (by rfl) mi (by decide +kernel) (pa_cons (pv 3) pa_nil)) pe_int) (pg_sub (pv 0) pe_int set_list))
      (pss_one (ps_ret (pe_op op_mod (pe_op op_fdiv (pe_callTy call_int1 (by rfl) mi (by decide +kernel) (pa_cons (pe_op op_add (pe_op op_mul (pe_ix ix_list (pv 0) pe_int (fun _ _ => rfl)) (pe_ix ix_list (pv 0) pe_int (fun _ _ => rfl)))
          (pe_op op_fdiv (pe_ix ix_list (pv 0) pe_int (fun _ _ => rfl)) pe_int)) pa_nil)) pe_int) (pv 1)))))))), ?_⟩
    obtain ⟨cells, pos, seed, extra, hp, hc, hl, hn, hs0, hs1⟩ := hD
    have ncp : c ≠ p := fun e => by
      rw [e, hp] at hc
      have e2 := HO.lst.inj (Option.some.inj hc)
      cases cells with
      | nil => cases e2
      | cons z r => cases (List.cons.inj e2).1
    refine ⟨fun m σ H' => ∃ (pos : Nat), σ = [some (.ref p), some (.int wide), none, none] ∧ H' = upd H p (.lst [.ref c, .int pos, .int seed, .int extra]) ∧ m = cells.length - pos,
      ⟨_, pos, rfl, (upd_id hp).symm, rfl⟩, ?_⟩
    rintro m σ H' ⟨pos, rfl, rfl, rfl⟩
    clear hp
    have qp : SqL K (upd H p (.lst [.ref c, .int pos, .int seed, .int extra])) p [.ref c, .int pos, .int seed, .int extra] := .inl (.inl upd_same)
    have hcc : (upd H p (.lst [.ref c, .int pos, .int seed, .int extra])) c = some (.lst (cells.map V.int)) := by
      rw [upd_ne ncp]
      exact hc
    have qc : SqL K (upd H p (.lst [.ref c, .int pos, .int seed, .int extra])) c (cells.map V.int) := .inl (.inl hcc)
    have fre : ∀ (o o' : HO) b, upd (upd H p o) c o' b = none → H b = none := fun o o' b h => by
      by_cases e1 : b = c
      · rw [e1, upd_same] at h
        cases h
      · rw [upd_ne e1] at h
        by_cases e2 : b = p
        · rw [e2, upd_same] at h
          cases h
        · rw [upd_ne e2] at h
          exact h
    have fre1 : ∀ (o : HO) b, upd H p o b = none → H b = none := fun o b h => by
      by_cases e2 : b = p
      · rw [e2, upd_same] at h
        cases h
      · rw [upd_ne e2] at h
        exact h
    have hlen : (((cells.map V.int).length : Nat) : Int) = (cells.length : Int) := by rw [List.length_map]
    refine ⟨_, rfl, p, _, 1, .int pos, rfl, rfl, qp, atI_nat (j := 1) rfl, _, rfl, p, _, 0, .ref c, rfl, rfl, qp, atI_nat (j := 0) rfl, c, _, rfl, .inl qc, _, _, rfl, rfl, _, rfl, ?_⟩
    refine ite2 (fun e1 => ?_) (fun e1 => ?_)
    · have lt : pos < cells.length := by
        have z := of_decide_eq_true e1
        rw [hlen] at z
        omega
      have hg : (cells.map V.int)[pos]? = some (.int cells[pos]) := by
        rw [List.getElem?_map, List.getElem?_eq_getElem lt]
        rfl
      refine ⟨_, rfl, p, _, 0, .ref c, rfl, rfl, qp, atI_nat (j := 0) rfl, _, rfl, p, _, 1, .int pos, rfl, rfl, qp, atI_nat (j := 1) rfl, c, _, pos, _, rfl, rfl, qc, atI_nat hg, rfl, _, rfl, ?_⟩
      refine ite2 (fun e2 => ?_) (fun e2 => ?_)
      · refine ⟨fun σ' H' => σ' = [some (.ref p), some (.int wide), none, none] ∧ H' = upd H p (.lst [.ref c, .int ((pos + 1 : Nat) : Int), .int seed, .int extra]),
          fun σ' H' ⟨a1, a2⟩ => ⟨cells.length - (pos + 1), by omega, pos + 1, a1, a2, rfl⟩, ?_⟩
        refine ⟨_, rfl, p, _, 1, .int pos, rfl, rfl, qp, atI_nat (j := 1) rfl, _, _, rfl, rfl, _, rfl, p, _, 1, 1, rfl, rfl, upd_same, rfl, rfl, ?_⟩
        rw [upd_upd]
        rfl
      · refine ⟨_, rfl, p, _, 1, .int pos, rfl, rfl, qp, atI_nat (j := 1) rfl, _, rfl, p, _, 0, .ref c, rfl, rfl, qp, atI_nat (j := 0) rfl, c, _, rfl, .inl qc, _, _, rfl, rfl, _, rfl, ?_⟩
        refine ite2 (fun e3 => ?_) (fun e3 => absurd e1 e3)
        refine ⟨_, rfl, p, _, 0, .ref c, rfl, rfl, qp, atI_nat (j := 0) rfl, _, rfl, p, _, 1, .int pos, rfl, rfl, qp, atI_nat (j := 1) rfl, c, _, pos, _, rfl, rfl, qc, atI_nat hg, ?_⟩
        refine ⟨_, rfl, _, rfl, _, _, rfl, rfl, ⟨w0, w1⟩, ?_⟩
        refine ⟨_, rfl, p, _, 0, .ref c, rfl, rfl, qp, atI_nat (j := 0) rfl, _, rfl, p, _, 1, .int pos, rfl, rfl, qp, atI_nat (j := 1) rfl, c, _, pos, pos, rfl, rfl, hcc, ?_, ?_⟩
        · unfold ixN
          rw [if_pos (by omega), if_pos (by rw [hlen]; omega)]
          rfl
        refine ⟨_, rfl, .inl ⟨_, rfl, _, rfl, _, _, rfl, rfl, w0, ?_⟩⟩
        have nn : 0 ≤ cells[pos] := hn _ (List.getElem_mem lt)
        refine q _ _ (fun b o n1 n2 e => ?_) ⟨cells.set pos (cells[pos] / wide), pos, seed, extra, ?_, ?_, ?_, ?_, hs0, hs1⟩ (Int.emod_nonneg _ (by omega)) (Int.emod_lt_of_pos _ w0) (fre _ _)
        · rw [upd_ne n2, upd_ne n1]
          exact e
        · rw [upd_ne ncp.symm, upd_same]
        · rw [upd_same, List.map_set]
        · rw [List.length_set]
          exact hl
        · intro z hz
          rcases List.mem_or_eq_of_mem_set hz with h | h
          · exact hn z h
          · rw [h]
            exact Int.ediv_nonneg nn (by omega)
    · refine ⟨_, rfl, p, _, 1, .int pos, rfl, rfl, qp, atI_nat (j := 1) rfl, _, rfl, p, _, 0, .ref c, rfl, rfl, qp, atI_nat (j := 0) rfl, c, _, rfl, .inl qc, _, _, rfl, rfl, _, rfl, ?_⟩
      refine ite2 (fun e3 => absurd e3 e1) (fun e3 => ?_)
      refine ⟨_, rfl, p, _, 3, .int extra, rfl, rfl, qp, atI_nat (j := 3) rfl, _, _, rfl, rfl, _, rfl, p, _, 3, 3, rfl, rfl, upd_same, rfl, ?_⟩
      rw [upd_upd]
      have q2 : SqL K (upd H p (.lst [.ref c, .int pos, .int seed, .int (extra + 1)])) p [.ref c, .int pos, .int seed, .int (extra + 1)] := .inl (.inl upd_same)
      refine ⟨_, rfl, p, _, 2, .int seed, rfl, rfl, q2, atI_nat (j := 2) rfl, seed, 3, rfl, rfl, ⟨by decide, by decide, by omega⟩, _, rfl, p, _, 2, .int seed, rfl, rfl, q2, atI_nat (j := 2) rfl, 69997, seed, rfl, rfl, .inl ⟨by decide, by decide⟩,
        _, _, rfl, rfl, _, rfl, p, _, 3, .int (extra + 1), rfl, rfl, q2, atI_nat (j := 3) rfl, 1009, _, rfl, rfl, .inl ⟨by decide, by decide⟩, _, _, rfl, rfl, _, _, rfl, rfl, ?_⟩
      refine ⟨_, rfl, .inl ⟨_, rfl, _, 2147483647, rfl, rfl, (by show (0 : Int) < 2147483647; decide), _, rfl, p, _, 2, 2, rfl, rfl, upd_same, rfl, ?_⟩⟩
      rw [upd_upd]
      dsimp only
      obtain ⟨m, hm⟩ : ∃ m : Int, m = (seed ^ Int.toNat 3 + 69997 * seed + 1009 * (extra + 1) + 5) % 2147483647 := ⟨_, rfl⟩
      rw [← hm]
      have m0 : 0 ≤ m := by
        rw [hm]
        exact Int.emod_nonneg _ (by decide)
      have m1 : m < 2147483647 := by
        rw [hm]
        exact Int.emod_lt_of_pos _ (by decide)
      have q3 : SqL K (upd H p (.lst [.ref c, .int pos, .int m, .int (extra + 1)])) p [.ref c, .int pos, .int m, .int (extra + 1)] := .inl (.inl upd_same)
      refine ⟨_, rfl, p, _, 2, .int m, rfl, rfl, q3, atI_nat (j := 2) rfl, _, rfl, p, _, 2, .int m, rfl, rfl, q3, atI_nat (j := 2) rfl, m, m, rfl, rfl, .inl ⟨by omega, by omega⟩,
        _, rfl, p, _, 2, .int m, rfl, rfl, q3, atI_nat (j := 2) rfl, m, 7919, rfl, rfl, ⟨by decide, by decide⟩, _, _, rfl, rfl, .inl ⟨_, rfl, _, 31, rfl, rfl, ⟨by decide, by decide⟩, _, rfl, _, _, rfl, rfl, w0, ?_⟩⟩
      refine q _ _ (fun b o n1 n2 e => ?_) ⟨cells, pos, m, extra + 1, upd_same, ?_, hl, hn, m0, m1⟩ (Int.emod_nonneg _ (by omega)) (Int.emod_lt_of_pos _ w0) (fre1 _)
      · rw [upd_ne n1]
        exact e
      · rw [upd_ne ncp]
        exact hc
end
end Lk
namespace Lk
open PySem PySem.Spec PyProof.Rows L2
abbrev sIsInteger : Stmt := top 6
abbrev sIsSizes : Stmt := top 12
abbrev sCheckSizes : Stmt := top 13
abbrev sNumber : Stmt := top 18
def intD : PyData → Bool
  | .int _ => true
  | _ => false
def sizeD : PyData → Bool
  | .int i => decide (2 ≤ i) && decide (i ≤ 6)
  | _ => false
def fitD : PyData → Bool
  | .list ds => decide (ds.length ≤ 24) && ds.all sizeD
  | _ => false
theorem take_snoc {α : Type} {l : List α} {i : Nat} {x : α} (h : l[i]? = some x) : l.take (i + 1) = l.take i ++ [x] := by
  rw [List.take_add_one, h]
  rfl
structure Txt1 (mg : Str → Option Value) : Prop where
  int : mg "int" = none
  bool : mg "bool" = none
  list : mg "list" = none
  len : mg "len" = none
  isi : mg "isinstance" = none
  all : mg "all" = none
  most : ∃ t, mg "MOST_FIELDS" = some (.int 24 t)
  least : ∃ t, mg "LEAST_SIZE" = some (.int 2 t)
  great : ∃ t, mg "GREATEST_SIZE" = some (.int 6 t)
section
variable {P : Program} {w : World} {K : PySem.W.Frag} {mg : Str → Option Value} {base : Heap}
theorem scIsInteger : FnScope ["value"] ["value"] (defScope sIsInteger) := ⟨rfl, rfl, rfl, by decide +kernel, rfl, by decide +kernel, by decide +kernel⟩
def spIsInteger (K : PySem.W.Frag) : Sp := fun vs H Q _ => ∃ v d, vs = [v] ∧ Dp K H v d ∧ Q (.bl (intD d)) H
theorem ok_isInteger {f : Addr} {fd : FuncData} {k : Nat} (F : Fun K "is_integer" "is_integer" sIsInteger f fd) (T : Txt1 mg) : FnOk P w K mg base CX0 (k + 1) f fd ["value"] (spIsInteger K) := by
  refine F.ok scIsInteger (fun vs H Q E h => ?_) (fun cdv A outer s H vs Q E hr h => ?_)
  · obtain ⟨v, d, rfl, _⟩ := h
    rfl
  · obtain ⟨v, d, rfl, hd, q⟩ := h
    refine ⟨_, pss_one (ps_ret (pe_and (pe_callB (call_isiD "int") (by rfl) T.isi (by decide +kernel) (pa_cons (pv 0) (pa_cons (pe_bltn (v := .ty "int") (by rfl) T.int (by decide +kernel) rfl) pa_nil)))
      (pe_one (pe_not (pe_callB (call_isiD "bool") (by rfl) T.isi (by decide +kernel) (pa_cons (pv 0) (pa_cons (pe_bltn (v := .ty "bool") (by rfl) T.bool (by decide +kernel) rfl) pa_nil))))))), ?_⟩
    refine ⟨v, rfl, v, d, rfl, hd, _, rfl, ?_⟩
    cases d <;> first
      | exact iteT ⟨_, rfl, _, _, rfl, hd, _, rfl, q⟩
      | exact iteF q
theorem scIsSizes : FnScope ["value", "size"] ["value"] (defScope sIsSizes) := ⟨rfl, rfl, rfl, by decide +kernel, rfl, by decide +kernel, by decide +kernel⟩
def spIsSizes (K : PySem.W.Frag) : Sp := fun vs H Q _ => ∃ v d, vs = [v] ∧ Dp K H v d ∧ ∀ H', Same H H' → Q (.bl (fitD d)) H'
theorem ok_isSizes {f fI : Addr} {fd fdI : FuncData} {k : Nat} (F : Fun K "is_sizes" "is_sizes" sIsSizes f fd) (T : Txt1 mg) (FI : Fun K "is_integer" "is_integer" sIsInteger fI fdI)
    (bI : Binds K fdI ["value"] []) (gI : mg "is_integer" = some (.ref fI)) : FnOk P w K mg base CX0 (k + 2) f fd ["value"] (spIsSizes K) := by
  have GI : FnOk P w K mg base CX0 (k + 1) fI fdI ["value"] (spIsInteger K) := ok_isInteger FI T
  obtain ⟨t1, m1⟩ := T.most
  obtain ⟨t2, m2⟩ := T.least
  obtain ⟨t3, m3⟩ := T.great
  refine F.ok scIsSizes (fun vs H Q E h => ?_) (fun cdv A outer s H vs Q E hr h => ?_)
  · obtain ⟨v, d, rfl, _⟩ := h
    rfl
  · obtain ⟨v, d, rfl, hd, q⟩ := h
    refine ⟨_, pss_cons (ps_if (PW.pt (pw_or (pt_not (pt_val (pe_callB (call_isiD "list") (by rfl) T.isi (by decide +kernel) (pa_cons (pv 0) (pa_cons (pe_bltn (v := .ty "list") (by rfl) T.list (by decide +kernel) rfl) pa_nil)))))
        (pw_or1 (pt_cmpR op_gt (pe_callB call_len_seq (by rfl) T.len PySem.boot_len (pa_cons (pv 0) pa_nil)) (pe_glob (v := .int 24) rfl m1 ⟨_, rfl⟩) (nomark _))))) (pss_one (ps_ret pe_bl)) pss_nil)
      (pss_one (ps_ret (pe_callB (cr_all rfl) (by rfl) T.all (by decide +kernel) (pa_cons
        (pe_lc (own := [("size", 1)]) (g := gName 1) (tt := tYes) rfl scIsSizes.nd (pi_list (pv 0)) (blkOk_by (own := [("size", 1)]) (N := ["value", "size"]) (sc := defScope sIsSizes) (by decide +kernel)) (fun _ _ _ _ _ => pg_name (i := 1) scIsSizes.nd rfl (Or.inl rfl)) (fun _ _ _ _ _ => pts_nil)
          (fun _ _ _ _ _ => pe_and (pe_call GI hr (by rfl) gI FI.kp bI .nil pass0 (pa_cons (pv 1) pa_nil)) (pe_one (pe_chain op_le op_le (pe_glob (v := .int 2) rfl m2 ⟨_, rfl⟩) (pv 1) (pe_glob (v := .int 6) rfl m3 ⟨_, rfl⟩))))) pa_nil)))), ?_⟩
    have no : isTy "list" d = false → fitD d = false := by
      intro h
      cases d <;> first | rfl | exact absurd h (by simp [isTy, tyD])
    refine ⟨v, rfl, v, d, rfl, hd, _, rfl, ?_⟩
    cases hi : isTy "list" d with
    | false =>
      refine iteT ?_
      refine iteT ?_
      have := q H (Same.refl H)
      rw [no hi] at this
      exact this
    | true =>
      refine iteF ?_
      cases hd with
      | lst hs ha =>
        rename_i a xs ds
        refine ⟨_, rfl, a, xs, rfl, .inl hs, _, _, rfl, rfl, _, rfl, ?_⟩
        have ll := DpAll.length ha
        refine ite2 (fun e => ?_) (fun e => ?_)
        · have z := of_decide_eq_true e
          have := q H (Same.refl H)
          rw [show fitD (.list ds) = false by
            show (decide (ds.length ≤ 24) && _) = false
            rw [decide_eq_false (by omega)]
            rfl] at this
          exact this
        · have z : ¬ (24 : Int) < (xs.length : Int) := fun z => e (decide_eq_true z)
          refine ⟨_, rfl, a, rfl, ⟨_, hs⟩, fun D nD => ?_⟩
          have s1 := same_upd (o := .lst []) nD
          refine lc_list (K := K) (a := a) (xs := xs) (fun i H' => Same H H' ∧ H' D = some (.lst (((ds.take i).map sizeD).map V.bl))) ⟨s1, upd_same⟩ (fun i H' _ ⟨sm, _⟩ => sm.seq hs) ?_ ?_
          · rintro i x H' hx ⟨sm, eD⟩
            obtain ⟨d, hdi, hxd⟩ := DpAll.get ha hx
            have lt : i < ds.length := (List.getElem?_eq_some_iff.mp hdi).1
            have fin : ∀ b, sizeD d = b → ∃ acc, H' D = some (.lst acc) ∧ acc.length < sizeLine ∧ Same H (upd H' D (.lst (acc ++ [.bl b]))) ∧ upd H' D (.lst (acc ++ [.bl b])) D = some (.lst (((ds.take (i + 1)).map sizeD).map V.bl)) := fun b hb => by
              refine ⟨_, eD, ?_, fun b' o e => ?_, ?_⟩
              · rw [List.length_map, List.length_map, List.length_take]
                exact small1000 (by omega)
              · rw [upd_ne (ne_of_none e nD)]
                exact sm b' o e
              · rw [upd_same, take_snoc hdi, List.map_append, List.map_append, ← hb]
                rfl
            refine ⟨rfl, ?_⟩
            refine ⟨x, rfl, x, d, rfl, Dp.sm sm hxd, _, rfl, ?_⟩
            cases d with
            | int n =>
              cases hxd
              refine iteT ?_
              refine ⟨_, rfl, _, _, rfl, rfl, _, rfl, ite2 (fun e1 => ?_) (fun e1 => ?_)⟩
              · refine ⟨_, _, rfl, rfl, fin _ ?_⟩
                show (decide (2 ≤ n) && decide (n ≤ 6)) = decide (n ≤ 6)
                rw [e1]
                rfl
              · refine fin _ ?_
                show (decide (2 ≤ n) && decide (n ≤ 6)) = false
                rw [Bool.eq_false_iff.mpr e1]
                rfl
            | none => exact iteF (fin _ rfl)
            | bool b => exact iteF (fin _ rfl)
            | str b => exact iteF (fin _ rfl)
            | list b => exact iteF (fin _ rfl)
            | tuple b => exact iteF (fin _ rfl)
            | dict b => exact iteF (fin _ rfl)
          · rintro H' ⟨sm, eD⟩
            refine ⟨D, ds.map sizeD, rfl, .inl (.inl ?_), ?_⟩
            · rw [eD, ll, List.take_length]
            · have := q H' sm
              rw [show fitD (.list ds) = (ds.map sizeD).all id by
                show (decide (ds.length ≤ 24) && ds.all sizeD) = _
                rw [decide_eq_true (by omega), List.all_map]
                rfl] at this
              exact this
      | non => exact absurd hi (by decide)
      | bl b => exact absurd hi (by simp [isTy, tyD])
      | int b => exact absurd hi (by simp [isTy, tyD])
      | str b => exact absurd hi (by simp [isTy, tyD])
      | tup b => exact absurd hi (by simp [isTy, tyD])
def SizesAt (K : PySem.W.Frag) (H : Hp) (a : Addr) (ns : List Int) : Prop := SqL K H a (ns.map V.int) ∧ ns.length ≤ 24 ∧ ∀ i ∈ ns, 2 ≤ i ∧ i ≤ 6
theorem SizesAt.sm {H H' : Hp} {a : Addr} {ns : List Int} (s : Same H H') (h : SizesAt K H a ns) : SizesAt K H' a ns := ⟨s.seq h.1, h.2⟩
theorem SizesAt.dp {H : Hp} {a : Addr} {ns : List Int} (h : SizesAt K H a ns) : Dp K H (.ref a) (.list (ns.map PyData.int)) := .lst h.1 (DpAll.ints ns)
theorem fit_of_sizes {ns : List Int} (hl : ns.length ≤ 24) (hn : ∀ i ∈ ns, 2 ≤ i ∧ i ≤ 6) : fitD (.list (ns.map PyData.int)) = true := by
  show (decide ((ns.map PyData.int).length ≤ 24) && (ns.map PyData.int).all sizeD) = true
  rw [List.length_map, decide_eq_true hl, Bool.true_and, List.all_map, List.all_eq_true]
  intro i hi
  have := hn i hi
  show (decide (2 ≤ i) && decide (i ≤ 6)) = true
  rw [decide_eq_true this.1, decide_eq_true this.2]
  rfl
theorem scCheckSizes : FnScope ["sizes"] ["sizes"] (defScope sCheckSizes) := ⟨rfl, rfl, rfl, by decide +kernel, rfl, by decide +kernel, by decide +kernel⟩
def spCheckSizes (K : PySem.W.Frag) : Sp := fun vs H Q _ => ∃ a ns, vs = [.ref a] ∧ SizesAt K H a ns ∧ ∀ H', Same H H' → Q .non H'
theorem ok_checkSizes {f fS : Addr} {fd fdS : FuncData} {k : Nat} (F : Fun K "check_sizes" "check_sizes" sCheckSizes f fd) (GS : FnOk P w K mg base CX0 (k + 1) fS fdS ["value"] (spIsSizes K))
    (bS : Binds K fdS ["value"] []) (gS : mg "is_sizes" = some (.ref fS)) (kS : PySem.W.keepIn K (.ref fS) = true) : FnOk P w K mg base CX0 (k + 2) f fd ["sizes"] (spCheckSizes K) := by
  refine F.ok scCheckSizes (fun vs H Q E h => ?_) (fun cdv A outer s H vs Q E hr h => ?_)
  · obtain ⟨v, d, rfl, _⟩ := h
    rfl
  · obtain ⟨a, ns, rfl, hs, q⟩ := h
    refine ⟨_, pss_one (ps_if (pt_not (pt_val (pe_call GS hr (by rfl) gS kS bS .nil pass0 (pa_cons (pv 0) pa_nil)))) (pss_one ps_never) pss_nil), ?_⟩
    refine ⟨.ref a, rfl, _, _, rfl, hs.dp, fun H' sm => ⟨_, rfl, ?_⟩⟩
    rw [fit_of_sizes hs.2.1 hs.2.2]
    exact iteF (q H' sm)
theorem scNumber : FnScope ["sizes", "number", "size"] ["sizes"] (defScope sNumber) := ⟨rfl, rfl, rfl, by decide +kernel, rfl, by decide +kernel, by decide +kernel⟩
def spNumber (K : PySem.W.Frag) : Sp := fun vs H Q _ => ∃ a ns, vs = [.ref a] ∧ SizesAt K H a ns ∧ Q (.int (prodA 1 ns)) H
theorem ok_number {f : Addr} {fd : FuncData} {k : Nat} (F : Fun K "number_of_cases" "number_of_cases" sNumber f fd) : FnOk P w K mg base CX0 (k + 1) f fd ["sizes"] (spNumber K) := by
  refine F.ok scNumber (fun vs H Q E h => ?_) (fun cdv A outer s H vs Q E hr h => ?_)
  · obtain ⟨v, d, rfl, _⟩ := h
    rfl
  · obtain ⟨a, ns, rfl, hs, q⟩ := h
    refine ⟨_, pss_cons (ps_set (i := 1) scNumber.nd rfl (.inl rfl) pe_int) (pss_cons (ps_for PassesOwn.never rfl (pi_list (pv 0)) (pg_name (i := 2) scNumber.nd rfl (.inl rfl))
      (pss_one (ps_set (i := 1) scNumber.nd rfl (.inl rfl) (pe_op op_mul (pv 1) (pv 2))))) (pss_one (ps_ret (pv 1)))), ?_⟩
    refine ⟨_, rfl, a, rfl, ⟨_, hs.1⟩, for_list (K := K) (a := a) (xs := ns.map V.int) (fun i σ H' => ∃ y, σ = [some (.ref a), some (.int (prodA 1 (ns.take i))), y] ∧ H' = H) ⟨none, rfl, rfl⟩ (fun i σ H' _ ⟨_, _, e⟩ => by rw [e]; exact hs.1) ?_ ?_⟩
    · rintro i v σ H' hi ⟨y, rfl, rfl⟩
      rw [List.getElem?_map] at hi
      obtain ⟨n, hn, rfl⟩ := Option.map_eq_some_iff.mp hi
      have b := hs.2.2 n (List.mem_of_getElem? hn)
      refine ⟨_, rfl, _, rfl, _, n, rfl, rfl, .inr ⟨by omega, by omega⟩, some (.int n), ?_, rfl⟩
      show [some (V.ref a), some (V.int (prodA 1 (ns.take i) * n)), some (V.int n)] = [some (V.ref a), some (V.int (prodA 1 (ns.take (i + 1)))), some (V.int n)]
      rw [take_snoc hn]
      unfold prodA
      rw [List.foldl_append]
      rfl
    · rintro σ H' ⟨y, rfl, rfl⟩
      rw [List.length_map, List.take_length]
      exact ⟨_, rfl, q⟩
end
end Lk
namespace Lk
open PySem PySem.Spec PyProof.Rows L2
abbrev sBelow : Stmt := top 7
abbrev sIsHalf : Stmt := top 14
abbrev sIsCase : Stmt := top 15
abbrev sCheckCase : Stmt := top 16
abbrev sCheckIndex : Stmt := top 17
abbrev sPlace : Stmt := top 19
abbrev sCop : Stmt := top 20
abbrev sNth : Stmt := top 21
abbrev sCaseIndex : Stmt := top 22
def belowD (d : PyData) (l : Int) : Bool := match d with
  | .int i => decide (0 ≤ i) && decide (i < l)
  | _ => false
/-- a half case's item -/
def oV : Option Int → V
  | none => .non
  | some i => .int i
def oD : Option Int → PyData
  | none => .none
  | some i => .int i
theorem Dp.opt {K : PySem.W.Frag} {H : Hp} : ∀ o : Option Int, Dp K H (oV o) (oD o)
  | none => .non
  | some i => .int i
theorem DpAll.opts {K : PySem.W.Frag} {H : Hp} : ∀ hs : List (Option Int), DpAll K H (hs.map oV) (hs.map oD)
  | [] => .nil
  | o :: hs => .cons (Dp.opt o) (DpAll.opts hs)
def HalfI : List Int → List (Option Int) → Prop
  | [], [] => True
  | s :: ss, o :: os => (∀ v, o = some v → 0 ≤ v ∧ v < s) ∧ HalfI ss os
  | _, _ => False
theorem HalfI.len : ∀ {ns : List Int} {hs : List (Option Int)}, HalfI ns hs → hs.length = ns.length
  | [], [], _ => rfl
  | _ :: _, _ :: _, h => by rw [List.length_cons, List.length_cons, HalfI.len h.2]
  | [], _ :: _, h => h.elim
  | _ :: _, [], h => h.elim
theorem HalfI.get : ∀ {ns : List Int} {hs : List (Option Int)} {i : Nat} {s : Int}, HalfI ns hs → ns[i]? = some s → ∃ o, hs[i]? = some o ∧ ∀ v, o = some v → 0 ≤ v ∧ v < s
  | [], _, i, s, _, e => by simp at e
  | n :: ns, o :: os, 0, s, h, e => by
    cases e
    exact ⟨o, rfl, h.1⟩
  | n :: ns, o :: os, i + 1, s, h, e => HalfI.get (i := i) h.2 (by simpa using e)
  | _ :: _, [], _, _, h, _ => h.elim
theorem RowI.half : ∀ {ns vs : List Int}, RowI ns vs → HalfI ns (vs.map some)
  | [], [], _ => trivial
  | s :: ss, v :: vs, h => ⟨fun w e => by cases e; exact ⟨h.1, h.2.1⟩, RowI.half h.2.2⟩
  | [], _ :: _, h => h.elim
  | _ :: _, [], h => h.elim
theorem map_oV (vs : List Int) : (vs.map some).map oV = vs.map V.int := by
  rw [List.map_map]
  rfl
theorem RowI.get : ∀ {ns vs : List Int} {i : Nat} {s : Int}, RowI ns vs → ns[i]? = some s → ∃ v, vs[i]? = some v ∧ 0 ≤ v ∧ v < s
  | [], _, i, s, _, e => by simp at e
  | n :: ns, v :: vs, 0, s, h, e => by
    cases e
    exact ⟨v, rfl, h.1, h.2.1⟩
  | n :: ns, v :: vs, i + 1, s, h, e => RowI.get (i := i) h.2.2 (by simpa using e)
  | _ :: _, [], _, _, h, _ => h.elim
theorem RowI.snoc : ∀ {ns vs : List Int} {s v : Int}, RowI ns vs → 0 ≤ v → v < s → RowI (ns ++ [s]) (vs ++ [v])
  | [], [], s, v, _, h1, h2 => ⟨h1, h2, trivial⟩
  | n :: ns, w :: vs, s, v, h, h1, h2 => ⟨h.1, h.2.1, RowI.snoc h.2.2 h1 h2⟩
  | [], _ :: _, _, _, h, _, _ => h.elim
  | _ :: _, [], _, _, h, _, _ => h.elim
theorem drop_cons {α : Type} {l : List α} {i : Nat} {x : α} (h : l[i]? = some x) : l.drop i = x :: l.drop (i + 1) := by
  obtain ⟨lt, e⟩ := List.getElem?_eq_some_iff.mp h
  rw [List.drop_eq_getElem_cons lt, e]
theorem pl_step {ns vs : List Int} {i : Nat} {s v acc : Int} (hs : ns[i]? = some s) (hv : vs[i]? = some v) :
    acc * prodI (ns.drop i) + plI (ns.drop i) (vs.drop i) = (acc * s + v) * prodI (ns.drop (i + 1)) + plI (ns.drop (i + 1)) (vs.drop (i + 1)) := by
  rw [drop_cons hs, drop_cons hv]
  show acc * (s * prodI (ns.drop (i + 1))) + (v * prodI (ns.drop (i + 1)) + plI (ns.drop (i + 1)) (vs.drop (i + 1))) = _
  rw [Int.add_mul, Int.mul_assoc]
  omega
theorem inV_non : ∀ vs : List Int, inV V.non (vs.map V.int) = false
  | [] => rfl
  | v :: vs => by
    have ih := inV_non vs
    unfold inV at ih ⊢
    rw [List.map_cons, List.any_cons, ih]
    rfl
structure Txt2 (mg : Str → Option Value) : Prop where
  T : Txt1 mg
  range : mg "range" = none
  rev : mg "reversed" = none
section
variable {P : Program} {w : World} {K : PySem.W.Frag} {mg : Str → Option Value} {base : Heap}
theorem scBelow : FnScope ["value", "limit"] ["value", "limit"] (defScope sBelow) := ⟨rfl, rfl, rfl, by decide +kernel, rfl, by decide +kernel, by decide +kernel⟩
def spBelow (K : PySem.W.Frag) : Sp := fun vs H Q _ => ∃ v d l, vs = [v, .int l] ∧ Dp K H v d ∧ Q (.bl (belowD d l)) H
theorem ok_below {f fI : Addr} {fd fdI : FuncData} {k : Nat} (F : Fun K "is_integer_below" "is_integer_below" sBelow f fd) (GI : FnOk P w K mg base CX0 k fI fdI ["value"] (spIsInteger K))
    (bI : Binds K fdI ["value"] []) (gI : mg "is_integer" = some (.ref fI)) (kI : PySem.W.keepIn K (.ref fI) = true) : FnOk P w K mg base CX0 (k + 1) f fd ["value", "limit"] (spBelow K) := by
  refine F.ok scBelow (fun vs H Q E h => ?_) (fun cdv A outer s H vs Q E hr h => ?_)
  · obtain ⟨v, d, l, rfl, _⟩ := h
    rfl
  · obtain ⟨v, d, l, rfl, hd, q⟩ := h
    refine ⟨_, pss_one (ps_ret (pe_and (pe_call GI hr (by rfl) gI kI bI .nil pass0 (pa_cons (pv 0) pa_nil)) (pe_one (pe_chain op_le op_lt pe_int (pv 0) (pv 1))))), ?_⟩
    refine ⟨v, rfl, v, d, rfl, hd, _, rfl, ?_⟩
    cases d with
    | int i =>
      cases hd
      refine iteT ?_
      refine ⟨_, rfl, _, _, rfl, rfl, _, rfl, ite2 (fun e => ?_) (fun e => ?_)⟩
      · refine ⟨_, rfl, _, _, rfl, rfl, ?_⟩
        have : belowD (.int i) l = decide (i < l) := by
          show (decide (0 ≤ i) && decide (i < l)) = _
          rw [e]
          rfl
        rw [this] at q
        exact q
      · have : belowD (.int i) l = false := by
          show (decide (0 ≤ i) && decide (i < l)) = _
          rw [Bool.eq_false_iff.mpr e]
          rfl
        rw [this] at q
        exact q
    | none => exact iteF q
    | bool b => exact iteF q
    | str b => exact iteF q
    | list b => exact iteF q
    | tuple b => exact iteF q
    | dict b => cases hd
theorem scIsHalf : FnScope ["sizes", "value", "at"] ["sizes", "value"] (defScope sIsHalf) := ⟨rfl, rfl, rfl, by decide +kernel, rfl, by decide +kernel, by decide +kernel⟩
def spIsHalf (K : PySem.W.Frag) : Sp := fun vs H Q _ => ∃ a b ns hs, vs = [.ref a, .ref b] ∧ SizesAt K H a ns ∧ SqL K H b (hs.map oV) ∧ HalfI ns hs ∧ ∀ H', Same H H' → Q (.bl true) H'
theorem ok_isHalf {f fB : Addr} {fd fdB : FuncData} {k : Nat} (F : Fun K "is_half_case" "is_half_case" sIsHalf f fd) (T : Txt2 mg) (GB : FnOk P w K mg base CX0 k fB fdB ["value", "limit"] (spBelow K))
    (bB : Binds K fdB ["value", "limit"] []) (gB : mg "is_integer_below" = some (.ref fB)) (kB : PySem.W.keepIn K (.ref fB) = true) : FnOk P w K mg base CX0 (k + 1) f fd ["sizes", "value"] (spIsHalf K) := by
  refine F.ok scIsHalf (fun vs H Q E h => ?_) (fun cdv A outer s H vs Q E hr h => ?_)
  · obtain ⟨a, b, ns, hs, rfl, _⟩ := h
    rfl
  · obtain ⟨a, b, ns, hs, rfl, hS, hB, hH, q⟩ := h
    refine ⟨_, pss_cons (ps_if (PW.pt (pw_or (pt_not (pt_val (pe_callB (call_isiD "list") (by rfl) T.T.isi (by decide +kernel) (pa_cons (pv 1) (pa_cons (pe_bltn (v := .ty "list") (by rfl) T.T.list (by decide +kernel) rfl) pa_nil)))))
        (pw_or1 (pt_cmpR op_ne (pe_callB call_len_seq (by rfl) T.T.len PySem.boot_len (pa_cons (pv 1) pa_nil)) (pe_callB call_len_seq (by rfl) T.T.len PySem.boot_len (pa_cons (pv 0) pa_nil)) (nomark _))))) (pss_one (ps_ret pe_bl)) pss_nil)
      (pss_one (ps_ret (pe_callB (cr_all rfl) (by rfl) T.T.all (by decide +kernel) (pa_cons
        (pe_lc (own := [("at", 2)]) (g := gName 2) (tt := tYes) rfl scIsHalf.nd (pi_range1 rfl T.range (pa_cons (pe_callB call_len_seq (by rfl) T.T.len PySem.boot_len (pa_cons (pv 0) pa_nil)) pa_nil))
          (blkOk_by (own := [("at", 2)]) (N := ["sizes", "value", "at"]) (sc := defScope sIsHalf) (by decide +kernel)) (fun _ _ _ _ _ => pg_name (i := 2) scIsHalf.nd rfl (Or.inl rfl)) (fun _ _ _ _ _ => pts_nil)
          (fun _ _ _ _ _ => pe_or (pe_cmpR op_isN (pe_ix (r := rIxL K) ix_list (pv 1) (pv 2) (fun _ _ => rfl)) pe_non (nomark _))
            (pe_one (pe_call GB hr (by rfl) gB kB bB .nil pass0 (pa_cons (pe_ix (r := rIxL K) ix_list (pv 1) (pv 2) (fun _ _ => rfl)) (pa_cons (pe_ix (r := rIxL K) ix_list (pv 0) (pv 2) (fun _ _ => rfl)) pa_nil)))))) pa_nil)))), ?_⟩
    have dB : Dp K H (.ref b) (.list (hs.map oD)) := .lst hB (DpAll.opts hs)
    refine ⟨_, rfl, _, _, rfl, dB, _, rfl, iteF ?_⟩
    refine ⟨_, rfl, b, _, rfl, .inl hB, _, rfl, a, _, rfl, .inl hS.1, rfl, _, rfl, iteNS ?_ ?_⟩
    · rw [List.length_map, List.length_map, hH.len]
    refine ⟨_, rfl, a, _, rfl, .inl hS.1, (ns.length : Int), by rw [List.length_map], by have := hS.2.1; omega, by have := hS.2.1; omega, fun D nD => ?_⟩
    have s1 := same_upd (o := .lst []) nD
    refine lc_range (lo := 0) (n := ((ns.length : Nat) : Int).toNat) (fun i H' => Same H H' ∧ H' D = some (.lst ((List.replicate i true).map V.bl))) ⟨s1, upd_same⟩ ?_ ?_
    · rintro i H' hi ⟨sm, eD⟩
      have lt : i < ns.length := by omega
      have hs1 := List.getElem?_eq_getElem lt
      obtain ⟨o, ho, hv⟩ := HalfI.get hH hs1
      have gS : (ns.map V.int)[i]? = some (.int ns[i]) := by
        rw [List.getElem?_map, hs1]
        rfl
      have gB2 : (hs.map oV)[i]? = some (oV o) := by
        rw [List.getElem?_map, ho]
        rfl
      have fin : ∃ acc, H' D = some (.lst acc) ∧ acc.length < sizeLine ∧ Same H (upd H' D (.lst (acc ++ [.bl true]))) ∧ upd H' D (.lst (acc ++ [.bl true])) D = some (.lst ((List.replicate (i + 1) true).map V.bl)) := by
        refine ⟨_, eD, ?_, fun b' o e => ?_, ?_⟩
        · rw [List.length_map, List.length_replicate]
          have := hS.2.1
          exact small1000 (by omega)
        · rw [upd_ne (ne_of_none e nD)]
          exact sm b' o e
        · rw [upd_same, List.replicate_succ', List.map_append]
          rfl
      refine ⟨rfl, ?_⟩
      refine ⟨_, rfl, _, rfl, b, _, _, _, rfl, rfl, sm.seq hB, at_of (Int.zero_add _) gB2, rfl, _, rfl, ?_⟩
      cases o with
      | none => exact iteT fin
      | some v =>
        refine iteF ?_
        have b1 := hv v rfl
        refine ⟨_, rfl, _, rfl, b, _, _, _, rfl, rfl, sm.seq hB, at_of (Int.zero_add _) gB2, _, rfl, _, rfl, a, _, _, _, rfl, rfl, sm.seq hS.1, at_of (Int.zero_add _) gS, _, .int v, _, rfl, .int v, ?_⟩
        rw [show belowD (.int v) ns[i] = true by
          show (decide (0 ≤ v) && decide (v < ns[i])) = true
          rw [decide_eq_true b1.1, decide_eq_true b1.2]
          rfl]
        exact fin
    · rintro H' ⟨sm, eD⟩
      refine ⟨D, List.replicate ((ns.length : Nat) : Int).toNat true, rfl, .inl (.inl eD), ?_⟩
      have := q H' sm
      rw [show (List.replicate ((ns.length : Nat) : Int).toNat true).all id = true by
        rw [List.all_eq_true]
        intro x hx
        rw [List.eq_of_mem_replicate hx]
        rfl]
      exact this
end
end Lk
namespace Lk
open PySem PySem.Spec PyProof.Rows L2
theorem nth_step {n s P r p : Int} (h : n = r * P + p) : n = r / s * (s * P) + (r % s * P + p) := by
  have e : r = r / s * s + r % s := by
    have := Int.emod_add_mul_ediv r s
    rw [Int.mul_comm (r / s) s]
    omega
  have e2 : r * P = r / s * (s * P) + r % s * P := by
    conv => lhs; rw [e]
    rw [Int.add_mul, Int.mul_assoc]
  omega
theorem rest_zero {n r P p : Int} (h : n = r * P + p) (hr : 0 ≤ r) (hp : 0 ≤ p) (h0 : 0 ≤ n) (hn : n < P) : r = 0 := by
  by_cases e : r = 0
  · exact e
  · have : 1 * P ≤ r * P := Int.mul_le_mul_of_nonneg_right (by omega) (by omega)
    omega
section
variable {P : Program} {w : World} {K : PySem.W.Frag} {mg : Str → Option Value} {base : Heap}
/-- a case at an address -/
def CaseAt (K : PySem.W.Frag) (H : Hp) (b : Addr) (ns vs : List Int) : Prop := SqL K H b (vs.map V.int) ∧ RowI ns vs
theorem CaseAt.sm {H H' : Hp} {a : Addr} {ns vs : List Int} (s : Same H H') (h : CaseAt K H a ns vs) : CaseAt K H' a ns vs := ⟨s.seq h.1, h.2⟩
theorem scIsCase : FnScope ["sizes", "value"] ["sizes", "value"] (defScope sIsCase) := ⟨rfl, rfl, rfl, by decide +kernel, rfl, by decide +kernel, by decide +kernel⟩
def spIsCase (K : PySem.W.Frag) : Sp := fun vs H Q _ => ∃ a b ns ws, vs = [.ref a, .ref b] ∧ SizesAt K H a ns ∧ CaseAt K H b ns ws ∧ ∀ H', Same H H' → Q (.bl true) H'
theorem ok_isCase {f fB : Addr} {fd fdB : FuncData} {k : Nat} (F : Fun K "is_case" "is_case" sIsCase f fd) (GB : FnOk P w K mg base CX0 k fB fdB ["sizes", "value"] (spIsHalf K))
    (bB : Binds K fdB ["sizes", "value"] []) (gB : mg "is_half_case" = some (.ref fB)) (kB : PySem.W.keepIn K (.ref fB) = true) : FnOk P w K mg base CX0 (k + 1) f fd ["sizes", "value"] (spIsCase K) := by
  refine F.ok scIsCase (fun vs H Q E h => ?_) (fun cdv A outer s H vs Q E hr h => ?_)
  · obtain ⟨a, b, ns, hs, rfl, _⟩ := h
    rfl
  · obtain ⟨a, b, ns, ws, rfl, hS, hB, q⟩ := h
    refine ⟨_, pss_one (ps_ret (pe_and (pe_call GB hr (by rfl) gB kB bB .nil pass0 (pa_cons (pv 0) (pa_cons (pv 1) pa_nil))) (pe_one (pe_cmpR op_notIn_seq pe_non (pv 1) (by rfl))))), ?_⟩
    refine ⟨_, rfl, _, rfl, a, b, ns, ws.map some, rfl, hS, by rw [map_oV]; exact hB.1, hB.2.half, fun H' sm => ⟨_, rfl, iteT ?_⟩⟩
    refine ⟨_, rfl, b, _, rfl, .inl (sm.seq hB.1), rfl, ?_, ?_⟩
    · rw [List.all_eq_true]
      intro x hx
      obtain ⟨i, _, rfl⟩ := List.mem_map.mp hx
      rfl
    · show Q (.bl (!inV V.non (ws.map V.int))) H'
      rw [inV_non]
      exact q H' sm
theorem scCheckCase : FnScope ["sizes", "case"] ["sizes", "case"] (defScope sCheckCase) := ⟨rfl, rfl, rfl, by decide +kernel, rfl, by decide +kernel, by decide +kernel⟩
def spCheckCase (K : PySem.W.Frag) : Sp := fun vs H Q _ => ∃ a b ns ws, vs = [.ref a, .ref b] ∧ SizesAt K H a ns ∧ CaseAt K H b ns ws ∧ ∀ H', Same H H' → Q .non H'
theorem ok_checkCase {f fB : Addr} {fd fdB : FuncData} {k : Nat} (F : Fun K "check_case" "check_case" sCheckCase f fd) (GB : FnOk P w K mg base CX0 k fB fdB ["sizes", "value"] (spIsCase K))
    (bB : Binds K fdB ["sizes", "value"] []) (gB : mg "is_case" = some (.ref fB)) (kB : PySem.W.keepIn K (.ref fB) = true) : FnOk P w K mg base CX0 (k + 1) f fd ["sizes", "case"] (spCheckCase K) := by
  refine F.ok scCheckCase (fun vs H Q E h => ?_) (fun cdv A outer s H vs Q E hr h => ?_)
  · obtain ⟨a, b, ns, hs, rfl, _⟩ := h
    rfl
  · obtain ⟨a, b, ns, ws, rfl, hS, hB, q⟩ := h
    refine ⟨_, pss_one (ps_if (pt_not (pt_val (pe_call GB hr (by rfl) gB kB bB .nil pass0 (pa_cons (pv 0) (pa_cons (pv 1) pa_nil))))) (pss_one ps_never) pss_nil), ?_⟩
    exact ⟨_, rfl, _, rfl, a, b, ns, ws, rfl, hS, hB, fun H' sm => ⟨_, rfl, iteF (q H' sm)⟩⟩
theorem scCheckIndex : FnScope ["index", "count"] ["index", "count"] (defScope sCheckIndex) := ⟨rfl, rfl, rfl, by decide +kernel, rfl, by decide +kernel, by decide +kernel⟩
def spCheckIndex : Sp := fun vs H Q _ => ∃ i n : Int, vs = [.int i, .int n] ∧ 0 ≤ i ∧ i < n ∧ Q .non H
theorem ok_checkIndex {f fB : Addr} {fd fdB : FuncData} {k : Nat} (F : Fun K "check_index" "check_index" sCheckIndex f fd) (GB : FnOk P w K mg base CX0 k fB fdB ["value", "limit"] (spBelow K))
    (bB : Binds K fdB ["value", "limit"] []) (gB : mg "is_integer_below" = some (.ref fB)) (kB : PySem.W.keepIn K (.ref fB) = true) : FnOk P w K mg base CX0 (k + 1) f fd ["index", "count"] spCheckIndex := by
  refine F.ok scCheckIndex (fun vs H Q E h => ?_) (fun cdv A outer s H vs Q E hr h => ?_)
  · obtain ⟨i, n, rfl, _⟩ := h
    rfl
  · obtain ⟨i, n, rfl, h1, h2, q⟩ := h
    refine ⟨_, pss_one (ps_if (pt_not (pt_val (pe_call GB hr (by rfl) gB kB bB .nil pass0 (pa_cons (pv 0) (pa_cons (pv 1) pa_nil))))) (pss_one ps_never) pss_nil), ?_⟩
    refine ⟨_, rfl, _, rfl, _, _, n, rfl, .int i, _, rfl, ?_⟩
    rw [show belowD (.int i) n = true by
      show (decide (0 ≤ i) && decide (i < n)) = true
      rw [decide_eq_true h1, decide_eq_true h2]
      rfl]
    exact iteF q
theorem scPlace : FnScope ["sizes", "case", "place", "at"] ["sizes", "case"] (defScope sPlace) := ⟨rfl, rfl, rfl, by decide +kernel, rfl, by decide +kernel, by decide +kernel⟩
def spPlace (K : PySem.W.Frag) : Sp := fun vs H Q _ => ∃ a b ns ws, vs = [.ref a, .ref b] ∧ SizesAt K H a ns ∧ CaseAt K H b ns ws ∧ Q (.int (plI ns ws)) H
theorem ok_place {f : Addr} {fd : FuncData} {k : Nat} (F : Fun K "place_of_case" "place_of_case" sPlace f fd) (T : Txt2 mg) : FnOk P w K mg base CX0 (k + 1) f fd ["sizes", "case"] (spPlace K) := by
  refine F.ok scPlace (fun vs H Q E h => ?_) (fun cdv A outer s H vs Q E hr h => ?_)
  · obtain ⟨a, b, ns, hs, rfl, _⟩ := h
    rfl
  · obtain ⟨a, b, ns, ws, rfl, hS, hB, q⟩ := h
    refine ⟨_, pss_cons (ps_set (i := 2) scPlace.nd rfl (.inl rfl) pe_int)
      (pss_cons (ps_for PassesOwn.never rfl (pi_range1 rfl T.range (pa_cons (pe_callB call_len_seq (by rfl) T.T.len PySem.boot_len (pa_cons (pv 0) pa_nil)) pa_nil)) (pg_name (i := 3) scPlace.nd rfl (.inl rfl))
        (pss_one (ps_set (i := 2) scPlace.nd rfl (.inl rfl) (pe_op op_add (pe_op op_mul (pv 2) (pe_ix ix_list (pv 0) (pv 3) (fun _ _ => rfl))) (pe_ix ix_list (pv 1) (pv 3) (fun _ _ => rfl))))))
      (pss_one (ps_ret (pv 2)))), ?_⟩
    have l24 := hS.2.1
    have ll := hB.2.len
    refine ⟨_, rfl, a, _, rfl, .inl hS.1, (ns.length : Int), by rw [List.length_map], by omega, by omega, for_range (n := ((ns.length : Nat) : Int).toNat) (fun i σ H' => ∃ (acc : Int) (y : Option V), σ = [some (.ref a), some (.ref b), some (.int acc), y] ∧ H' = H ∧ acc * prodI (ns.drop i) + plI (ns.drop i) (ws.drop i) = plI ns ws)
      ⟨0, none, rfl, rfl, by rw [List.drop_zero, List.drop_zero]; omega⟩ ?_ ?_⟩
    · rintro i σ H' hi ⟨acc, y, rfl, rfl, inv⟩
      have lt : i < ns.length := by omega
      have e1 := List.getElem?_eq_getElem lt
      obtain ⟨v, e2, b1, b2⟩ := RowI.get hB.2 e1
      have bs := hS.2.2 _ (List.getElem_mem lt)
      have g1 : (ns.map V.int)[i]? = some (.int ns[i]) := by
        rw [List.getElem?_map, e1]
        rfl
      have g2 : (ws.map V.int)[i]? = some (.int v) := by
        rw [List.getElem?_map, e2]
        rfl
      refine ⟨_, rfl, _, rfl, _, rfl, a, _, _, _, rfl, rfl, hS.1, at_of (Int.zero_add _) g1, acc, ns[i], rfl, rfl, .inr ⟨by omega, by omega⟩, _, rfl, _, rfl, b, _, _, _, rfl, rfl, hB.1, at_of (Int.zero_add _) g2, _, _, rfl, rfl, ?_⟩
      refine ⟨_, _, rfl, rfl, ?_⟩
      rw [← inv, pl_step e1 e2]
    · rintro σ H' ⟨acc, y, rfl, rfl, inv⟩
      refine ⟨_, rfl, ?_⟩
      have : acc = plI ns ws := by
        rw [← inv, List.drop_of_length_le (by omega), List.drop_of_length_le (by omega)]
        show acc = acc * 1 + 0
        omega
      rw [this]
      exact q
theorem scCaseIndex : FnScope ["sizes", "case"] ["sizes", "case"] (defScope sCaseIndex) := ⟨rfl, rfl, rfl, by decide +kernel, rfl, by decide +kernel, by decide +kernel⟩
def spCaseIndex (K : PySem.W.Frag) : Sp := fun vs H Q _ => ∃ a b ns ws, vs = [.ref a, .ref b] ∧ SizesAt K H a ns ∧ CaseAt K H b ns ws ∧ ∀ H', Same H H' → Q (.int (plI ns ws)) H'
theorem ok_caseIndex {f fS fC fP : Addr} {fd fdS fdC fdP : FuncData} {k : Nat} (F : Fun K "case_index" "case_index" sCaseIndex f fd) (GS : FnOk P w K mg base CX0 k fS fdS ["sizes"] (spCheckSizes K)) (bS : Binds K fdS ["sizes"] []) (gS : mg "check_sizes" = some (.ref fS)) (kS : PySem.W.keepIn K (.ref fS) = true)
    (GC : FnOk P w K mg base CX0 k fC fdC ["sizes", "case"] (spCheckCase K)) (bC : Binds K fdC ["sizes", "case"] []) (gC : mg "check_case" = some (.ref fC)) (kC : PySem.W.keepIn K (.ref fC) = true)
    (GP : FnOk P w K mg base CX0 k fP fdP ["sizes", "case"] (spPlace K)) (bP : Binds K fdP ["sizes", "case"] []) (gP : mg "place_of_case" = some (.ref fP)) (kP : PySem.W.keepIn K (.ref fP) = true) : FnOk P w K mg base CX0 (k + 1) f fd ["sizes", "case"] (spCaseIndex K) := by
  refine F.ok scCaseIndex (fun vs H Q E h => ?_) (fun cdv A outer s H vs Q E hr h => ?_)
  · obtain ⟨a, b, ns, hs, rfl, _⟩ := h
    rfl
  · obtain ⟨a, b, ns, ws, rfl, hS, hB, q⟩ := h
    refine ⟨_, pss_cons (ps_expr (pe_call GS hr (by rfl) gS kS bS .nil pass0 (pa_cons (pv 0) pa_nil)))
      (pss_cons (ps_expr (pe_call GC hr (by rfl) gC kC bC .nil pass0 (pa_cons (pv 0) (pa_cons (pv 1) pa_nil)))) (pss_one (ps_ret (pe_call GP hr (by rfl) gP kP bP .nil pass0 (pa_cons (pv 0) (pa_cons (pv 1) pa_nil)))))), ?_⟩
    exact ⟨_, rfl, a, ns, rfl, hS, fun H1 s1 => ⟨_, rfl, _, rfl, a, b, ns, ws, rfl, hS.sm s1, hB.sm s1, fun H2 s2 => ⟨_, rfl, _, rfl, a, b, ns, ws, rfl, hS.sm (s1.trans s2), hB.sm (s1.trans s2), q _ (s1.trans s2)⟩⟩⟩
theorem scCop : FnScope ["sizes", "place", "case", "rest", "at"] ["sizes", "place"] (defScope sCop) := ⟨rfl, rfl, rfl, by decide +kernel, rfl, by decide +kernel, by decide +kernel⟩
def spNth (K : PySem.W.Frag) : Sp := fun vs H Q _ => ∃ a n ns, vs = [.ref a, .int n] ∧ SizesAt K H a ns ∧ 0 ≤ n ∧ n < prodI ns ∧ ∀ H' b ws, Same H H' → H b = none → H' b = some (.lst (ws.map V.int)) → RowI ns ws → plI ns ws = n → Q (.ref b) H'
theorem set_rep {j : Nat} {d : Int} {ds : List Int} : ((List.replicate (j + 1) (0 : Int) ++ ds).set j d) = List.replicate j 0 ++ (d :: ds) := by
  rw [List.replicate_succ', List.append_assoc, List.set_append_right _ _ (by rw [List.length_replicate]; exact Nat.le_refl _), List.length_replicate, Nat.sub_self]
  rfl
theorem ok_cop {f : Addr} {fd : FuncData} {k : Nat} (F : Fun K "case_of_place" "case_of_place" sCop f fd) (T : Txt2 mg) : FnOk P w K mg base CX0 (k + 1) f fd ["sizes", "place"] (spNth K) := by
  refine F.ok scCop (fun vs H Q E h => ?_) (fun cdv A outer s H vs Q E hr h => ?_)
  · obtain ⟨a, b, ns, rfl, _⟩ := h
    rfl
  · obtain ⟨a, n, ns, rfl, hS, n0, n1, q⟩ := h
    refine ⟨_, (pss_cons (ps_set (i := 2) scCop.nd rfl (.inl rfl) (pe_op op_repN (pe_lstN (pa_cons pe_int pa_nil)) (pe_callB call_len_seq (by rfl) T.T.len PySem.boot_len (pa_cons (pv 0) pa_nil))))
      (pss_cons (ps_set (i := 3) scCop.nd rfl (.inl rfl) (pv 1))
      (pss_cons (ps_for PassesOwn.never rfl (pi_revR (by rfl) T.rev (prg_1 (by rfl) T.range (pe_callB call_len_seq (by rfl) T.T.len PySem.boot_len (pa_cons (pv 0) pa_nil)))) (pg_name (i := 4) scCop.nd rfl (.inl rfl))
        (pss_cons (ps_asg (pe_op op_mod (pv 3) (pe_ix ix_list (pv 0) (pv 4) (fun _ _ => rfl))) (pg_sub (pv 2) (pv 4) set_list))
        (pss_one (ps_set (i := 3) scCop.nd rfl (.inl rfl) (pe_op op_fdiv (pv 3) (pe_ix ix_list (pv 0) (pv 4) (fun _ _ => rfl)))))))
      (pss_one (ps_ret (pv 2)))))), ?_⟩
    have l24 := hS.2.1
    have ep := prodA_one ns
    have s1 : Same H H := Same.refl H
    refine ⟨by show 1 ≤ sizeLine; decide, fun z1 H2 s2 n2 e2 => ⟨_, rfl, a, _, rfl, .inl (hS.sm (s1.trans s2)).1, z1, (ns.length : Int), _, rfl, by rw [List.length_map], e2, by omega, by omega, ?_, fun b H3 s3 n3 e3 => ?_⟩⟩
    · show 1 * ((ns.length : Nat) : Int).toNat ≤ sizeLine
      have : sizeLine = 2 ^ 24 := rfl
      omega
    have s03 := s1.trans (s2.trans s3)
    have e3' : H3 b = some (.lst ((List.replicate ns.length (0 : Int) ++ []).map V.int)) := by
      rw [e3, List.append_nil, List.map_replicate]
      congr 2
      show (List.replicate ns.length [V.int 0]).flatten = List.replicate ns.length (V.int 0)
      generalize ns.length = m
      induction m with
      | zero => rfl
      | succ m ih => rw [List.replicate_succ, List.flatten_cons, ih]; rfl
    have nb0 : H b = none := (s1.trans s2).free n3
    refine ⟨_, rfl, ?_⟩
    refine ⟨_, rfl, a, _, rfl, .inl (hS.sm s03).1, (ns.length : Int), by rw [List.length_map], by omega, by omega, by omega, by omega, for_rangeC (n := (((ns.length : Nat) : Int) - 0).toNat) (fun i σ H' => ∃ (r : Int) (ds : List Int) (y : Option V), σ = [some (.ref a), some (.int n), some (.ref b), some (.int r), y] ∧ i ≤ ns.length ∧
        0 ≤ r ∧ RowI (ns.drop (ns.length - i)) ds ∧ n = r * prodI (ns.drop (ns.length - i)) + plI (ns.drop (ns.length - i)) ds ∧ Same H H' ∧ H' b = some (.lst ((List.replicate (ns.length - i) (0 : Int) ++ ds).map V.int)))
      ⟨n, [], none, rfl, Nat.zero_le _, n0, ?_, ?_, s03, e3'⟩ ?_ ?_⟩
    · rw [Nat.sub_zero, List.drop_length]
      trivial
    · rw [Nat.sub_zero, List.drop_length]
      show n = n * 1 + 0
      omega
    · rintro i σ H' hi ⟨r, ds, y, rfl, hle, r0, hR, hn, sm, eb⟩
      have hi2 : i < ns.length := by omega
      obtain ⟨j, hj⟩ : ∃ j, ns.length - i = j + 1 := ⟨ns.length - i - 1, by omega⟩
      have hj2 : ns.length - (i + 1) = j := by omega
      have lt : j < ns.length := by omega
      have e1 := List.getElem?_eq_getElem lt
      have bs := hS.2.2 _ (List.getElem_mem lt)
      have g1 : (ns.map V.int)[j]? = some (.int ns[j]) := by
        rw [List.getElem?_map, e1]
        rfl
      have at0 : (0 : Int) + (((((ns.length : Nat) : Int) - 0).toNat : Nat) : Int) - 1 + (i : Int) * (-1) = (j : Int) := by omega
      have dl : ds.length = ns.length - (j + 1) := by
        rw [hR.len, List.length_drop, hj]
      have hlen : ((List.replicate (ns.length - i) (0 : Int) ++ ds).map V.int).length = ns.length := by
        rw [List.length_map, List.length_append, List.length_replicate, dl]
        omega
      refine ⟨_, rfl, _, rfl, _, rfl, a, _, _, _, rfl, rfl, (hS.sm sm).1, at_of at0 g1, r, ns[j], rfl, rfl, (by show (0 : Int) < ns[j]; omega), _, rfl, _, rfl, b, _, _, j, rfl, rfl, eb, ?_, ?_⟩
      · unfold ixN
        rw [if_pos (by omega), if_pos (by rw [hlen]; omega), at0]
        rfl
      have sm2 : Same H (upd H' b (.lst (((List.replicate (ns.length - i) (0 : Int) ++ ds).map V.int).set j (.int (r % ns[j]))))) := fun b' o e => by
        rw [upd_ne (ne_of_none e nb0)]
        exact sm b' o e
      refine ⟨_, rfl, _, rfl, _, rfl, a, _, _, _, rfl, rfl, (hS.sm sm2).1, at_of at0 g1, r, ns[j], rfl, rfl, ⟨by omega, by omega⟩, ?_⟩
      refine ⟨r / ns[j], (r % ns[j]) :: ds, _, rfl, hi2, Int.ediv_nonneg r0 (by omega), ?_, ?_, sm2, ?_⟩
      · rw [hj2, drop_cons e1]
        rw [hj] at hR
        exact ⟨Int.emod_nonneg _ (by omega), Int.emod_lt_of_pos _ (by omega), hR⟩
      · rw [hj2, drop_cons e1]
        rw [hj] at hn
        exact nth_step hn
      · rw [upd_same, ← List.map_set, hj, set_rep, hj2]
    · rintro σ H' ⟨r, ds, y, rfl, hle, r0, hR, hn, sm, eb⟩
      have ez : ns.length - (((ns.length : Nat) : Int) - 0).toNat = 0 := by omega
      rw [ez, List.drop_zero] at hR hn
      rw [ez] at eb
      have pb := pl_bound hR
      have rz := rest_zero hn r0 pb.1 n0 n1
      refine ⟨_, rfl, q H' b ds sm nb0 eb hR ?_⟩
      rw [rz] at hn
      omega
theorem scNth : FnScope ["sizes", "index"] ["sizes", "index"] (defScope sNth) := ⟨rfl, rfl, rfl, by decide +kernel, rfl, by decide +kernel, by decide +kernel⟩
theorem ok_nth {f fS fC fN fP : Addr} {fd fdS fdC fdN fdP : FuncData} {k : Nat} (F : Fun K "nth_case" "nth_case" sNth f fd) (T : Txt2 mg) (GS : FnOk P w K mg base CX0 k fS fdS ["sizes"] (spCheckSizes K)) (bS : Binds K fdS ["sizes"] []) (gS : mg "check_sizes" = some (.ref fS)) (kS : PySem.W.keepIn K (.ref fS) = true)
    (GC : FnOk P w K mg base CX0 k fC fdC ["index", "count"] spCheckIndex) (bC : Binds K fdC ["index", "count"] []) (gC : mg "check_index" = some (.ref fC)) (kC : PySem.W.keepIn K (.ref fC) = true)
    (GN : FnOk P w K mg base CX0 k fN fdN ["sizes"] (spNumber K)) (bN : Binds K fdN ["sizes"] []) (gN : mg "number_of_cases" = some (.ref fN)) (kN : PySem.W.keepIn K (.ref fN) = true)
    (GP : FnOk P w K mg base CX0 k fP fdP ["sizes", "place"] (spNth K)) (bP : Binds K fdP ["sizes", "place"] []) (gP : mg "case_of_place" = some (.ref fP)) (kP : PySem.W.keepIn K (.ref fP) = true) : FnOk P w K mg base CX0 (k + 1) f fd ["sizes", "index"] (spNth K) := by
  refine F.ok scNth (fun vs H Q E h => ?_) (fun cdv A outer s H vs Q E hr h => ?_)
  · obtain ⟨a, b, ns, rfl, _⟩ := h
    rfl
  · obtain ⟨a, n, ns, rfl, hS, n0, n1, q⟩ := h
    refine ⟨_, pss_cons (ps_expr (pe_call GS hr (by rfl) gS kS bS .nil pass0 (pa_cons (pv 0) pa_nil)))
      (pss_cons (ps_expr (pe_call GC hr (by rfl) gC kC bC .nil pass0 (pa_cons (pv 1) (pa_cons (pe_call GN hr (by rfl) gN kN bN .nil pass0 (pa_cons (pv 0) pa_nil)) pa_nil))))
      (pss_one (ps_ret (pe_call GP hr (by rfl) gP kP bP .nil pass0 (pa_cons (pv 0) (pa_cons (pv 1) pa_nil)))))), ?_⟩
    have ep := prodA_one ns
    refine ⟨_, rfl, a, ns, rfl, hS, fun H1 s1 => ?_⟩
    refine ⟨_, rfl, _, rfl, a, ns, rfl, hS.sm s1, n, prodA 1 ns, rfl, n0, by rw [ep]; exact n1, ?_⟩
    exact ⟨_, rfl, _, rfl, a, n, ns, rfl, hS.sm s1, n0, n1, fun H' b ws s2 hb e r p => q H' b ws (s1.trans s2) (s1.free hb) e r p⟩
end
end Lk
namespace Lk
open PySem PySem.Spec PyProof.Rows L2
abbrev sRow : Stmt := top 26
abbrev sLPlace : Stmt := top 27
abbrev sIsRow : Stmt := top 28
abbrev sIndex : Stmt := top 29
theorem DeckAt.some1 {H : Hp} {p c : Addr} (h : DeckAt H p c) : ∃ o, H p = some o := by
  obtain ⟨_, _, _, _, h, _⟩ := h
  exact ⟨_, h⟩
theorem DeckAt.some2 {H : Hp} {p c : Addr} (h : DeckAt H p c) : ∃ o, H c = some o := by
  obtain ⟨_, _, _, _, _, h, _⟩ := h
  exact ⟨_, h⟩
theorem DeckAt.sm {H H' : Hp} {p c : Addr} (s : Same H H') (h : DeckAt H p c) : DeckAt H' p c := by
  obtain ⟨a1, a2, a3, a4, h1, h2, r⟩ := h
  exact ⟨a1, a2, a3, a4, s _ _ h1, s _ _ h2, r⟩
theorem DeckAt.apart {H : Hp} {p c b : Addr} (h : DeckAt H p c) (n : H b = none) : b ≠ p ∧ b ≠ c := by
  obtain ⟨o1, h1⟩ := DeckAt.some1 h
  obtain ⟨o2, h2⟩ := DeckAt.some2 h
  exact ⟨(ne_of_none h1 n).symm, (ne_of_none h2 n).symm⟩
theorem DeckAt.upd {H : Hp} {p c b : Addr} {o : HO} (n1 : b ≠ p) (n2 : b ≠ c) (h : DeckAt H p c) : DeckAt (L2.upd H b o) p c := by
  obtain ⟨a1, a2, a3, a4, h1, h2, r⟩ := h
  exact ⟨a1, a2, a3, a4, by rw [upd_ne n1.symm]; exact h1, by rw [upd_ne n2.symm]; exact h2, r⟩
theorem Kept.trans {p c : Addr} {H H1 H2 : Hp} (a : Kept p c H H1) (b : Kept p c H1 H2) : Kept p c H H2 := fun x o n1 n2 e => b x o n1 n2 (a x o n1 n2 e)
theorem Kept.of {p c : Addr} {H H1 : Hp} (a : Same H H1) : Kept p c H H1 := fun x o _ _ e => a x o e
theorem free_upd {H : Hp} {b : Addr} {o : HO} : ∀ x, L2.upd H b o x = none → H x = none := fun x h => by
  by_cases e : x = b
  · rw [e, upd_same] at h
    cases h
  · rw [upd_ne e] at h
    exact h
theorem small_log {i : Int} (h0 : 0 ≤ i) (h : i < 2 ^ 60) : i.natAbs.log2 < 9000 := by
  by_cases z : i.natAbs = 0
  · rw [z]
    decide
  · have := (Nat.log2_lt (n := i.natAbs) (k := 60) z).mpr (by omega)
    omega
theorem suf_step {ns vs : List Int} {j : Nat} {s v : Int} (hs : ns[j]? = some s) (hv : vs[j]? = some v) :
    plI (ns.drop (j + 1)) (vs.drop (j + 1)) + v * prodI (ns.drop (j + 1)) = plI (ns.drop j) (vs.drop j) ∧ prodI (ns.drop (j + 1)) * s = prodI (ns.drop j) := by
  rw [drop_cons hs, drop_cons hv]
  refine ⟨?_, ?_⟩
  · show _ = v * prodI (ns.drop (j + 1)) + plI (ns.drop (j + 1)) (vs.drop (j + 1))
    omega
  · show _ = s * prodI (ns.drop (j + 1))
    exact Int.mul_comm _ _
section
variable {P : Program} {w : World} {K : PySem.W.Frag} {mg : Str → Option Value} {base : Heap}
/-- sizes on a list of the call's own -/
def SizesL (H : Hp) (s : Addr) (ns : List Int) : Prop := H s = some (.lst (ns.map V.int)) ∧ ns.length ≤ 24 ∧ ∀ i ∈ ns, 2 ≤ i ∧ i ≤ 6
theorem SizesL.at {H : Hp} {s : Addr} {ns : List Int} (h : SizesL H s ns) : SizesAt K H s ns := ⟨.inl (.inl h.1), h.2⟩
theorem scRow : FnScope ["deck", "sizes_here", "size"] ["deck", "sizes_here"] (defScope sRow) := ⟨rfl, rfl, rfl, by decide +kernel, rfl, by decide +kernel, by decide +kernel⟩
def spRow : Sp := fun vs H Q _ => ∃ (p c s : Addr) (ns : List Int), vs = [.ref p, .ref s] ∧ DeckAt H p c ∧ SizesL H s ns ∧ s ≠ p ∧ s ≠ c ∧
  ∀ H' r ws, Kept p c H H' → DeckAt H' p c → (∀ b, H' b = none → H b = none) → H r = none → H' r = some (.lst (ws.map V.int)) → RowI ns ws → Q (.ref r) H'
theorem ok_row {f fT : Addr} {fd fdT : FuncData} {k : Nat} (F : Fun K "_law_row" "_law_row" sRow f fd) (GT : FnOk P w K mg base CX0 k fT fdT ["deck", "wide"] spTake)
    (bT : Binds K fdT ["deck", "wide"] []) (gT : mg "_law_take" = some (.ref fT)) (kT : PySem.W.keepIn K (.ref fT) = true) : FnOk P w K mg base CX0 (k + 1) f fd ["deck", "sizes_here"] spRow := by
  refine F.ok scRow (fun vs H Q E h => ?_) (fun cdv A outer s H vs Q E hr h => ?_)
  · obtain ⟨p, c, s, ns, rfl, _⟩ := h
    rfl
  · obtain ⟨p, c, s0, ns, rfl, hD, hS, nsp, nsc, q⟩ := h
    refine ⟨_, pss_one (ps_ret (pe_lc (own := [("size", 2)]) (g := gName 2) (tt := tYes) rfl scRow.nd (pi_list (pv 1)) (blkOk_by (own := [("size", 2)]) (N := ["deck", "sizes_here", "size"]) (sc := defScope sRow) (by decide +kernel))
      (fun _ _ _ _ _ => pg_name (i := 2) scRow.nd rfl (Or.inl rfl)) (fun _ _ _ _ _ => pts_nil) (fun _ _ _ _ _ => pe_call GT hr (by rfl) gT kT bT .nil pass0 (pa_cons (pv 0) (pa_cons (pv 2) pa_nil))))), ?_⟩
    refine ⟨_, rfl, s0, rfl, ⟨_, .inl (.inl hS.1)⟩, fun D nD => ?_⟩
    have ap := DeckAt.apart hD nD
    have nsD : s0 ≠ D := ne_of_none hS.1 nD
    refine lc_list (K := K) (a := s0) (xs := ns.map V.int) (fun i H' => ∃ ws : List Int, ws.length = i ∧ RowI (ns.take i) ws ∧ Kept p c H H' ∧ DeckAt H' p c ∧ (∀ b, H' b = none → H b = none) ∧ H' D = some (.lst (ws.map V.int)))
      ⟨[], rfl, trivial, Kept.of (same_upd nD), DeckAt.upd ap.1 ap.2 hD, free_upd, upd_same⟩ (fun i H' _ ⟨_, _, _, kp, _⟩ => .inl (.inl (kp _ _ nsp nsc hS.1))) ?_ ?_
    · rintro i v H' hi ⟨ws, el, hR, kp, D1, fr, eD⟩
      rw [List.getElem?_map] at hi
      obtain ⟨n, hn, rfl⟩ := Option.map_eq_some_iff.mp hi
      have bs := hS.2.2 n (List.mem_of_getElem? hn)
      have lt : i < ns.length := (List.getElem?_eq_some_iff.mp hn).1
      refine ⟨rfl, ?_⟩
      refine ⟨_, rfl, _, rfl, p, c, n, rfl, D1, by omega, small_log (by omega) (by omega), fun H1 r k1 D2 r0 r1 f1 => ?_⟩
      refine ⟨_, k1 _ _ ap.1 ap.2 eD, ?_, ws ++ [r], ?_, ?_, ?_, DeckAt.upd ap.1 ap.2 D2, fun b h => fr b (f1 b (free_upd b h)), ?_⟩
      · rw [List.length_map]
        have := hS.2.1
        exact small1000 (by omega)
      · rw [List.length_append, el]
        rfl
      · rw [take_snoc hn]
        exact hR.snoc r0 r1
      · intro b o n1 n2 e
        have nb : b ≠ D := ne_of_none e nD
        rw [upd_ne nb]
        exact k1 b o n1 n2 (kp b o n1 n2 e)
      · rw [upd_same, List.map_append]
        rfl
    · rintro H' ⟨ws, el, hR, kp, D1, fr, eD⟩
      rw [List.length_map, List.take_length] at hR
      exact q H' D ws kp D1 fr nD eD hR
theorem scLPlace : FnScope ["sizes_here", "row", "found", "worth", "k"] ["sizes_here", "row"] (defScope sLPlace) := ⟨rfl, rfl, rfl, by decide +kernel, rfl, by decide +kernel, by decide +kernel⟩
def spLPlace (K : PySem.W.Frag) : Sp := fun vs H Q _ => ∃ a b ns ws, vs = [.ref a, .ref b] ∧ SizesAt K H a ns ∧ CaseAt K H b ns ws ∧ ∀ H' r, Same H H' → H r = none → H' r = some (.lst [.int (plI ns ws), .int (prodI ns)]) → Q (.ref r) H'
theorem ok_lplace {f : Addr} {fd : FuncData} {k : Nat} (F : Fun K "_law_place" "_law_place" sLPlace f fd) (T : Txt2 mg) : FnOk P w K mg base CX0 (k + 1) f fd ["sizes_here", "row"] (spLPlace K) := by
  refine F.ok scLPlace (fun vs H Q E h => ?_) (fun cdv A outer s H vs Q E hr h => ?_)
  · obtain ⟨a, b, ns, ws, rfl, _⟩ := h
    rfl
  · obtain ⟨a, b, ns, ws, rfl, hS, hB, q⟩ := h
    refine ⟨_, pss_cons (ps_asg (pe_tupN (pa_cons pe_int (pa_cons pe_int pa_nil))) (pg_tup (by rfl) (pgs_cons (pg_name (i := 2) scLPlace.nd rfl (.inl rfl)) (pgs_cons (pg_name (i := 3) scLPlace.nd rfl (.inl rfl)) pgs_nil))))
      (pss_cons (ps_for PassesOwn.never rfl (pi_range3 rfl T.range (pa_cons (pe_op op_sub (pe_callB call_len_seq (by rfl) T.T.len PySem.boot_len (pa_cons (pv 1) pa_nil)) pe_int) (pa_cons (pe_un un_neg pe_int) (pa_cons (pe_un un_neg pe_int) pa_nil)))) (pg_name (i := 4) scLPlace.nd rfl (.inl rfl))
        (pss_cons (ps_set (i := 2) scLPlace.nd rfl (.inl rfl) (pe_op op_add (pv 2) (pe_op op_mul (pe_ix ix_list (pv 1) (pv 4) (fun _ _ => rfl)) (pv 3))))
        (pss_one (ps_set (i := 3) scLPlace.nd rfl (.inl rfl) (pe_op op_mul (pv 3) (pe_ix ix_list (pv 0) (pv 4) (fun _ _ => rfl)))))))
      (pss_one (ps_ret (pe_lstN (pa_cons (pv 2) (pa_cons (pv 3) pa_nil)))))), ?_⟩
    have l24 := hS.2.1
    have ll := hB.2.len
    refine ⟨by show 2 ≤ sizeLine; decide, fun tp H0 s0 n0 e0 => ⟨tp, _, rfl, .inl (.inl e0), rfl, _, _, rfl, _, _, rfl, rfl, ?_⟩⟩
    replace hS := hS.sm s0
    replace hB := hB.sm s0
    refine ⟨_, rfl, b, _, rfl, .inl hB.1, (ns.length : Int), 1, by rw [List.length_map, ll], rfl, _, rfl, _, rfl, (ns.length : Int) - 1, -1, -1, _, rfl, RgC.neg (by omega) (by omega) (by omega) (by omega),
      for_rangeC (c := -1) (fun i σ H' => ∃ (y : Option V), σ = [some (.ref a), some (.ref b), some (.int (plI (ns.drop (ns.length - i)) (ws.drop (ns.length - i)))), some (.int (prodI (ns.drop (ns.length - i)))), y] ∧ H' = H0 ∧ i ≤ ns.length)
      ⟨none, ?_, rfl, Nat.zero_le _⟩ ?_ ?_⟩
    · rw [Nat.sub_zero, List.drop_length]
      rfl
    · rintro i σ H' hi ⟨y, rfl, rfl, hle⟩
      have hi2 : i < ns.length := by omega
      obtain ⟨j, hj⟩ : ∃ j, ns.length - i = j + 1 := ⟨ns.length - i - 1, by omega⟩
      have hj2 : ns.length - (i + 1) = j := by omega
      have lt : j < ns.length := by omega
      have e1 := List.getElem?_eq_getElem lt
      obtain ⟨v, e2, b1, b2⟩ := RowI.get hB.2 e1
      have bs := hS.2.2 _ (List.getElem_mem lt)
      have g1 : (ns.map V.int)[j]? = some (.int ns[j]) := by
        rw [List.getElem?_map, e1]
        rfl
      have g2 : (ws.map V.int)[j]? = some (.int v) := by
        rw [List.getElem?_map, e2]
        rfl
      have at0 : (ns.length : Int) - 1 + (i : Int) * (-1) = (j : Int) := by omega
      refine ⟨_, rfl, _, rfl, _, rfl, b, _, _, _, rfl, rfl, hB.1, at_of at0 g2, _, rfl, v, _, rfl, rfl, .inl ⟨by omega, by omega⟩, _, _, rfl, rfl, ?_⟩
      refine ⟨_, rfl, _, rfl, _, rfl, a, _, _, _, rfl, rfl, hS.1, at_of at0 g1, _, ns[j], rfl, rfl, .inr ⟨by omega, by omega⟩, ?_⟩
      have st := suf_step e1 e2
      refine ⟨some (.int ((ns.length : Int) - 1 + (i : Int) * (-1))), ?_, rfl, hi2⟩
      rw [hj, hj2, ← st.1, ← st.2]
      rfl
    · rintro σ H' ⟨y, rfl, rfl, hle⟩
      have ez : ns.length - ((ns.length : Int) - 1 - -1).toNat = 0 := by omega
      rw [ez, List.drop_zero, List.drop_zero]
      refine ⟨_, rfl, _, rfl, by show 2 ≤ sizeLine; decide, fun r H1 s1 n1 e1 => q H1 r (s0.trans s1) (s0.free n1) e1⟩
theorem scIndex : FnScope ["deck", "whole"] ["deck", "whole"] (defScope sIndex) := ⟨rfl, rfl, rfl, by decide +kernel, rfl, by decide +kernel, by decide +kernel⟩
def spIndex : Sp := fun vs H Q _ => ∃ (p c : Addr) (n : Int), vs = [.ref p, .int n] ∧ DeckAt H p c ∧ 0 < n ∧ ∀ H' r, Kept p c H H' → DeckAt H' p c → (∀ b, H' b = none → H b = none) → 0 ≤ r → r < n → Q (.int r) H'
theorem ok_index {f fT : Addr} {fd fdT : FuncData} {k : Nat} (F : Fun K "_law_index" "_law_index" sIndex f fd) (mi : mg "int" = none) (GT : FnOk P w K mg base CX0 k fT fdT ["deck", "wide"] spTake)
    (bT : Binds K fdT ["deck", "wide"] []) (gT : mg "_law_take" = some (.ref fT)) (kT : PySem.W.keepIn K (.ref fT) = true) : FnOk P w K mg base CX0 (k + 1) f fd ["deck", "whole"] spIndex := by
  refine F.ok scIndex (fun vs H Q E h => ?_) (fun cdv A outer s H vs Q E hr h => ?_)
  · obtain ⟨p, c, n, rfl, _⟩ := h
    rfl
  · obtain ⟨p, c, n, rfl, hD, hn, q⟩ := h
    refine ⟨_, pss_one (ps_ret (pe_op op_mod (pe_callTy call_int1 (by rfl) mi (by decide +kernel) (pa_cons (pe_op op_add (pe_op op_mul (pe_call GT hr (by rfl) gT kT bT .nil pass0 (pa_cons (pv 0) (pa_cons (pe_op op_pow pe_int pe_int) pa_nil))) (pe_op op_pow pe_int pe_int))
      (pe_call GT hr (by rfl) gT kT bT .nil pass0 (pa_cons (pv 0) (pa_cons (pe_op op_pow pe_int pe_int) pa_nil)))) pa_nil)) (pv 1))), ?_⟩
    refine ⟨_, rfl, _, _, rfl, rfl, ⟨by decide, by decide, by decide⟩, p, c, _, rfl, hD, by decide, by decide, fun H1 r1 k1 D1 r10 r11 f1 => ?_⟩
    have r11' : r1 < 10 ^ 10 := r11
    refine ⟨_, _, rfl, rfl, ⟨by decide, by decide, by decide⟩, _, _, rfl, rfl, .inl ⟨by omega, by omega⟩, ?_⟩
    refine ⟨_, rfl, _, _, rfl, rfl, ⟨by decide, by decide, by decide⟩, p, c, _, rfl, D1, by decide, by decide, fun H2 r2 k2 D2 r20 r21 f2 => ?_⟩
    exact ⟨_, _, rfl, rfl, .inl ⟨_, rfl, _, rfl, _, _, rfl, rfl, hn, q H2 _ (Kept.trans k1 k2) D2 (fun b h => f1 b (f2 b h)) (Int.emod_nonneg _ (by omega)) (Int.emod_lt_of_pos _ hn)⟩⟩
theorem scIsRow : FnScope ["sizes_here", "thing", "odd", "one", "k"] ["sizes_here", "thing"] (defScope sIsRow) := ⟨rfl, rfl, rfl, by decide +kernel, rfl, by decide +kernel, by decide +kernel⟩
def spIsRow (K : PySem.W.Frag) : Sp := fun vs H Q _ => ∃ a b ns ws, vs = [.ref a, .ref b] ∧ SizesAt K H a ns ∧ CaseAt K H b ns ws ∧ ∀ H', Same H H' → Q (.bl true) H'
theorem ok_isRow {f : Addr} {fd : FuncData} {k : Nat} (F : Fun K "_law_is_row" "_law_is_row" sIsRow f fd) (T : Txt2 mg) : FnOk P w K mg base CX0 (k + 1) f fd ["sizes_here", "thing"] (spIsRow K) := by
  refine F.ok scIsRow (fun vs H Q E h => ?_) (fun cdv A outer s H vs Q E hr h => ?_)
  · obtain ⟨a, b, ns, ws, rfl, _⟩ := h
    rfl
  · obtain ⟨a, b, ns, ws, rfl, hS, hB, q⟩ := h
    refine ⟨_, pss_cons (ps_if (PW.pt (pw_or (pt_not (pt_val (pe_callB (call_isiD "list") (by rfl) T.T.isi (by decide +kernel) (pa_cons (pv 1) (pa_cons (pe_bltn (v := .ty "list") (by rfl) T.T.list (by decide +kernel) rfl) pa_nil)))))
        (pw_or1 (pt_cmpR op_ne (pe_callB call_len_seq (by rfl) T.T.len PySem.boot_len (pa_cons (pv 1) pa_nil)) (pe_callB call_len_seq (by rfl) T.T.len PySem.boot_len (pa_cons (pv 0) pa_nil)) (nomark _))))) (pss_one (ps_ret pe_bl)) pss_nil)
      (pss_cons (ps_setLc (i := 2) (own := [("one", 3)]) (g := gName 3) rfl scIsRow.nd rfl rfl (sw_true rfl rfl rfl (by decide +kernel)) (pi_list (pv 1)) (blkOk_by (own := [("one", 3)]) (N := ["sizes_here", "thing", "odd", "one", "k"]) (sc := defScope sIsRow) (by decide +kernel))
          (fun _ _ _ _ _ => pg_name (i := 3) scIsRow.nd rfl (Or.inl rfl))
          (fun _ _ _ _ _ => pts_one (PW.pt (pw_or (pt_val (pe_callB (call_isiDK (K := K) "bool") (by rfl) T.T.isi (by decide +kernel) (pa_cons (pv 3) (pa_cons (pe_bltn (v := .ty "bool") (by rfl) T.T.bool (by decide +kernel) rfl) pa_nil))))
            (pw_or1 (pt_not (pt_val (pe_callB (call_isiDK (K := K) "int") (by rfl) T.T.isi (by decide +kernel) (pa_cons (pv 3) (pa_cons (pe_bltn (v := .ty "int") (by rfl) T.T.int (by decide +kernel) rfl) pa_nil)))))))))
          (fun _ _ _ _ _ => pv 3))
      (pss_cons (ps_if (pt_cmpR (op_neD hr.units) (pv 2) (pe_lstN pa_nil) (nomark _)) (pss_one (ps_ret pe_bl)) pss_nil)
      (pss_one (ps_ret (pe_cmpR (op_eqD hr.units)
        (pe_lc (own := [("k", 4)]) (g := gName 4) rfl scIsRow.nd (pi_range1 rfl T.range (pa_cons (pe_callB call_len_seq (by rfl) T.T.len PySem.boot_len (pa_cons (pv 1) pa_nil)) pa_nil)) (blkOk_by (own := [("k", 4)]) (N := ["sizes_here", "thing", "odd", "one", "k"]) (sc := defScope sIsRow) (by decide +kernel))
          (fun _ _ _ _ _ => pg_name (i := 4) scIsRow.nd rfl (Or.inl rfl))
          (fun _ _ _ _ _ => pts_one (pt_not (pt_chain op_le op_lt pe_int (pe_ix (r := rIxL K) ix_list (pv 1) (pv 4) (fun _ _ => rfl)) (pe_ix (r := rIxL K) ix_list (pv 0) (pv 4) (fun _ _ => rfl)))))
          (fun _ _ _ _ _ => pv 4))
        (pe_lstN pa_nil) (nomark _)))))), ?_⟩
    have l24 := hS.2.1
    have ll := hB.2.len
    have dB : Dp K H (.ref b) (.list (ws.map PyData.int)) := .lst hB.1 (DpAll.ints ws)
    refine ⟨_, rfl, _, _, rfl, dB, _, rfl, iteF ?_⟩
    refine ⟨_, rfl, b, _, rfl, .inl hB.1, _, rfl, a, _, rfl, .inl hS.1, rfl, _, rfl, iteNS ?_ ?_⟩
    · rw [List.length_map, List.length_map, ll]
    -- odd
    refine ⟨_, rfl, b, rfl, ⟨_, hB.1⟩, fun D nD => ?_⟩
    have s1 := same_upd (o := .lst []) nD
    refine lc_list (K := K) (a := b) (xs := ws.map V.int) (fun i H' => Same H H' ∧ H' D = some (.lst [])) ⟨s1, upd_same⟩ (fun i H' _ ⟨sm, _⟩ => sm.seq hB.1) ?_ ?_
    · rintro i x H' hx ⟨sm, eD⟩
      obtain ⟨v, _, rfl⟩ := List.mem_map.mp (List.mem_of_getElem? hx)
      refine ⟨rfl, ?_⟩
      exact ⟨_, rfl, _, .int v, rfl, .int v, _, rfl, iteF ⟨_, rfl, _, .int v, rfl, .int v, _, rfl, iteF ⟨sm, eD⟩⟩⟩
    · rintro H1 ⟨sm1, eD⟩
      refine ⟨_, rfl, by show 0 ≤ sizeLine; decide, fun e1 H2 s2 n2 e2 => ?_⟩
      refine ⟨.list [], .list [], .lst (.inl (.inl (s2 _ _ eD))) .nil, .lst (.inl (.inl e2)) .nil, by decide +kernel, by decide +kernel, _, rfl, iteF ?_⟩
      have sm2 := sm1.trans s2
      refine ⟨_, rfl, b, _, rfl, .inl (sm2.seq hB.1), (ws.length : Int), by rw [List.length_map], by omega, by omega, fun D2 nD2 => ?_⟩
      have s3 := same_upd (o := .lst []) nD2
      refine lc_range (lo := 0) (n := ((ws.length : Nat) : Int).toNat) (fun i H' => Same H2 H' ∧ H' D2 = some (.lst [])) ⟨s3, upd_same⟩ ?_ ?_
      · rintro i H' hi ⟨sm, eD2⟩
        have lt : i < ns.length := by omega
        have e1' := List.getElem?_eq_getElem lt
        obtain ⟨v, e2', b1, b2⟩ := RowI.get hB.2 e1'
        have g1 : (ns.map V.int)[i]? = some (.int ns[i]) := by
          rw [List.getElem?_map, e1']
          rfl
        have g2 : (ws.map V.int)[i]? = some (.int v) := by
          rw [List.getElem?_map, e2']
          rfl
        have sm3 := sm2.trans sm
        refine ⟨rfl, ?_⟩
        refine ⟨_, rfl, _, rfl, b, _, _, _, rfl, rfl, sm3.seq hB.1, at_of (Int.zero_add _) g2, _, _, rfl, rfl, _, rfl, ?_⟩
        rw [decide_eq_true b1]
        refine iteT ⟨_, rfl, _, rfl, a, _, _, _, rfl, rfl, sm3.seq hS.1, at_of (Int.zero_add _) g1, _, _, rfl, rfl, _, rfl, ?_⟩
        rw [decide_eq_true b2]
        exact iteF ⟨sm, eD2⟩
      · rintro H3 ⟨sm, eD2⟩
        refine ⟨by show 0 ≤ sizeLine; decide, fun e4 H4 s4 n4 e4' => ?_⟩
        exact ⟨.list [], .list [], .lst (.inl (.inl (s4 _ _ eD2))) .nil, .lst (.inl (.inl e4')) .nil, by decide +kernel, by decide +kernel, q H4 ((sm2.trans sm).trans s4)⟩
end
end Lk
namespace Lk
open PySem PySem.Spec PyProof.Rows L2
abbrev sRight : Stmt := top 30
abbrev sLaw : Stmt := top 31
theorem Ok.intB {n w : Nat} {i : Int} (h : i.natAbs < 2 ^ 64) (hw : 64 ≤ w) : Ok n w (.int i) := by
  have l : i.natAbs.log2 < 64 := by
    by_cases z : i.natAbs = 0
    · rw [z]
      decide
    · exact (Nat.log2_lt z).mpr h
  have h20 : i.natAbs < 10 ^ 20 := Nat.lt_trans h (by decide)
  have e : (PyData.shown (.int i)).length ≤ 64 := by
    have e := int_text_length_le10 (k := 20) (by decide) h20
    show (Str.ofString (toString i)).length ≤ 64
    rw [PySem.ofString_length]
    omega
  refine ⟨decide_eq_true (by omega), rfl, Nat.zero_le _, rfl, decide_eq_true e, ?_⟩
  show (if i == 0 then 0 else i.natAbs.log2 + 1) ≤ w
  split
  · exact Nat.zero_le _
  · omega
theorem Ok.d64 {n w : Nat} {d : PyData} (ok : Ok n w d) (hn : n ≤ 60 := by decide) : d.depth + 1 ≤ 64 := by
  have := ok.dp
  omega
abbrev ii (a : Int) : PyData := .list [.int a, .int a]
theorem dp_ii {K : PySem.W.Frag} {H : Hp} {p : Addr} {a : Int} (e : H p = some (.lst [.int a, .int a])) : Dp K H (.ref p) (ii a) := .lst (.inl (.inl e)) (.cons (.int _) (.cons (.int _) .nil))
theorem prod_top : ∀ {ns : List Int}, ns.length ≤ 24 → (∀ i ∈ ns, 2 ≤ i ∧ i ≤ 6) → prodI ns ≤ 6 ^ 24 := fun {ns} hl hn => by
  have step : ∀ ns : List Int, (∀ i ∈ ns, 2 ≤ i ∧ i ≤ 6) → prodI ns ≤ 6 ^ ns.length := by
    intro ns
    induction ns with
    | nil => intro _; decide
    | cons n ns ih =>
      intro h
      have b := h n (List.mem_cons_self ..)
      have ih := ih fun i hi => h i (List.mem_cons_of_mem _ hi)
      have p := prodI_pos (ns := ns) fun i hi => by have := h i (List.mem_cons_of_mem _ hi); omega
      show n * prodI ns ≤ 6 ^ (ns.length + 1)
      rw [Int.pow_succ, Int.mul_comm (6 ^ ns.length) 6]
      calc n * prodI ns ≤ 6 * prodI ns := Int.mul_le_mul_of_nonneg_right b.2 (by omega)
        _ ≤ 6 * 6 ^ ns.length := Int.mul_le_mul_of_nonneg_left ih (by decide)
  have c : (6 : Int) ^ ns.length ≤ 6 ^ 24 := by
    have : (6 : Nat) ^ ns.length ≤ 6 ^ 24 := Nat.pow_le_pow_right (by decide) hl
    exact_mod_cast this
  exact Int.le_trans (step ns hn) c
theorem ok_ii' {z : Int} (h0 : 0 ≤ z) (h1 : z < 6 ^ 24) : Ok 1 200 (ii z) := by
  have d : (6 : Int) ^ 24 < 2 ^ 64 := by decide
  have o : Ok 0 64 (.int z) := .intB (by omega) (by decide)
  exact (Ok.list (n := 0) (w := 64) (L := 2) (.cons o (.cons o .nil)) (by show 2 ≤ 2; decide)).mono (by decide) (by decide)
theorem row_abs {ns ws : List Int} (h : RowI ns ws) (hn : ∀ i ∈ ns, 2 ≤ i ∧ i ≤ 6) : ∀ v ∈ ws, v.natAbs < 2 ^ 30 := fun v hv => by
  obtain ⟨i, hi⟩ := List.mem_iff_getElem?.mp hv
  have lt : i < ns.length := by
    have := (List.getElem?_eq_some_iff.mp hi).1
    rw [h.len] at this
    exact this
  obtain ⟨u, e, b1, b2⟩ := RowI.get h (List.getElem?_eq_getElem lt)
  rw [hi] at e
  cases e
  have := hn _ (List.getElem_mem lt)
  omega
theorem ok_ints' {ns : List Int} (hl : ns.length ≤ 24) (hn : ∀ v ∈ ns, v.natAbs < 2 ^ 30) : Ok 1 1000 (.list (ns.map PyData.int)) :=
  (Ok.list (n := 0) (w := 30) (L := 24) (okAll.ints hn (by decide)) (by rw [List.length_map]; exact hl)).mono (by decide) (by decide)
section
variable {P : Program} {w : World} {K : PySem.W.Frag} {mg : Str → Option Value} {base : Heap}
structure Fns (P : Program) (w : World) (K : PySem.W.Frag) (mg : Str → Option Value) (base : Heap) (k : Nat) : Prop where
  take : ∃ f fd, FnOk P w K mg base CX0 k f fd ["deck", "wide"] spTake ∧ Binds K fd ["deck", "wide"] [] ∧ mg "_law_take" = some (.ref f) ∧ PySem.W.keepIn K (.ref f) = true
  deck : ∃ f fd, FnOk P w K mg base CX0 k f fd ["script"] (spDeck K) ∧ Binds K fd ["script"] [] ∧ mg "_law_deck" = some (.ref f) ∧ PySem.W.keepIn K (.ref f) = true
  row : ∃ f fd, FnOk P w K mg base CX0 k f fd ["deck", "sizes_here"] spRow ∧ Binds K fd ["deck", "sizes_here"] [] ∧ mg "_law_row" = some (.ref f) ∧ PySem.W.keepIn K (.ref f) = true
  lplace : ∃ f fd, FnOk P w K mg base CX0 k f fd ["sizes_here", "row"] (spLPlace K) ∧ Binds K fd ["sizes_here", "row"] [] ∧ mg "_law_place" = some (.ref f) ∧ PySem.W.keepIn K (.ref f) = true
  isrow : ∃ f fd, FnOk P w K mg base CX0 k f fd ["sizes_here", "thing"] (spIsRow K) ∧ Binds K fd ["sizes_here", "thing"] [] ∧ mg "_law_is_row" = some (.ref f) ∧ PySem.W.keepIn K (.ref f) = true
  index : ∃ f fd, FnOk P w K mg base CX0 k f fd ["deck", "whole"] spIndex ∧ Binds K fd ["deck", "whole"] [] ∧ mg "_law_index" = some (.ref f) ∧ PySem.W.keepIn K (.ref f) = true
  nth : ∃ f fd, FnOk P w K mg base CX0 k f fd ["sizes", "index"] (spNth K) ∧ Binds K fd ["sizes", "index"] [] ∧ KBinds K fd ["sizes", "index"] ["index", "sizes"] g21 g21 ∧ mg "nth_case" = some (.ref f) ∧ PySem.W.keepIn K (.ref f) = true
  cix : ∃ f fd, FnOk P w K mg base CX0 k f fd ["sizes", "case"] (spCaseIndex K) ∧ Binds K fd ["sizes", "case"] [] ∧ KBinds K fd ["sizes", "case"] ["case", "sizes"] g21 g21 ∧ mg "case_index" = some (.ref f) ∧ PySem.W.keepIn K (.ref f) = true
theorem scRight : FnScope ["deck", "sizes_here", "row", "kept", "place", "whole", "same", "told", "at"] ["deck", "sizes_here"] (defScope sRight) := ⟨rfl, rfl, rfl, by decide +kernel, rfl, by decide +kernel, by decide +kernel⟩
def spRight : Sp := fun vs H Q _ => ∃ (p c s : Addr) (ns : List Int), vs = [.ref p, .ref s] ∧ DeckAt H p c ∧ SizesL H s ns ∧ s ≠ p ∧ s ≠ c ∧ ∀ H', DeckAt H' p c → Q (.bl true) H'
theorem ok_right {f : Addr} {fd : FuncData} {k : Nat} (F : Fun K "_law_right" "_law_right" sRight f fd) (G : Fns P w K mg base k) (mp : mg "repr" = none) (ml : mg "list" = none) : FnG P w K mg base CX0 (k + 1) f fd ["deck", "sizes_here"] spRight := by
  obtain ⟨fR, fdR, GR, bR, gR, kR⟩ := G.row
  obtain ⟨fL, fdL, GL, bL, gL, kL⟩ := G.lplace
  obtain ⟨fI, fdI, GI, bI, gI, kI⟩ := G.isrow
  obtain ⟨fX, fdX, GX, bX, gX, kX⟩ := G.index
  obtain ⟨fN, fdN, GN, bN, kbN, gN, kN⟩ := G.nth
  obtain ⟨fC, fdC, GC, bC, kbC, gC, kC⟩ := G.cix
  refine Fun_okG F scRight (fun vs H Q E h => ?_) (fun cdv A outer s H vs Q E hg hr h => ?_)
  · obtain ⟨p, c, s, ns, rfl, _⟩ := h
    rfl
  · obtain ⟨p, c, s0, ns, rfl, hD, hS, nsp, nsc, q⟩ := h
    refine ⟨_, pss_cons (ps_par (i := 2) (j := 3) (by rfl) scRight.nd rfl rfl (by decide) rfl rfl (pa_cons (pe_call GR hr (by rfl) gR kR bR .nil pass0 (pa_cons (pv 0) (pa_cons (pv 1) pa_nil)))
        (pa_cons (pe_callTy call_listN (by rfl) ml (by decide +kernel) (pa_cons (pv 1) pa_nil)) pa_nil)) (by rfl))
      (pss_cons (ps_asg (pe_call GL hr (by rfl) gL kL bL .nil pass0 (pa_cons (pv 1) (pa_cons (pv 2) pa_nil))) (pg_unl rfl (pgs_cons (pg_name (i := 4) scRight.nd rfl (.inl rfl)) (pgs_cons (pg_name (i := 5) scRight.nd rfl (.inl rfl)) pgs_nil))))
      (pss_cons (ps_set (i := 6) scRight.nd rfl (.inl rfl) (pe_callTy call_listN (by rfl) ml (by decide +kernel) (pa_cons (pv 2) pa_nil)))
      (pss_cons (ps_if (pt_cmpR op_ne (pe_callB (call_repr hg hr.units) (by rfl) mp (by decide +kernel) (pa_cons (pe_lstN (pa_cons (pe_call GC hr (by rfl) gC kC bC .nil pass0 (pa_cons (pv 1) (pa_cons (pv 2) pa_nil)))
            (pa_cons (pe_callK0 GC hr (by rfl) gC kC kbC pass0 (pk_cons (pv 2) (pk_cons (pv 1) pk_nil))) pa_nil))) pa_nil))
          (pe_callB (call_repr hg hr.units) (by rfl) mp (by decide +kernel) (pa_cons (pe_lstN (pa_cons (pv 4) (pa_cons (pv 4) pa_nil))) pa_nil)) (nomark _)) (pss_one (ps_ret pe_bl)) pss_nil)
      (pss_cons (ps_set (i := 7) scRight.nd rfl (.inl rfl) (pe_call GN hr (by rfl) gN kN bN .nil pass0 (pa_cons (pv 1) (pa_cons (pv 4) pa_nil))))
      (pss_cons (ps_if (PW.pt (pw_or (pt_cmpR op_ne (pe_callB (call_repr hg hr.units) (by rfl) mp (by decide +kernel) (pa_cons (pv 7) pa_nil)) (pe_callB (call_repr hg hr.units) (by rfl) mp (by decide +kernel) (pa_cons (pv 6) pa_nil)) (nomark _))
          (pw_or1 (pt_cmpR (op_neD hr.units) (pv 2) (pv 6) (nomark _))))) (pss_one (ps_ret pe_bl)) pss_nil)
      (pss_cons (ps_expr (pe_bm PySem.F.plainAttrs_list PySem.F.slot_list_append PySem.F.type_list_append mt_append (pv 7) (pa_cons pe_int pa_nil)))
      (pss_cons (ps_if (PW.pt (pw_or (pt_cmpR (op_neD hr.units) (pe_callK0 GN hr (by rfl) gN kN kbN pass0 (pk_cons (pv 4) (pk_cons (pv 1) pk_nil))) (pv 6) (nomark _))
          (pw_or1 (pt_cmpR (op_neD hr.units) (pv 1) (pv 3) (nomark _))))) (pss_one (ps_ret pe_bl)) pss_nil)
      (pss_cons (ps_for PassesOwn.never rfl (pi_tup (pe_tupN (pa_cons pe_int (pa_cons (pe_op op_sub (pv 5) pe_int) (pa_cons (pe_call GX hr (by rfl) gX kX bX .nil pass0 (pa_cons (pv 0) (pa_cons (pv 5) pa_nil))) pa_nil))))) (pg_name (i := 8) scRight.nd rfl (.inl rfl))
        (pss_cons (ps_set (i := 7) scRight.nd rfl (.inl rfl) (pe_call GN hr (by rfl) gN kN bN .nil pass0 (pa_cons (pv 1) (pa_cons (pv 8) pa_nil))))
        (pss_cons (ps_if (PW.pt (pw_or (pt_not (pt_val (pe_call GI hr (by rfl) gI kI bI .nil pass0 (pa_cons (pv 1) (pa_cons (pv 7) pa_nil)))))
            (pw_or1 (pt_cmpR op_ne (pe_ix ix_list (pe_call GL hr (by rfl) gL kL bL .nil pass0 (pa_cons (pv 1) (pa_cons (pv 7) pa_nil))) pe_int (fun _ _ => rfl)) (pv 8) (nomark _))))) (pss_one (ps_ret pe_bl)) pss_nil)
        (pss_one (ps_if (PW.pt (pw_and (pt_cmpR op_lt (pe_op op_add (pv 8) pe_int) (pv 5) (nomark _))
            (pw_and1 (pt_not (pt_cmpR (op_ltL hr.units0) (pv 7) (pe_call GN hr (by rfl) gN kN bN .nil pass0 (pa_cons (pv 1) (pa_cons (pe_op op_add (pv 8) pe_int) pa_nil))) (nomark _)))))) (pss_one (ps_ret pe_bl)) pss_nil)))))
      (pss_one (ps_ret pe_bl)))))))))), ?_⟩
    have l24 := hS.2.1
    have hn := hS.2.2
    -- row, kept
    refine ⟨_, rfl, _, rfl, p, c, s0, ns, rfl, hD, hS, nsp, nsc, fun H1 r ws k1 D1 f1 nr er hR => ?_⟩
    have hS1 : SizesL H1 s0 ns := ⟨k1 _ _ nsp nsc hS.1, hS.2⟩
    have pb := pl_bound hR
    have rl := hR.len
    refine ⟨_, rfl, s0, _, rfl, .inl (.inl (.inl hS1.1)), fun kp H2 s2 n2 e2 => ⟨_, _, rfl, ?_⟩⟩
    have cr2 : CaseAt K H2 r ns ws := ⟨.inl (.inl (s2 _ _ er)), hR⟩
    have sz2 : SizesAt K H2 s0 ns := SizesAt.sm s2 hS1.at
    -- place, whole
    refine ⟨_, rfl, _, rfl, s0, r, ns, ws, rfl, sz2, cr2, fun H3 t s3 n3 e3 => ⟨t, _, rfl, .inl (.inl e3), rfl, _, _, rfl, _, _, rfl, rfl, ?_⟩⟩
    -- same
    refine ⟨_, rfl, r, _, rfl, .inl (cr2.sm s3).1, fun m H4 s4 n4 e4 => ?_⟩
    have s24 := s3.trans s4
    have sz4 := sz2.sm s24
    have cr4 := cr2.sm s24
    refine ⟨_, rfl, _, rfl, s0, r, ns, ws, rfl, sz4, cr4, fun H5 s5 => ⟨_, rfl, _, rfl, s0, r, ns, ws, rfl, sz4.sm s5, cr4.sm s5, fun H6 s6 => ⟨by show 2 ≤ sizeLine; decide, fun l1 H7 s7 n7 e7 => ?_⟩⟩⟩
    have oki : Ok 1 200 (ii (plI ns ws)) := ok_ii' pb.1 (Int.lt_of_lt_of_le pb.2 (prod_top l24 hn))
    refine ⟨_, _, rfl, dp_ii e7, oki.sh, oki.nd, oki.d64, oki.fits (by decide), _, rfl, _, rfl, by show 2 ≤ sizeLine; decide, fun l2 H8 s8 n8 e8 => ?_⟩
    refine ⟨_, _, rfl, dp_ii e8, oki.sh, oki.nd, oki.d64, oki.fits (by decide), rfl, _, rfl, iteNS rfl ?_⟩
    have s48 : Same H4 H8 := s5.trans (s6.trans (s7.trans s8))
    have sz8 := sz4.sm s48
    -- told
    refine ⟨_, rfl, _, rfl, s0, _, ns, rfl, sz8, pb.1, pb.2, fun H9 b ws2 s9 n9 e9 hR2 hp2 => ?_⟩
    obtain rfl := pl_inj hR2 hR hp2
    have okw := ok_ints' (by rw [rl]; exact l24) (row_abs hR hn)
    have d9 : Dp K H9 (.ref b) (.list (ws2.map PyData.int)) := .lst (.inl (.inl e9)) (DpAll.ints _)
    have m9 : Dp K H9 (.ref m) (.list (ws2.map PyData.int)) := .lst (.inl (.inl ((s48.trans s9) _ _ e4))) (DpAll.ints _)
    have r9 : Dp K H9 (.ref r) (.list (ws2.map PyData.int)) := .lst (cr4.sm (s48.trans s9)).1 (DpAll.ints _)
    refine ⟨_, rfl, _, _, rfl, d9, okw.sh, okw.nd, okw.d64, okw.fits (by decide), _, rfl, _, _, rfl, m9, okw.sh, okw.nd, okw.d64, okw.fits (by decide), rfl, _, rfl, iteNS rfl ?_⟩
    refine ⟨_, rfl, _, rfl, _, _, r9, m9, okw.shaped (by decide), okw.shaped (by decide), _, rfl, ?_⟩
    rw [eqv_rfl _ okw.nd]
    refine iteF ?_
    -- told.append(0)
    refine ⟨_, rfl, .inl ⟨rfl, _, .inl (.inl e9)⟩, b, _, _, rfl, rfl, e9, by rw [List.length_map]; exact small1000 (by omega), ?_⟩
    have sA : Same H8 (upd H9 b (.lst (ws2.map V.int ++ [V.int 0]))) := fun x o e => by
      rw [upd_ne (ne_of_none e n9)]
      exact s9 x o e
    have szA := sz8.sm sA
    refine ⟨_, rfl, _, rfl, s0, _, ns, rfl, szA, pb.1, pb.2, fun H10 b2 ws3 s10 n10 e10 hR3 hp3 => ?_⟩
    obtain rfl := pl_inj hR3 hR hp3
    have sB := sA.trans s10
    have m10 : Dp K H10 (.ref m) (.list (ws3.map PyData.int)) := .lst (.inl (.inl ((s48.trans sB) _ _ e4))) (DpAll.ints _)
    have oks := ok_ints' l24 (fun v hv => by have := hn v hv; omega)
    refine ⟨_, rfl, _, _, .lst (.inl (.inl e10)) (DpAll.ints _), m10, okw.shaped (by decide), okw.shaped (by decide), _, rfl, ?_⟩
    rw [eqv_rfl _ okw.nd]
    refine iteF ?_
    have kp10 : Dp K H10 (.ref kp) (.list (ns.map PyData.int)) := .lst (.inl (.inl ((s24.trans (s48.trans sB)) _ _ e2))) (DpAll.ints _)
    refine ⟨_, rfl, _, rfl, _, _, (sz8.sm sB).dp, kp10, oks.shaped (by decide), oks.shaped (by decide), _, rfl, ?_⟩
    rw [eqv_rfl _ oks.nd]
    refine iteF ?_
    have pp : 0 < prodI ns := prodI_pos fun s hs => by have := hn s hs; omega
    have D10 : DeckAt H10 p c := DeckAt.sm (s2.trans (s24.trans (s48.trans sB))) D1
    have hs10 : H10 s0 = some (.lst (ns.map V.int)) := (s2.trans (s24.trans (s48.trans sB))) _ _ hS1.1
    -- for at in (..)
    refine ⟨_, rfl, _, _, rfl, rfl, _, rfl, _, rfl, p, c, _, rfl, D10, pp, fun H11 ix k11 D11 f11 ix0 ix1 => ⟨by show 3 ≤ sizeLine; decide, fun tp H12 s12 n12 e12 => ?_⟩⟩
    have hS12 : SizesL H12 s0 ns := ⟨s12 _ _ (k11 _ _ nsp nsc hs10), hS.2⟩
    have D12 := DeckAt.sm s12 D11
    refine ⟨tp, rfl, ⟨_, .inl (.inl e12)⟩, for_tup (K := K) (a := tp) (fun i σ H' => ∃ y7 y8, σ = [some (.ref p), some (.ref s0), some (.ref r), some (.ref kp), some (.int (plI ns ws3)), some (.int (prodI ns)), some (.ref m), y7, y8] ∧ Same H12 H')
      ⟨_, _, rfl, Same.refl _⟩ (fun i σ H' _ ⟨_, _, _, sm⟩ => .inl (.inl (sm _ _ e12))) ?_ ?_⟩
    · rintro i x σ H' hx ⟨y7, y8, rfl, sm⟩
      obtain ⟨z, rfl, z0, z1⟩ : ∃ z, x = V.int z ∧ 0 ≤ z ∧ z < prodI ns := by
        match i, hx with
        | 0, hx => cases hx; exact ⟨_, rfl, by omega, pp⟩
        | 1, hx => cases hx; exact ⟨_, rfl, by omega, by omega⟩
        | 2, hx => cases hx; exact ⟨_, rfl, ix0, ix1⟩
        | n + 3, hx => exact absurd hx (by simp)
      have szH : SizesAt K H' s0 ns := SizesAt.sm sm hS12.at
      refine ⟨_, rfl, _, rfl, s0, z, ns, rfl, szH, z0, z1, fun H13 b3 us s13 n13 e13 hRu hpu => ?_⟩
      have cu13 : CaseAt K H13 b3 ns us := ⟨.inl (.inl e13), hRu⟩
      refine ⟨_, rfl, _, rfl, s0, b3, ns, us, rfl, szH.sm s13, cu13, fun H14 s14 => ⟨_, rfl, iteF ?_⟩⟩
      refine ⟨_, rfl, _, rfl, s0, b3, ns, us, rfl, szH.sm (s13.trans s14), cu13.sm s14, fun H15 t2 s15 n15 e15 => ⟨t2, _, 0, _, rfl, rfl, .inl (.inl e15), atI_nat (j := 0) rfl, _, rfl, rfl, _, rfl, iteNS (by rw [hpu]) ?_⟩⟩
      have s1315 := s14.trans s15
      refine ⟨_, rfl, _, _, rfl, rfl, _, rfl, _, _, rfl, rfl, _, rfl, ite2 (fun e => ?_) (fun e => ?_)⟩
      · have e' : z + 1 < prodI ns := of_decide_eq_true e
        refine ⟨_, rfl, _, rfl, _, rfl, _, _, rfl, rfl, s0, z + 1, ns, rfl, szH.sm (s13.trans s1315), by omega, e', fun H16 b4 us2 s16 n16 e16 hR4 hp4 => ⟨b3, b4, us, us2, rfl, rfl, (cu13.sm (s1315.trans s16)).1, .inl (.inl e16), _, rfl, ?_⟩⟩
        rw [pl_lt hRu hR4 (by omega)]
        exact iteF ⟨_, _, rfl, sm.trans (s13.trans (s1315.trans s16))⟩
      · exact iteF ⟨_, _, rfl, sm.trans (s13.trans s1315)⟩
    · rintro σ H' ⟨y7, y8, rfl, sm⟩
      exact q H' (DeckAt.sm sm D12)
end
end Lk
namespace Lk
open PySem PySem.Spec PyProof.Rows L2
section
variable {P : Program} {w : World} {K : PySem.W.Frag} {mg : Str → Option Value} {base : Heap}
theorem scLaw : FnScope ["script", "deck", "turn", "many", "one"] ["script"] (defScope sLaw) := ⟨rfl, rfl, rfl, by decide +kernel, rfl, by decide +kernel, by decide +kernel⟩
def spLaw (K : PySem.W.Frag) : Sp := fun vs H Q _ => ∃ (a : Addr) (ns : List Int), vs = [.ref a] ∧ SqL K H a (ns.map V.int) ∧ ns.length ≤ 63 ∧ ∀ H', Q (.bl true) H'
theorem ok_law {f fR : Addr} {fd fdR : FuncData} {k : Nat} (F : Fun K "law" "law" sLaw f fd) (G : Fns P w K mg base k) (GR : FnG P w K mg base CX0 k fR fdR ["deck", "sizes_here"] spRight) (bR : Binds K fdR ["deck", "sizes_here"] []) (gR : mg "_law_right" = some (.ref fR)) (kR : PySem.W.keepIn K (.ref fR) = true)
    (mr : mg "range" = none) : FnG P w K mg base CX0 (k + 1) f fd ["script"] (spLaw K) := by
  obtain ⟨fD, fdD, GD, bD, gD, kD⟩ := G.deck
  obtain ⟨fT, fdT, GT, bT, gT, kT⟩ := G.take
  obtain ⟨fN, fdN, GN, bN, kbN, gN, kN⟩ := G.nth
  obtain ⟨fC, fdC, GC, bC, kbC, gC, kC⟩ := G.cix
  refine Fun_okG F scLaw (fun vs H Q E h => ?_) (fun cdv A outer s H vs Q E hg hr h => ?_)
  · obtain ⟨v, d, rfl, _⟩ := h
    rfl
  · obtain ⟨a, ss, rfl, hS, hlen, q⟩ := h
    refine ⟨_, pss_cons (ps_set (i := 1) scLaw.nd rfl (.inr rfl) (pe_call GD hr (by rfl) gD kD bD .nil pass0 (pa_cons (pv 0) pa_nil)))
      (pss_cons (ps_for PassesOwn.never rfl (pi_range1 rfl mr (pa_cons pe_int pa_nil)) (pg_name (i := 2) scLaw.nd rfl (.inl rfl))
        (pss_cons (ps_set (i := 3) scLaw.nd rfl (.inl rfl) (pe_ix ix_list (pe_lstN (pa_cons (pe_call GT hr (by rfl) gT kT bT .nil pass0 (pa_cons (pv 1) (pa_cons pe_int pa_nil)))
            (pa_cons (pe_call GT hr (by rfl) gT kT bT .nil pass0 (pa_cons (pv 1) (pa_cons pe_int pa_nil))) pa_nil))) (pe_call GT hr (by rfl) gT kT bT .nil pass0 (pa_cons (pv 1) (pa_cons pe_int pa_nil))) (fun _ _ => rfl)))
        (pss_one (ps_if (pt_not (pt_val (pe_callG hg GR hr (by rfl) gR kR bR .nil pass0 (pa_cons (pv 1) (pa_cons
            (pe_lc (own := [("one", 4)]) (g := gName 4) (tt := tYes) rfl scLaw.nd (pi_range1 rfl mr (pa_cons (pv 3) pa_nil))
              (blkOk_by (own := [("one", 4)]) (N := ["script", "deck", "turn", "many", "one"]) (sc := defScope sLaw) (by decide +kernel))
              (fun _ _ _ _ _ => pg_name (i := 4) scLaw.nd rfl (Or.inl rfl)) (fun _ _ _ _ _ => pts_nil)
              (fun _ _ _ _ _ => pe_op op_add pe_int (pe_call GT hr (by rfl) gT kT bT .nil pass0 (pa_cons (pv 1) (pa_cons pe_int pa_nil))))) pa_nil))))) (pss_one (ps_ret pe_bl)) pss_nil))))
      (pss_one (ps_ret (pe_and (pe_cmpR (op_eqD hr.units) (pe_call GN hr (by rfl) gN kN bN .nil pass0 (pa_cons (pe_lstN (pa_cons pe_int (pa_cons pe_int pa_nil))) (pa_cons pe_int pa_nil))) (pe_lstN (pa_cons pe_int (pa_cons pe_int pa_nil))) (nomark _))
        (pe_and (pe_cmpR op_eq (pe_call GC hr (by rfl) gC kC bC .nil pass0 (pa_cons (pe_lstN (pa_cons pe_int (pa_cons pe_int pa_nil))) (pa_cons (pe_lstN (pa_cons pe_int (pa_cons pe_int pa_nil))) pa_nil))) pe_int (nomark _))
        (pe_one (pe_cmpR (op_eqD hr.units) (pe_call GN hr (by rfl) gN kN bN .nil pass0 (pa_cons (pe_lstN pa_nil) (pa_cons pe_int pa_nil))) (pe_lstN pa_nil) (nomark _)))))))), ?_⟩
    refine ⟨_, rfl, a, ss, rfl, hS, hlen, fun H1 p c s1 n1 n2 D1 => ?_⟩
    refine ⟨6, rfl, by decide, by decide, for_range (n := 6) (fun i σ H' => ∃ y2 y3 y4, σ = [some (.ref a), some (.ref p), y2, y3, y4] ∧ DeckAt H' p c) ⟨none, none, none, rfl, D1⟩ ?_ ?_⟩
    · rintro i σ H2 hi ⟨y2, y3, y4, rfl, D2⟩
      refine ⟨_, rfl, p, c, 25, rfl, D2, by decide, by decide, fun H3 r3 k3 D3 r30 r31 f3 => ?_⟩
      refine ⟨_, rfl, p, c, 5, rfl, D3, by decide, by decide, fun H4 r4 k4 D4 r40 r41 f4 => ?_⟩
      refine ⟨by show 2 ≤ sizeLine; decide, fun m1 H5 s5 n5 e5 => ?_⟩
      have ap5 := DeckAt.apart D4 n5
      refine ⟨_, rfl, p, c, 2, rfl, DeckAt.sm s5 D4, by decide, by decide, fun H6 r6 k6 D6 r60 r61 f6 => ?_⟩
      have e6 := k6 _ _ ap5.1 ap5.2 e5
      obtain ⟨n, rfl⟩ := Int.eq_ofNat_of_zero_le r60
      have pick : ∃ z : Int, [V.int r3, .int r4][n]? = some (.int z) ∧ 0 ≤ z ∧ z < 25 := by
        have n2 : n < 2 := by omega
        match n, n2 with
        | 0, _ => exact ⟨_, rfl, by omega, by omega⟩
        | 1, _ => exact ⟨_, rfl, by omega, by omega⟩
      obtain ⟨z, hz, z0, z1⟩ := pick
      refine ⟨m1, _, _, _, rfl, rfl, .inl (.inl e6), atI_nat hz, ?_⟩
      refine ⟨_, rfl, _, rfl, z, rfl, by omega, by omega, fun D nD => ?_⟩
      have apD := DeckAt.apart D6 nD
      refine lc_range (lo := 0) (n := z.toNat) (fun i H' => ∃ ms : List Int, ms.length = i ∧ (∀ m ∈ ms, 2 ≤ m ∧ m ≤ 6) ∧ DeckAt H' p c ∧ H' D = some (.lst (ms.map V.int)))
        ⟨[], rfl, fun _ h => (nomatch h), DeckAt.upd apD.1 apD.2 D6, upd_same⟩ ?_ ?_
      · rintro j H7 hj ⟨ms, el, hm, D7, e7⟩
        refine ⟨rfl, ?_⟩
        refine ⟨_, rfl, p, c, 5, rfl, D7, by decide, by decide, fun H8 r8 k8 D8 r80 r81 f8 => ⟨_, _, rfl, rfl, ?_⟩⟩
        refine ⟨_, k8 _ _ apD.1 apD.2 e7, ?_, ms ++ [2 + r8], ?_, ?_, DeckAt.upd apD.1 apD.2 D8, ?_⟩
        · rw [List.length_map]
          exact small1000 (by omega)
        · rw [List.length_append, el]
          rfl
        · intro m h
          rcases List.mem_append.mp h with h | h
          · exact hm m h
          · rw [List.mem_singleton.mp h]
            omega
        · rw [upd_same, List.map_append]
          rfl
      · rintro H8 ⟨ms, el, hm, D8, e8⟩
        refine ⟨p, c, D, ms, rfl, D8, ⟨e8, by omega, hm⟩, apD.1, apD.2, fun H9 D9 => ⟨_, rfl, iteF ?_⟩⟩
        exact ⟨_, _, _, rfl, D9⟩
    · rintro σ H2 ⟨y2, y3, y4, rfl, D2⟩
      refine ⟨by show 2 ≤ sizeLine; decide, fun q1 H3 s3 n3 e3 => ?_⟩
      refine ⟨q1, 4, [2, 3], rfl, ⟨.inl (.inl e3), by decide, by decide⟩, by decide, by decide, fun H4 b ws s4 n4 e4 hR hp => ?_⟩
      obtain rfl : ws = [1, 1] := pl_inj hR (show RowI [2, 3] [1, 1] from ⟨by decide, by decide, by decide, by decide, trivial⟩) (by rw [hp]; decide)
      refine ⟨by show 2 ≤ sizeLine; decide, fun q2 H5 s5 n5 e5 => ?_⟩
      refine ⟨.list [.int 1, .int 1], .list [.int 1, .int 1], .lst (.inl (.inl (s5 _ _ e4))) (DpAll.ints [1, 1]), .lst (.inl (.inl e5)) (DpAll.ints [1, 1]), by decide +kernel, by decide +kernel, _, rfl, ?_⟩
      rw [show PyData.eqv (.list [.int 1, .int 1]) (.list [.int 1, .int 1]) = true by decide +kernel]
      refine iteT ?_
      refine ⟨by show 2 ≤ sizeLine; decide, fun q3 H6 s6 n6 e6 => ⟨by show 2 ≤ sizeLine; decide, fun q4 H7 s7 n7 e7 => ?_⟩⟩
      refine ⟨q3, q4, [2, 3], [1, 2], rfl, ⟨.inl (.inl (s7 _ _ e6)), by decide, by decide⟩, ⟨.inl (.inl e7), by decide, by decide, by decide, by decide, trivial⟩, fun H8 s8 => ⟨rfl, _, rfl, ?_⟩⟩
      rw [show decide (V.int (plI [2, 3] [1, 2]) = V.int 5) = true by decide +kernel]
      refine iteT ?_
      refine ⟨by show 0 ≤ sizeLine; decide, fun q5 H9 s9 n9 e9 => ?_⟩
      refine ⟨q5, 0, [], rfl, ⟨.inl (.inl e9), by decide, by decide⟩, by decide, by decide, fun H10 b2 ws2 s10 n10 e10 hR2 hp2 => ?_⟩
      obtain rfl : ws2 = [] := pl_inj hR2 (show RowI [] [] from trivial) (by rw [hp2]; decide)
      refine ⟨by show 0 ≤ sizeLine; decide, fun q6 H11 s11 n11 e11 => ?_⟩
      refine ⟨.list [], .list [], .lst (.inl (.inl (s11 _ _ e10))) .nil, .lst (.inl (.inl e11)) .nil, by decide +kernel, by decide +kernel, ?_⟩
      rw [show PyData.eqv (.list []) (.list []) = true by decide +kernel]
      exact q _
end
end Lk
namespace Lk
open PySem PySem.Spec PyProof.Rows L2
theorem all_mk {l : PySem.W.OpenLaw} {w : World} {K : PySem.W.Frag} {h : Heap} {mg : Str → Option Value} {fa : Addr} (X : K.In h) (G : h.Ns mainGlobals mg) (hfa : mg "law" = some (.ref fa))
    {f0 : Addr} {od0 an0 : Option Addr} {sl0 : Array (Option Value)} {oc0 kV0 dc0 pm0 cd0 ct0 : Value}
    {f1 : Addr} {od1 an1 : Option Addr} {sl1 : Array (Option Value)} {oc1 kV1 dc1 pm1 cd1 ct1 : Value}
    {f2 : Addr} {od2 an2 : Option Addr} {sl2 : Array (Option Value)} {oc2 kV2 dc2 pm2 cd2 ct2 : Value}
    {f3 : Addr} {od3 an3 : Option Addr} {sl3 : Array (Option Value)} {oc3 kV3 dc3 pm3 cd3 ct3 : Value}
    {f4 : Addr} {od4 an4 : Option Addr} {sl4 : Array (Option Value)} {oc4 kV4 dc4 pm4 cd4 ct4 : Value}
    {f5 : Addr} {od5 an5 : Option Addr} {sl5 : Array (Option Value)} {oc5 kV5 dc5 pm5 cd5 ct5 : Value}
    {f6 : Addr} {od6 an6 : Option Addr} {sl6 : Array (Option Value)} {oc6 kV6 dc6 pm6 cd6 ct6 : Value}
    {f7 : Addr} {od7 an7 : Option Addr} {sl7 : Array (Option Value)} {oc7 kV7 dc7 pm7 cd7 ct7 : Value}
    {f8 : Addr} {od8 an8 : Option Addr} {sl8 : Array (Option Value)} {oc8 kV8 dc8 pm8 cd8 ct8 : Value}
    {f9 : Addr} {od9 an9 : Option Addr} {sl9 : Array (Option Value)} {oc9 kV9 dc9 pm9 cd9 ct9 : Value}
    {f10 : Addr} {od10 an10 : Option Addr} {sl10 : Array (Option Value)} {oc10 kV10 dc10 pm10 cd10 ct10 : Value}
    {f11 : Addr} {od11 an11 : Option Addr} {sl11 : Array (Option Value)} {oc11 kV11 dc11 pm11 cd11 ct11 : Value}
    {f12 : Addr} {od12 an12 : Option Addr} {sl12 : Array (Option Value)} {oc12 kV12 dc12 pm12 cd12 ct12 : Value}
    {f13 : Addr} {od13 an13 : Option Addr} {sl13 : Array (Option Value)} {oc13 kV13 dc13 pm13 cd13 ct13 : Value}
    {f14 : Addr} {od14 an14 : Option Addr} {sl14 : Array (Option Value)} {oc14 kV14 dc14 pm14 cd14 ct14 : Value}
    {f15 : Addr} {od15 an15 : Option Addr} {sl15 : Array (Option Value)} {oc15 kV15 dc15 pm15 cd15 ct15 : Value}
    {f16 : Addr} {od16 an16 : Option Addr} {sl16 : Array (Option Value)} {oc16 kV16 dc16 pm16 cd16 ct16 : Value}
    {f17 : Addr} {od17 an17 : Option Addr} {sl17 : Array (Option Value)} {oc17 kV17 dc17 pm17 cd17 ct17 : Value}
    {f18 : Addr} {od18 an18 : Option Addr} {sl18 : Array (Option Value)} {oc18 kV18 dc18 pm18 cd18 ct18 : Value}
    {f19 : Addr} {od19 an19 : Option Addr} {sl19 : Array (Option Value)} {oc19 kV19 dc19 pm19 cd19 ct19 : Value}
    {f20 : Addr} {od20 an20 : Option Addr} {sl20 : Array (Option Value)} {oc20 kV20 dc20 pm20 cd20 ct20 : Value}
    {t0 : Tok}
    {t1 : Tok}
    {t2 : Tok}
    (a0 : PySem.W.nsIn K mainGlobals "is_integer" = some (some (.ref f0))) (l0 : K.lookup f0 = some ⟨oc0, od0, .func (PySem.W.fnOf "is_integer" "is_integer" (defArgs sIsInteger) (defBody sIsInteger) (defScope sIsInteger) .none kV0 dc0 pm0 an0 cd0 ct0), sl0⟩)
    (c0 : PySem.W.codeIn K cd0 "is_integer" = true) (k0 : PySem.W.keepIn K (.ref f0) = true)
    (a1 : PySem.W.nsIn K mainGlobals "is_integer_below" = some (some (.ref f1))) (l1 : K.lookup f1 = some ⟨oc1, od1, .func (PySem.W.fnOf "is_integer_below" "is_integer_below" (defArgs sBelow) (defBody sBelow) (defScope sBelow) .none kV1 dc1 pm1 an1 cd1 ct1), sl1⟩)
    (c1 : PySem.W.codeIn K cd1 "is_integer_below" = true) (k1 : PySem.W.keepIn K (.ref f1) = true)
    (a2 : PySem.W.nsIn K mainGlobals "is_sizes" = some (some (.ref f2))) (l2 : K.lookup f2 = some ⟨oc2, od2, .func (PySem.W.fnOf "is_sizes" "is_sizes" (defArgs sIsSizes) (defBody sIsSizes) (defScope sIsSizes) .none kV2 dc2 pm2 an2 cd2 ct2), sl2⟩)
    (c2 : PySem.W.codeIn K cd2 "is_sizes" = true) (k2 : PySem.W.keepIn K (.ref f2) = true)
    (a3 : PySem.W.nsIn K mainGlobals "check_sizes" = some (some (.ref f3))) (l3 : K.lookup f3 = some ⟨oc3, od3, .func (PySem.W.fnOf "check_sizes" "check_sizes" (defArgs sCheckSizes) (defBody sCheckSizes) (defScope sCheckSizes) .none kV3 dc3 pm3 an3 cd3 ct3), sl3⟩)
    (c3 : PySem.W.codeIn K cd3 "check_sizes" = true) (k3 : PySem.W.keepIn K (.ref f3) = true)
    (a4 : PySem.W.nsIn K mainGlobals "is_half_case" = some (some (.ref f4))) (l4 : K.lookup f4 = some ⟨oc4, od4, .func (PySem.W.fnOf "is_half_case" "is_half_case" (defArgs sIsHalf) (defBody sIsHalf) (defScope sIsHalf) .none kV4 dc4 pm4 an4 cd4 ct4), sl4⟩)
    (c4 : PySem.W.codeIn K cd4 "is_half_case" = true) (k4 : PySem.W.keepIn K (.ref f4) = true)
    (a5 : PySem.W.nsIn K mainGlobals "is_case" = some (some (.ref f5))) (l5 : K.lookup f5 = some ⟨oc5, od5, .func (PySem.W.fnOf "is_case" "is_case" (defArgs sIsCase) (defBody sIsCase) (defScope sIsCase) .none kV5 dc5 pm5 an5 cd5 ct5), sl5⟩)
    (c5 : PySem.W.codeIn K cd5 "is_case" = true) (k5 : PySem.W.keepIn K (.ref f5) = true)
    (a6 : PySem.W.nsIn K mainGlobals "check_case" = some (some (.ref f6))) (l6 : K.lookup f6 = some ⟨oc6, od6, .func (PySem.W.fnOf "check_case" "check_case" (defArgs sCheckCase) (defBody sCheckCase) (defScope sCheckCase) .none kV6 dc6 pm6 an6 cd6 ct6), sl6⟩)
    (c6 : PySem.W.codeIn K cd6 "check_case" = true) (k6 : PySem.W.keepIn K (.ref f6) = true)
    (a7 : PySem.W.nsIn K mainGlobals "check_index" = some (some (.ref f7))) (l7 : K.lookup f7 = some ⟨oc7, od7, .func (PySem.W.fnOf "check_index" "check_index" (defArgs sCheckIndex) (defBody sCheckIndex) (defScope sCheckIndex) .none kV7 dc7 pm7 an7 cd7 ct7), sl7⟩)
    (c7 : PySem.W.codeIn K cd7 "check_index" = true) (k7 : PySem.W.keepIn K (.ref f7) = true)
    (a8 : PySem.W.nsIn K mainGlobals "number_of_cases" = some (some (.ref f8))) (l8 : K.lookup f8 = some ⟨oc8, od8, .func (PySem.W.fnOf "number_of_cases" "number_of_cases" (defArgs sNumber) (defBody sNumber) (defScope sNumber) .none kV8 dc8 pm8 an8 cd8 ct8), sl8⟩)
    (c8 : PySem.W.codeIn K cd8 "number_of_cases" = true) (k8 : PySem.W.keepIn K (.ref f8) = true)
    (a9 : PySem.W.nsIn K mainGlobals "place_of_case" = some (some (.ref f9))) (l9 : K.lookup f9 = some ⟨oc9, od9, .func (PySem.W.fnOf "place_of_case" "place_of_case" (defArgs sPlace) (defBody sPlace) (defScope sPlace) .none kV9 dc9 pm9 an9 cd9 ct9), sl9⟩)
    (c9 : PySem.W.codeIn K cd9 "place_of_case" = true) (k9 : PySem.W.keepIn K (.ref f9) = true)
    (a10 : PySem.W.nsIn K mainGlobals "case_of_place" = some (some (.ref f10))) (l10 : K.lookup f10 = some ⟨oc10, od10, .func (PySem.W.fnOf "case_of_place" "case_of_place" (defArgs sCop) (defBody sCop) (defScope sCop) .none kV10 dc10 pm10 an10 cd10 ct10), sl10⟩)
    (c10 : PySem.W.codeIn K cd10 "case_of_place" = true) (k10 : PySem.W.keepIn K (.ref f10) = true)
    (a11 : PySem.W.nsIn K mainGlobals "nth_case" = some (some (.ref f11))) (l11 : K.lookup f11 = some ⟨oc11, od11, .func (PySem.W.fnOf "nth_case" "nth_case" (defArgs sNth) (defBody sNth) (defScope sNth) .none kV11 dc11 pm11 an11 cd11 ct11), sl11⟩)
    (c11 : PySem.W.codeIn K cd11 "nth_case" = true) (k11 : PySem.W.keepIn K (.ref f11) = true)
    (a12 : PySem.W.nsIn K mainGlobals "case_index" = some (some (.ref f12))) (l12 : K.lookup f12 = some ⟨oc12, od12, .func (PySem.W.fnOf "case_index" "case_index" (defArgs sCaseIndex) (defBody sCaseIndex) (defScope sCaseIndex) .none kV12 dc12 pm12 an12 cd12 ct12), sl12⟩)
    (c12 : PySem.W.codeIn K cd12 "case_index" = true) (k12 : PySem.W.keepIn K (.ref f12) = true)
    (a13 : PySem.W.nsIn K mainGlobals "_law_deck" = some (some (.ref f13))) (l13 : K.lookup f13 = some ⟨oc13, od13, .func (PySem.W.fnOf "_law_deck" "_law_deck" (defArgs sDeck) (defBody sDeck) (defScope sDeck) .none kV13 dc13 pm13 an13 cd13 ct13), sl13⟩)
    (c13 : PySem.W.codeIn K cd13 "_law_deck" = true) (k13 : PySem.W.keepIn K (.ref f13) = true)
    (a14 : PySem.W.nsIn K mainGlobals "_law_take" = some (some (.ref f14))) (l14 : K.lookup f14 = some ⟨oc14, od14, .func (PySem.W.fnOf "_law_take" "_law_take" (defArgs sTake) (defBody sTake) (defScope sTake) .none kV14 dc14 pm14 an14 cd14 ct14), sl14⟩)
    (c14 : PySem.W.codeIn K cd14 "_law_take" = true) (k14 : PySem.W.keepIn K (.ref f14) = true)
    (a15 : PySem.W.nsIn K mainGlobals "_law_row" = some (some (.ref f15))) (l15 : K.lookup f15 = some ⟨oc15, od15, .func (PySem.W.fnOf "_law_row" "_law_row" (defArgs sRow) (defBody sRow) (defScope sRow) .none kV15 dc15 pm15 an15 cd15 ct15), sl15⟩)
    (c15 : PySem.W.codeIn K cd15 "_law_row" = true) (k15 : PySem.W.keepIn K (.ref f15) = true)
    (a16 : PySem.W.nsIn K mainGlobals "_law_place" = some (some (.ref f16))) (l16 : K.lookup f16 = some ⟨oc16, od16, .func (PySem.W.fnOf "_law_place" "_law_place" (defArgs sLPlace) (defBody sLPlace) (defScope sLPlace) .none kV16 dc16 pm16 an16 cd16 ct16), sl16⟩)
    (c16 : PySem.W.codeIn K cd16 "_law_place" = true) (k16 : PySem.W.keepIn K (.ref f16) = true)
    (a17 : PySem.W.nsIn K mainGlobals "_law_is_row" = some (some (.ref f17))) (l17 : K.lookup f17 = some ⟨oc17, od17, .func (PySem.W.fnOf "_law_is_row" "_law_is_row" (defArgs sIsRow) (defBody sIsRow) (defScope sIsRow) .none kV17 dc17 pm17 an17 cd17 ct17), sl17⟩)
    (c17 : PySem.W.codeIn K cd17 "_law_is_row" = true) (k17 : PySem.W.keepIn K (.ref f17) = true)
    (a18 : PySem.W.nsIn K mainGlobals "_law_index" = some (some (.ref f18))) (l18 : K.lookup f18 = some ⟨oc18, od18, .func (PySem.W.fnOf "_law_index" "_law_index" (defArgs sIndex) (defBody sIndex) (defScope sIndex) .none kV18 dc18 pm18 an18 cd18 ct18), sl18⟩)
    (c18 : PySem.W.codeIn K cd18 "_law_index" = true) (k18 : PySem.W.keepIn K (.ref f18) = true)
    (a19 : PySem.W.nsIn K mainGlobals "_law_right" = some (some (.ref f19))) (l19 : K.lookup f19 = some ⟨oc19, od19, .func (PySem.W.fnOf "_law_right" "_law_right" (defArgs sRight) (defBody sRight) (defScope sRight) .none kV19 dc19 pm19 an19 cd19 ct19), sl19⟩)
    (c19 : PySem.W.codeIn K cd19 "_law_right" = true) (k19 : PySem.W.keepIn K (.ref f19) = true)
    (a20 : PySem.W.nsIn K mainGlobals "law" = some (some (.ref f20))) (l20 : K.lookup f20 = some ⟨oc20, od20, .func (PySem.W.fnOf "law" "law" (defArgs sLaw) (defBody sLaw) (defScope sLaw) .none kV20 dc20 pm20 an20 cd20 ct20), sl20⟩)
    (c20 : PySem.W.codeIn K cd20 "law" = true) (k20 : PySem.W.keepIn K (.ref f20) = true)
    (n0 : PySem.W.nsIn K mainGlobals "MOST_FIELDS" = some (some (.int 24 t0)))
    (n1 : PySem.W.nsIn K mainGlobals "LEAST_SIZE" = some (some (.int 2 t1)))
    (n2 : PySem.W.nsIn K mainGlobals "GREATEST_SIZE" = some (some (.int 6 t2)))
    (z0 : PySem.W.nsIn K mainGlobals "int" = some none)
    (z1 : PySem.W.nsIn K mainGlobals "bool" = some none)
    (z2 : PySem.W.nsIn K mainGlobals "list" = some none)
    (z3 : PySem.W.nsIn K mainGlobals "len" = some none)
    (z4 : PySem.W.nsIn K mainGlobals "isinstance" = some none)
    (z5 : PySem.W.nsIn K mainGlobals "all" = some none)
    (z6 : PySem.W.nsIn K mainGlobals "abs" = some none)
    (z7 : PySem.W.nsIn K mainGlobals "range" = some none)
    (z8 : PySem.W.nsIn K mainGlobals "repr" = some none)
    (z9 : PySem.W.nsIn K mainGlobals "reversed" = some none)
    : ∃ fd : FuncData, (∀ (s : Shared) (v : Value), BindsTo s fd ⟨[v], []⟩ [("script", v)]) ∧ ∀ base : Heap, K.In base → base.Ns mainGlobals mg → FnG l.prog w K mg base CX0 8 fa fd ["script"] (spLaw K) := by
  have e := hfa.symm.trans (PySem.W.mg_of X G a20)
  cases e
  have F0 := fun_mk (st := sIsInteger) l0 c0 k0
  have g0' := PySem.W.mg_of X G a0
  have b0 := F0.binds (ps := ["value"]) fun _ _ _ _ _ _ us hl => match us, hl with | [_], _ => rfl
  have F1 := fun_mk (st := sBelow) l1 c1 k1
  have g1' := PySem.W.mg_of X G a1
  have b1 := F1.binds (ps := ["value", "limit"]) fun _ _ _ _ _ _ us hl => match us, hl with | [_, _], _ => rfl
  have F2 := fun_mk (st := sIsSizes) l2 c2 k2
  have g2' := PySem.W.mg_of X G a2
  have b2 := F2.binds (ps := ["value"]) fun _ _ _ _ _ _ us hl => match us, hl with | [_], _ => rfl
  have F3 := fun_mk (st := sCheckSizes) l3 c3 k3
  have g3' := PySem.W.mg_of X G a3
  have b3 := F3.binds (ps := ["sizes"]) fun _ _ _ _ _ _ us hl => match us, hl with | [_], _ => rfl
  have F4 := fun_mk (st := sIsHalf) l4 c4 k4
  have g4' := PySem.W.mg_of X G a4
  have b4 := F4.binds (ps := ["sizes", "value"]) fun _ _ _ _ _ _ us hl => match us, hl with | [_, _], _ => rfl
  have F5 := fun_mk (st := sIsCase) l5 c5 k5
  have g5' := PySem.W.mg_of X G a5
  have b5 := F5.binds (ps := ["sizes", "value"]) fun _ _ _ _ _ _ us hl => match us, hl with | [_, _], _ => rfl
  have F6 := fun_mk (st := sCheckCase) l6 c6 k6
  have g6' := PySem.W.mg_of X G a6
  have b6 := F6.binds (ps := ["sizes", "case"]) fun _ _ _ _ _ _ us hl => match us, hl with | [_, _], _ => rfl
  have F7 := fun_mk (st := sCheckIndex) l7 c7 k7
  have g7' := PySem.W.mg_of X G a7
  have b7 := F7.binds (ps := ["index", "count"]) fun _ _ _ _ _ _ us hl => match us, hl with | [_, _], _ => rfl
  have F8 := fun_mk (st := sNumber) l8 c8 k8
  have g8' := PySem.W.mg_of X G a8
  have b8 := F8.binds (ps := ["sizes"]) fun _ _ _ _ _ _ us hl => match us, hl with | [_], _ => rfl
  have F9 := fun_mk (st := sPlace) l9 c9 k9
  have g9' := PySem.W.mg_of X G a9
  have b9 := F9.binds (ps := ["sizes", "case"]) fun _ _ _ _ _ _ us hl => match us, hl with | [_, _], _ => rfl
  have F10 := fun_mk (st := sCop) l10 c10 k10
  have g10' := PySem.W.mg_of X G a10
  have b10 := F10.binds (ps := ["sizes", "place"]) fun _ _ _ _ _ _ us hl => match us, hl with | [_, _], _ => rfl
  have F11 := fun_mk (st := sNth) l11 c11 k11
  have g11' := PySem.W.mg_of X G a11
  have b11 := F11.binds (ps := ["sizes", "index"]) fun _ _ _ _ _ _ us hl => match us, hl with | [_, _], _ => rfl
  have F12 := fun_mk (st := sCaseIndex) l12 c12 k12
  have g12' := PySem.W.mg_of X G a12
  have b12 := F12.binds (ps := ["sizes", "case"]) fun _ _ _ _ _ _ us hl => match us, hl with | [_, _], _ => rfl
  have F13 := fun_mk (st := sDeck) l13 c13 k13
  have g13' := PySem.W.mg_of X G a13
  have b13 := F13.binds (ps := ["script"]) fun _ _ _ _ _ _ us hl => match us, hl with | [_], _ => rfl
  have F14 := fun_mk (st := sTake) l14 c14 k14
  have g14' := PySem.W.mg_of X G a14
  have b14 := F14.binds (ps := ["deck", "wide"]) fun _ _ _ _ _ _ us hl => match us, hl with | [_, _], _ => rfl
  have F15 := fun_mk (st := sRow) l15 c15 k15
  have g15' := PySem.W.mg_of X G a15
  have b15 := F15.binds (ps := ["deck", "sizes_here"]) fun _ _ _ _ _ _ us hl => match us, hl with | [_, _], _ => rfl
  have F16 := fun_mk (st := sLPlace) l16 c16 k16
  have g16' := PySem.W.mg_of X G a16
  have b16 := F16.binds (ps := ["sizes_here", "row"]) fun _ _ _ _ _ _ us hl => match us, hl with | [_, _], _ => rfl
  have F17 := fun_mk (st := sIsRow) l17 c17 k17
  have g17' := PySem.W.mg_of X G a17
  have b17 := F17.binds (ps := ["sizes_here", "thing"]) fun _ _ _ _ _ _ us hl => match us, hl with | [_, _], _ => rfl
  have F18 := fun_mk (st := sIndex) l18 c18 k18
  have g18' := PySem.W.mg_of X G a18
  have b18 := F18.binds (ps := ["deck", "whole"]) fun _ _ _ _ _ _ us hl => match us, hl with | [_, _], _ => rfl
  have F19 := fun_mk (st := sRight) l19 c19 k19
  have g19' := PySem.W.mg_of X G a19
  have b19 := F19.binds (ps := ["deck", "sizes_here"]) fun _ _ _ _ _ _ us hl => match us, hl with | [_, _], _ => rfl
  have F20 := fun_mk (st := sLaw) l20 c20 k20
  have g20' := PySem.W.mg_of X G a20
  have m0 := PySem.W.mg_of X G n0
  have m1 := PySem.W.mg_of X G n1
  have m2 := PySem.W.mg_of X G n2
  have y0 := PySem.W.mg_none_of X G z0
  have y1 := PySem.W.mg_none_of X G z1
  have y2 := PySem.W.mg_none_of X G z2
  have y3 := PySem.W.mg_none_of X G z3
  have y4 := PySem.W.mg_none_of X G z4
  have y5 := PySem.W.mg_none_of X G z5
  have y6 := PySem.W.mg_none_of X G z6
  have y7 := PySem.W.mg_none_of X G z7
  have y8 := PySem.W.mg_none_of X G z8
  have y9 := PySem.W.mg_none_of X G z9
  refine ⟨PySem.W.fnOf "law" "law" (defArgs sLaw) (defBody sLaw) (defScope sLaw) .none kV20 dc20 pm20 an20 cd20 ct20, fun s v => .of_eq rfl, fun base _ _ => ?_⟩
  have T : Txt1 mg := ⟨y0, y1, y2, y3, y4, y5, ⟨_, m0⟩, ⟨_, m1⟩, ⟨_, m2⟩⟩
  have T2 : Txt2 mg := ⟨T, y7, y9⟩
  have G0 : FnOk l.prog w K mg base CX0 1 f0 _ ["value"] (spIsInteger K) := ok_isInteger F0 T
  have G1 : FnOk l.prog w K mg base CX0 2 f1 _ ["value", "limit"] (spBelow K) := ok_below F1 G0 b0 g0' k0
  have G2 : FnOk l.prog w K mg base CX0 2 f2 _ ["value"] (spIsSizes K) := ok_isSizes (k := 0) F2 T F0 b0 g0'
  have G3 : FnOk l.prog w K mg base CX0 3 f3 _ ["sizes"] (spCheckSizes K) := ok_checkSizes (k := 1) F3 G2 b2 g2' k2
  have G4 : FnOk l.prog w K mg base CX0 3 f4 _ ["sizes", "value"] (spIsHalf K) := ok_isHalf F4 T2 G1 b1 g1' k1
  have G5 : FnOk l.prog w K mg base CX0 4 f5 _ ["sizes", "value"] (spIsCase K) := ok_isCase F5 G4 b4 g4' k4
  have G6 : FnOk l.prog w K mg base CX0 5 f6 _ ["sizes", "case"] (spCheckCase K) := ok_checkCase F6 G5 b5 g5' k5
  have G7 : FnOk l.prog w K mg base CX0 3 f7 _ ["index", "count"] spCheckIndex := ok_checkIndex F7 G1 b1 g1' k1
  have G8 : FnOk l.prog w K mg base CX0 3 f8 _ ["sizes"] (spNumber K) := ok_number F8
  have G9 : FnOk l.prog w K mg base CX0 5 f9 _ ["sizes", "case"] (spPlace K) := ok_place F9 T2
  have G10 : FnOk l.prog w K mg base CX0 3 f10 _ ["sizes", "place"] (spNth K) := ok_cop F10 T2
  have G11 : FnOk l.prog w K mg base CX0 4 f11 _ ["sizes", "index"] (spNth K) := ok_nth F11 T2 G3 b3 g3' k3 G7 b7 g7' k7 G8 b8 g8' k8 G10 b10 g10' k10
  have G12 : FnOk l.prog w K mg base CX0 6 f12 _ ["sizes", "case"] (spCaseIndex K) := ok_caseIndex F12 (G3.mono (by decide)) b3 g3' k3 G6 b6 g6' k6 G9 b9 g9' k9
  have G13 : FnOk l.prog w K mg base CX0 6 f13 _ ["script"] (spDeck K) := ok_deck F13 y0 y6
  have G14 : FnOk l.prog w K mg base CX0 5 f14 _ ["deck", "wide"] spTake := ok_take F14 y0 y3
  have G15 : FnOk l.prog w K mg base CX0 6 f15 _ ["deck", "sizes_here"] spRow := ok_row F15 G14 b14 g14' k14
  have G16 : FnOk l.prog w K mg base CX0 6 f16 _ ["sizes_here", "row"] (spLPlace K) := ok_lplace F16 T2
  have G17 : FnOk l.prog w K mg base CX0 6 f17 _ ["sizes_here", "thing"] (spIsRow K) := ok_isRow F17 T2
  have G18 : FnOk l.prog w K mg base CX0 6 f18 _ ["deck", "whole"] spIndex := ok_index F18 y0 G14 b14 g14' k14
  have kbN := kb21 (n := "sizes") (m := "index") F11 fun _ _ _ _ _ _ _ _ => rfl
  have kbC := kb21 (n := "sizes") (m := "case") F12 fun _ _ _ _ _ _ _ _ => rfl
  have A : ∀ k, 6 ≤ k → Fns l.prog w K mg base k := fun k hk => ⟨⟨_, _, G14.mono (by omega), b14, g14', k14⟩, ⟨_, _, G13.mono hk, b13, g13', k13⟩, ⟨_, _, G15.mono hk, b15, g15', k15⟩, ⟨_, _, G16.mono hk, b16, g16', k16⟩, ⟨_, _, G17.mono hk, b17, g17', k17⟩, ⟨_, _, G18.mono hk, b18, g18', k18⟩,
    ⟨_, _, G11.mono (by omega), b11, kbN, g11', k11⟩, ⟨_, _, G12.mono hk, b12, kbC, g12', k12⟩⟩
  have G19 : FnG l.prog w K mg base CX0 7 f19 _ ["deck", "sizes_here"] spRight := ok_right F19 (A 6 (by decide)) y8 y2
  exact ok_law F20 (A 7 (by decide)) G19 b19 g19' k19 y7
end Lk
open PySem PySem.W PyProof.Rows in
set_option maxRecDepth 100000 in
set_option maxHeartbeats 0 in
theorem PySem.Challenge.cw_leastreasons_k02_cases_numbered_holds : PySem.Challenge.rw_leastreasons_k02_cases_numbered.Holds := by
  w_on; o_law; k_head; (case hw => w_witness2)
  k_fill
  refine Lk.walk_ofG (l := PySem.Challenge.rw_leastreasons_k02_cases_numbered) (n := 63) (k := 8) (x := "script") (sp := fun w => Lk.spLaw _) rfl (by decide) rfl ⟨rfl, by decide, by decide⟩ (fun w h Y => PySem.W.kIn_of Y) ?F (fun _ _ a ns hl _ hS => ⟨a, ns, rfl, hS, hl, fun _ => rfl⟩)
  case F =>
    intro w mg fa h KX G hmg
    refine' Lk.all_mk KX G hmg ?a0 ?l0 ?c0 ?k0 ?a1 ?l1 ?c1 ?k1 ?a2 ?l2 ?c2 ?k2 ?a3 ?l3 ?c3 ?k3 ?a4 ?l4 ?c4 ?k4 ?a5 ?l5 ?c5 ?k5 ?a6 ?l6 ?c6 ?k6 ?a7 ?l7 ?c7 ?k7 ?a8 ?l8 ?c8 ?k8 ?a9 ?l9 ?c9 ?k9 ?a10 ?l10 ?c10 ?k10 ?a11 ?l11 ?c11 ?k11 ?a12 ?l12 ?c12 ?k12 ?a13 ?l13 ?c13 ?k13 ?a14 ?l14 ?c14 ?k14 ?a15 ?l15 ?c15 ?k15 ?a16 ?l16 ?c16 ?k16 ?a17 ?l17 ?c17 ?k17 ?a18 ?l18 ?c18 ?k18 ?a19 ?l19 ?c19 ?k19 ?a20 ?l20 ?c20 ?k20 ?n0 ?n1 ?n2 ?z0 ?z1 ?z2 ?z3 ?z4 ?z5 ?z6 ?z7 ?z8 ?z9
    (case a0 => k_is)
    (case l0 => k_is)
    (case c0 => k_is)
    (case k0 => k_is)
    (case a1 => k_is)
    (case l1 => k_is)
    (case c1 => k_is)
    (case k1 => k_is)
    (case a2 => k_is)
    (case l2 => k_is)
    (case c2 => k_is)
    (case k2 => k_is)
    (case a3 => k_is)
    (case l3 => k_is)
    (case c3 => k_is)
    (case k3 => k_is)
    (case a4 => k_is)
    (case l4 => k_is)
    (case c4 => k_is)
    (case k4 => k_is)
    (case a5 => k_is)
    (case l5 => k_is)
    (case c5 => k_is)
    (case k5 => k_is)
    (case a6 => k_is)
    (case l6 => k_is)
    (case c6 => k_is)
    (case k6 => k_is)
    (case a7 => k_is)
    (case l7 => k_is)
    (case c7 => k_is)
    (case k7 => k_is)
    (case a8 => k_is)
    (case l8 => k_is)
    (case c8 => k_is)
    (case k8 => k_is)
    (case a9 => k_is)
    (case l9 => k_is)
    (case c9 => k_is)
    (case k9 => k_is)
    (case a10 => k_is)
    (case l10 => k_is)
    (case c10 => k_is)
    (case k10 => k_is)
    (case a11 => k_is)
    (case l11 => k_is)
    (case c11 => k_is)
    (case k11 => k_is)
    (case a12 => k_is)
    (case l12 => k_is)
    (case c12 => k_is)
    (case k12 => k_is)
    (case a13 => k_is)
    (case l13 => k_is)
    (case c13 => k_is)
    (case k13 => k_is)
    (case a14 => k_is)
    (case l14 => k_is)
    (case c14 => k_is)
    (case k14 => k_is)
    (case a15 => k_is)
    (case l15 => k_is)
    (case c15 => k_is)
    (case k15 => k_is)
    (case a16 => k_is)
    (case l16 => k_is)
    (case c16 => k_is)
    (case k16 => k_is)
    (case a17 => k_is)
    (case l17 => k_is)
    (case c17 => k_is)
    (case k17 => k_is)
    (case a18 => k_is)
    (case l18 => k_is)
    (case c18 => k_is)
    (case k18 => k_is)
    (case a19 => k_is)
    (case l19 => k_is)
    (case c19 => k_is)
    (case k19 => k_is)
    (case a20 => k_is)
    (case l20 => k_is)
    (case c20 => k_is)
    (case k20 => k_is)
    (case n0 => k_is)
    (case n1 => k_is)
    (case n2 => k_is)
    (case z0 => k_is)
    (case z1 => k_is)
    (case z2 => k_is)
    (case z3 => k_is)
    (case z4 => k_is)
    (case z5 => k_is)
    (case z6 => k_is)
    (case z7 => k_is)
    (case z8 => k_is)
    (case z9 => k_is)
