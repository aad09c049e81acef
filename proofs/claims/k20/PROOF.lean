import PyProof.Rows.All
import Wide.All
import OpenK.AllK
import Wide.FinOn
import HandS.ForMost
import HandS.IsInst
import HandS.Wide
import HandS.SortInts
import HandS.WideBits
import HandS.Style
import HandS.Deep
import HandS.Star
import HandS.SetFor
import HandS.Conv
import HandS.EndBits
import HandS.RevRange
import HandS.More
import HandS.Iter
import HandS.WordsExc
import HandS.ExcOwn
import HandS.ExcIs
import HandS.TryMany
import KE.DataFind
import KE.DataMinMax
import HandS.SortKw
import KE.DataAny
import HandS.Set
import HandS.Strs
import PySem.Challenge.RW_leastreasons_k20_sets_apart
set_option exponentiation.threshold 2000
set_option Elab.async false
set_option linter.all false
set_option maxRecDepth 100000
set_option maxHeartbeats 8000000
namespace Lk
open PySem PySem.Spec PyProof.Rows L2

/-! ## promises of defs that are entered while no display runs further out (repr of lists) -/
structure FnG (P : Program) (w : World) (K : PySem.W.Frag) (mg : Str → Option Value) (base : Heap) (CX : CXT)
    (k : Nat) (f : Addr) (fd : FuncData) (ps : List Str) (sp : Sp) : Prop where
  len : ∀ vs H Q E, sp vs H Q E → vs.length = ps.length
  run : ∀ (A : Around) (outer : List Env) (s : Shared) (H : Hp) (args : Args) (us : List Value) (vs : List V) (Q : VK) (E : XK),
    A.guards = some [] → Room k A → Env0 P w K mg base A outer s H → BindsTo s fd args (ps.zip us) → Vals vs us → sp vs H Q E →
    codeAny (model P w) A (.call (.ref f) args) (CR CX outer P w H s Q E) s

section
variable {P : Program} {w : World} {K : PySem.W.Frag} {mg : Str → Option Value} {base : Heap} {CX : CXT} {k : Nat} {f : Addr}
theorem FnG.ofOk {fd : FuncData} {ps : List Str} {sp : Sp} (F : FnOk P w K mg base CX k f fd ps sp) : FnG P w K mg base CX k f fd ps sp :=
  ⟨F.len, fun A outer s H args us vs Q E _ r e b v h => F.run A outer s H args us vs Q E r e b v h⟩
theorem FnG.mono {fd : FuncData} {ps : List Str} {sp : Sp} {j : Nat} (F : FnG P w K mg base CX j f fd ps sp) (h : j ≤ k) : FnG P w K mg base CX k f fd ps sp :=
  ⟨F.len, fun A outer s H args us vs Q E g r e b v z => F.run A outer s H args us vs Q E g (r.mono h) e b v z⟩

/-- a def by its body, which may use that no display runs further out -/
theorem fnG_of {name qual : Str} {params : Arguments} {body : List Stmt} {scope : Scope} {dV kV doc pm cdv ct oc : Value} {an od : Option Addr}
    {osl : Array (Option Value)} {N ps : List Str} {sp : Sp}
    (lk : K.lookup f = some ⟨oc, od, .func (PySem.W.fnOf name qual params body scope dV kV doc pm an cdv ct), osl⟩)
    (cd : PySem.W.codeIn K cdv qual = true) (S : FnScope N ps scope) (len : ∀ vs H Q E, sp vs H Q E → vs.length = ps.length)
    (bd : ∀ (A : Around) (outer : List Env) (s : Shared) (H : Hp) (vs : List V) (Q : VK) (E : XK), A.guards = some [] →
      Room k (A.deeper (envOfC qual scope s.heap.objs.size f cdv)) → sp vs H Q E →
      ∃ t, PSs (cxOf CX P w K mg base N qual scope f cdv A outer s H E) body t ∧ t { nx := fun _ H' => Q .non H', rt := Q } (start N vs) H) :
    FnG P w K mg base CX (k + 1) f (PySem.W.fnOf name qual params body scope dV kV doc pm an cdv ct) ps sp := by
  constructor
  · exact len
  intro A outer s H args us vs Q E hg rm env bnd rel prom
  have inK : K.In s.heap := env.mod.kin.keeps fun b o e => (env.bs b o e).1
  have noLim : s.heap.NoLimit := env.mod.nolimit.keeps fun b o e => (env.bs b o e).1
  refine codeAny_call_function rm.depth (inK _ _ lk) rfl S.co S.gen rfl (PySem.W.codeRec_of inK cd) (bnd _ _ _ _ ?_)
  refine wpAny_newFunctionEnv_cells S.kind ?kinds fun env' ee s1 x => ?_
  case kinds =>
    rintro ⟨n, v⟩ mem
    rcases S.par n (List.of_mem_zip mem).1 with z | z
    · exact Or.inl z
    · exact Or.inr ⟨z, PySem.W.cellsFrom_some _ _ _ (Or.inl z)⟩
  subst ee
  refine ⟨noLim.keeps x.toInCall.keep, codeAny_func ?_⟩
  obtain ⟨t, der, rd⟩ := bd A outer s H vs Q E hg (rm.deeper _) prom
  have I0 := inv_start (CX := CX) (E := E) S rm.hd env (len _ _ _ _ prom) rel x
  refine wpAny_mono (der.run [] s1 (start N vs) H _ I0 rd) (fun fl s' z => ?_) fun _ _ z => z
  cases fl with
  | ret u =>
    obtain ⟨v, _, H', J, rv, q⟩ := z
    exact ⟨v, H', J.os, J.bare, J.base, J.hok, rv, q⟩
  | next =>
    obtain ⟨_, H', J, q⟩ := z
    exact ⟨V.non, H', J.os, J.bare, J.base, J.hok, rfl, q⟩
  | brk => exact z.choose_spec.choose_spec.2.elim
  | cont => exact z.choose_spec.choose_spec.2.elim
end

/-- Fun.ok for guarded promises, no exception leaving -/
theorem Fun_okG {P : Program} {w : World} {K : PySem.W.Frag} {mg : Str → Option Value} {base : Heap} {x qual : Str} {st : Stmt} {f : Addr} {fd : FuncData}
    {N ps : List Str} {k : Nat} {sp : Sp} (F : Fun K x qual st f fd) (S : FnScope N ps (defScope st)) (len : ∀ vs H Q E, sp vs H Q E → vs.length = ps.length)
    (bd : ∀ (cdv : Value) (A : Around) (outer : List Env) (s : Shared) (H : Hp) (vs : List V) (Q : VK) (E : XK), A.guards = some [] →
      Room k (A.deeper (envOfC qual (defScope st) s.heap.objs.size f cdv)) → sp vs H Q E →
      ∃ t, PSs (cxOf CX0 P w K mg base N qual (defScope st) f cdv A outer s H E).nox (defBody st) t ∧ t { nx := fun _ H' => Q .non H', rt := Q } (start N vs) H) :
    FnG P w K mg base CX0 (k + 1) f fd ps sp := by
  obtain ⟨_, _, _, _, _, _, cdv, _, _, rfl, lk, hcd⟩ := F.ex
  refine fnG_of lk hcd S len fun A outer s H vs Q E hg hr z => ?_
  obtain ⟨t, d, q⟩ := bd cdv A outer s H vs Q E hg hr z
  exact ⟨t, d.nox, q⟩

section
variable {X : Cx} {CX : CXT} {k : Nat} {f : Addr} {fd : FuncData} {ps : List Str} {sp : Sp} {dvs : List V} {ds : List Value} {E : XK} {x : Str} {p pos : Pos} {e : Expr} {es : List Expr} {t : TA}
/-- a call of such a def, from a body that itself knows that no display runs -/
theorem pe_callG (hgd : X.A.guards = some []) (F : FnG X.prog X.w X.K X.mg X.base CX k f fd ps sp) (hr : Room k X.A) (hg : Gl X x) (hm : X.mg x = some (.ref f))
    (hk : PySem.W.keepIn X.K (.ref f) = true) (hb : Binds X.K fd ps ds) (hd : Vals dvs ds) (hx : Passes CX X E) (ha : PA X (e :: es) t)
    (hdb : (x == ("__debug__" : Str)) = false := by decide) (he : starEach (e :: es) X.env = (false, eval e X.env) :: starEach es X.env := by rfl)
    (hpl : (backTo pos (starEach es X.env)).any (·.1) = false := by rfl) : PE X (.Call (.Name x p) (e :: es) [] pos) (tCall sp dvs E t) := by
  constructor
  intro pins s σ H Q I h
  refine wpAny_Call_Name_kw (ld_glob I hg hm ?_ hdb)
  refine PySem.W.callWith_K (h₀ := X.base) I.ok.mod.kin hk (thn (ha.run pos pins s σ H _ I h) ?_) he hpl
  rintro us s1 ⟨vs, H1, I1, r, q⟩
  refine ⟨I1.kIn, ?_⟩
  have r2 := r.append hd
  have hl := r2.length.symm.trans (F.len _ _ _ _ q)
  refine wpAny_call (codeAny_mono (F.run X.A X.stack s1 H1 ⟨us, []⟩ (us ++ ds) (vs ++ dvs) Q E hgd hr I1.env0 (hb s1 us I1.kIn hl) r2 q) ?_)
  rintro (e' | fl) s' z
  · exact hx pins σ H1 s1 e' s' I1 z
  · cases fl with
    | ret u => exact I1.after z
    | next => exact z.elim
    | brk => exact z.elim
    | cont => exact z.elim
end

/-! ## the law's own end for such a promise -/
theorem law_callG {P : Program} {w : World} {K : PySem.W.Frag} {mg mb : Str → Option Value} {k : Nat} {fa a : Addr} {fd : FuncData} {x : Str} {sp : Sp} {s₁ : Shared} {vs : List Value} {ns : List Int}
    (KX : K.In s₁.heap) (hns : s₁.heap.Ns mainGlobals mg) (hb : s₁.heap.Ns builtinsNs mb) (hbb : ∀ x : Str, x ≠ "__name__" → mb x = bootBuiltins x) (hlim : s₁.heap.NoLimit)
    (hg : s₁.gens = #[]) (ha : s₁.heap.get? a = some { cls := .type "list", data := .seq vs.toArray }) (hi : IntsAre vs ns) (hl : ns.length ≤ sizeLine) (hr : Room k callerA)
    (F : ∀ base : Heap, K.In base → base.Ns mainGlobals mg → FnG P w K mg base CX0 k fa fd [x] sp) (bnd : ∀ (s : Shared) (u : Value), BindsTo s fd ⟨[u], []⟩ [(x, u)])
    (hsp : ∀ H : Hp, Only H → SqL K H a (ns.map V.int) → sp [.ref a] H (fun v _ => v = .bl true) fun _ _ _ => False) :
    codeAny (model P w) callerA (.call (.ref fa) ⟨[.ref a], []⟩) (fun r s' => r = .ok (.ret (.bool true)) ∧ OldK s₁.heap s'.heap ∧ s'.os = s₁.os ∧ AllBare s'.gens) s₁ := by
  have rel := vals_ints hi
  have obj : (⟨.type "list", none, .seq vs.toArray 0, #[]⟩ : Obj) = { cls := .type "list", data := .seq vs.toArray } := rfl
  suffices core : ∀ H : Hp, Only H → SqL K H a (ns.map V.int) → HOk P w H s₁.heap → (∀ b, H b ≠ none → b = a ∧ K.lookup a = none) →
      codeAny (model P w) callerA (.call (.ref fa) ⟨[.ref a], []⟩) (fun r s' => r = .ok (.ret (.bool true)) ∧ OldK s₁.heap s'.heap ∧ s'.os = s₁.os ∧ AllBare s'.gens) s₁ by
    cases hk : K.lookup a with
    | some o =>
      have e := KX a o hk
      rw [ha] at e
      cases e
      refine core (fun _ => none) (fun _ => Or.inl rfl) (Or.inr ⟨_, vs.toArray, _, hk, rfl, rfl, rfl, ?_, by simpa using rel⟩) (fun b u z => nomatch z) fun b z => absurd rfl z
      rw [List.size_toArray, hi.length]
      exact hl
    | none =>
      refine core (fun b => if b = a then some (.frz { cls := .type "list", data := .seq vs.toArray } (.lst (ns.map V.int))) else none) ?_ (Or.inl (Or.inr ⟨_, if_pos rfl⟩)) ?_ ?_
      · intro b
        by_cases q : b = a
        · exact Or.inr ⟨_, _, if_pos q⟩
        · exact Or.inl (if_neg q)
      · intro b u z
        by_cases q : b = a
        · subst q
          have z2 := (if_pos rfl).symm.trans z
          cases z2
          exact ⟨ha, by simpa using hl, vs, _, rel, ha⟩
        · exact nomatch (if_neg q).symm.trans z
      · intro b z
        by_cases q : b = a
        · exact ⟨q, hk⟩
        · exact absurd (if_neg q) z
  intro H only seq hok one
  have untr : ∀ {b : Addr} {m : Str → Option Value}, s₁.heap.Ns b m → (hidT s₁.heap H).Ns b m := by
    rintro b m ⟨o, es, ep, e, d, r⟩
    refine ⟨o, es, ep, hidT_get e ?_, d, r⟩
    by_cases q : H b = none
    · exact q
    · obtain ⟨rfl, _⟩ := one b q
      rw [ha] at e
      cases e
      exact absurd d (by simp)
  have inB : K.In (hidT s₁.heap H) := by
    intro b o e
    refine hidT_get (KX b o e) ?_
    by_cases q : H b = none
    · exact q
    · obtain ⟨rfl, z⟩ := one b q
      rw [z] at e
      cases e
  have modu : Mod K mg (hidT s₁.heap H) := ⟨inB, untr hns, ⟨mb, untr hb, hbb⟩, hlim.elim fun mc z => ⟨mc, untr z.1, z.2⟩⟩
  have env : Env0 P w K mg (hidT s₁.heap H) callerA [] s₁ H :=
    ⟨rfl, modu, fun _ _ e => of_hidT e, Nat.le_of_eq (hidT_size _ _), trivial, fun b z => absurd (show b ∈ ([] : List Addr) from z) (by simp), hok, .of_eq hg⟩
  refine codeAny_mono ((F _ inB (untr hns)).run callerA [] s₁ H ⟨[.ref a], []⟩ [.ref a] [.ref a] _ _ rfl hr env (bnd s₁ (.ref a)) (.cons rfl .nil) (hsp H only seq)) ?_
  rintro (e' | fl) s' z
  · exact z.elim
  cases fl with
  | next => exact z.elim
  | brk => exact z.elim
  | cont => exact z.elim
  | ret u =>
    obtain ⟨v, H', os, bare, un, ok', rv, rfl⟩ := z
    obtain rfl : u = Value.bool true := rv
    refine ⟨rfl, OldK.of_keep ?_, os, bare⟩
    intro b o e
    rcases only b with q | ⟨ob, xs, q⟩
    · exact un.keep b o e q (fun z => absurd (show b ∈ ([] : List Addr) from z) (by simp)) (by simp)
    · have q2 := (ok' b _ (un.frzs b ob _ q)).1
      have q1 := (hok b _ q).1
      rw [e] at q1
      cases q1
      exact q2

theorem walk_ofG {l : PySem.W.OpenLaw} {n k : Nat} {q : Program} {loose : List Str} {XP : (Str → Option Value) → Heap → Prop} {YP : World → Heap → Prop} {d : DefRec}
    {K : Params → PySem.W.Frag} {sp : World → Sp} {x : Str} (hn : l.most = some n) (hn2 : n ≤ sizeLine) (hdf : d.params.defaults = []) (hr : Room k callerA)
    (hY : ∀ (w : World) (h : Heap), YP w h → (K w.params).In h)
    (F : ∀ (w : World) (mg : Str → Option Value) (fa : Addr) (h : Heap), (K w.params).In h → h.Ns mainGlobals mg → mg d.name = some (.ref fa) →
      ∃ fd : FuncData, (∀ (s : Shared) (u : Value), BindsTo s fd ⟨[u], []⟩ [(x, u)]) ∧
        ∀ base : Heap, (K w.params).In base → base.Ns mainGlobals mg → FnG l.prog w (K w.params) mg base CX0 k fa fd [x] (sp w))
    (hsp : ∀ (w : World) (H : Hp) (a : Addr) (ns : List Int), ns.length ≤ n → Only H → SqL (K w.params) H a (ns.map V.int) → sp w [.ref a] H (fun v _ => v = .bl true) fun _ _ _ => False) :
    PySem.W.WalkO q loose XP YP l.row.toRowW d [] (fun f vs => PySem.call f vs) := by
  refine Att.attach_call hn hdf ?_
  intro w s₀ s₁ mg mb fa o pm cd doc a vs ns G Y _ _ _ hmg hobj hints hlen hg
  have KX := hY w _ Y
  obtain ⟨fd, hb, hF⟩ := F w mg fa _ KX G.T.g hmg
  exact law_callG KX G.T.g G.T.b G.T.builtins G.T.nolimit hg hobj hints (Nat.le_trans hlen hn2) hr hF hb fun H hO hS => hsp w H a ns hlen hO hS

/-! ## rules -/
section
variable {X : Cx}
theorem op_powN : OpR X (binaryOp .Pow) (rI (fun i j => 0 ≤ j ∧ (Builtin.Int.intBits i : Int) * j ≤ 2 ^ 27) fun i j => .int (i ^ j.toNat)) :=
  opI fun _ _ _ _ _ _ _ hc q => pow_int hc.1 hc.2 q

/-- repr of a list or tuple of data -/
theorem call_reprD (hg : X.A.guards = some []) (hu : X.A.units + 64 < cLine) : CallR X (.builtin "repr") (fun xs H Q =>
    ∃ a d, xs = [.ref a] ∧ Dp X.K H (.ref a) d ∧ d.showable = true ∧ d.hasDict = false ∧ d.depth + 1 ≤ 64 ∧ d.shown.length ≤ sizeLine ∧ Q (.str d.shown) H) := by
  intro pins s σ H xs us Q I r h
  obtain ⟨a, d, rfl, hd, hs, hn, hdp, hz, q⟩ := h
  obtain ⟨u, rfl, ru⟩ := vals1 r
  cases ru
  obtain ⟨as, rd⟩ := Dp.reads I d _ _ hd rfl
  exact repr_of_reads' rd hs (PyData.noDict_hsm hn) hg (by omega) (fun _ _ e => e) (fun h' u tk hk => ⟨.str d.shown, H, I.kept hk, ⟨_, rfl⟩, q⟩) hz
/-- repr of any data -/
theorem call_repr (hg : X.A.guards = some []) (hu : X.A.units + 64 < cLine) : CallR X (.builtin "repr") (fun xs H Q =>
    ∃ v d, xs = [v] ∧ Dp X.K H v d ∧ d.showable = true ∧ d.hasDict = false ∧ d.depth + 1 ≤ 64 ∧ d.shown.length ≤ sizeLine ∧ Q (.str d.shown) H) := by
  intro pins s σ H xs us Q I r h
  obtain ⟨v, d, rfl, hd, hs, hn, hdp, hz, q⟩ := h
  cases hd with
  | non =>
    obtain ⟨u, rfl, ru⟩ := vals1 r
    cases ru
    exact PySem.P.repr_of_none ⟨.str _, H, I.tok _, ⟨_, rfl⟩, q⟩
  | bl b =>
    obtain ⟨u, rfl, ru⟩ := vals1 r
    cases ru
    refine PySem.P.repr_of_bool ⟨.str _, H, I.tok _, ⟨_, rfl⟩, ?_⟩
    cases b <;> exact q
  | int i =>
    obtain ⟨u, rfl, t, rfl⟩ := vals1 r
    exact PySem.P.repr_of_int (of_decide_eq_true hs) ⟨.str _, H, I.tok _, ⟨_, rfl⟩, q⟩
  | str x =>
    obtain ⟨u, rfl, t, rfl⟩ := vals1 r
    exact PySem.P.repr_of_str ⟨.str _, H, I.tok _, ⟨_, rfl⟩, q⟩ hz
  | lst hs' ha => exact call_reprD hg hu pins s σ H _ us Q I r ⟨_, _, rfl, .lst hs' ha, hs, hn, hdp, hz, q⟩
  | tup hs' ha => exact call_reprD hg hu pins s σ H _ us Q I r ⟨_, _, rfl, .tup hs' ha, hs, hn, hdp, hz, q⟩
end
end Lk
namespace Lk
open PySem PySem.Spec PyProof.Rows L2

/-! ## data: how great, how deep -/
structure Ok (n w : Nat) (d : PyData) : Prop where
  sh : d.showable = true
  nd : d.hasDict = false
  dp : d.depth ≤ n
  cl : d.canLay0 = true
  lv : d.leavesShort 64 = true
  wt : d.weight ≤ w
namespace Ok
variable {n w n' w' L : Nat} {d : PyData} {ds : List PyData}
theorem mono (h : Ok n w d) (hn : n ≤ n') (hw : w ≤ w') : Ok n' w' d := ⟨h.sh, h.nd, Nat.le_trans h.dp hn, h.cl, h.lv, Nat.le_trans h.wt hw⟩
theorem shaped (h : Ok n w d) (hn : n ≤ 64) : SeqAt.shaped d = true := by
  unfold SeqAt.shaped
  rw [h.cl, decide_eq_true (Nat.le_trans h.dp hn)]
  rfl
theorem fits (h : Ok n w d) (hw : w ≤ 2 ^ 17) : d.shown.length ≤ sizeLine := by
  have a := PyData.shown_le 64 (by decide) d h.lv
  have b : (64 + 2) * d.weight ≤ 66 * 2 ^ 17 := Nat.mul_le_mul_left 66 (Nat.le_trans h.wt hw)
  have c : sizeLine = 2 ^ 24 := rfl
  omega
theorem none : Ok n w .none := ⟨rfl, rfl, Nat.zero_le _, rfl, rfl, Nat.zero_le _⟩
theorem bool (b : Bool) : Ok n w (.bool b) := ⟨rfl, rfl, Nat.zero_le _, rfl, rfl, Nat.zero_le _⟩
end Ok
def okAll (n w : Nat) (ds : List PyData) : Prop := ∀ d ∈ ds, Ok n w d
theorem okAll_facts {n w : Nat} : ∀ {ds : List PyData}, okAll n w ds → PyData.showableAll ds = true ∧ PyData.hasDictAll ds = false ∧ PyData.depthAll ds ≤ n ∧ PyData.canLayAll0 ds = true ∧ PyData.leavesShortAll 64 ds = true ∧ PyData.weightAll ds ≤ ds.length * (w + 1)
  | [], _ => ⟨rfl, rfl, Nat.zero_le _, rfl, rfl, Nat.zero_le _⟩
  | d :: ds, h => by
    have a := h d (List.mem_cons_self ..)
    obtain ⟨b1, b2, b3, b4, b5, b6⟩ := okAll_facts (ds := ds) fun x hx => h x (List.mem_cons_of_mem _ hx)
    refine ⟨?_, ?_, ?_, ?_, ?_, ?_⟩
    · show (d.showable && PyData.showableAll ds) = true
      rw [a.sh, b1]
      rfl
    · show (d.hasDict || PyData.hasDictAll ds) = false
      rw [a.nd, b2]
      rfl
    · show max d.depth (PyData.depthAll ds) ≤ n
      exact Nat.max_le.mpr ⟨a.dp, b3⟩
    · show (d.canLay0 && PyData.canLayAll0 ds) = true
      rw [a.cl, b4]
      rfl
    · show (d.leavesShort 64 && PyData.leavesShortAll 64 ds) = true
      rw [a.lv, b5]
      rfl
    · show d.weight + 1 + PyData.weightAll ds ≤ (ds.length + 1) * (w + 1)
      have := a.wt
      rw [Nat.succ_mul]
      omega
theorem Ok.list {n w L : Nat} {ds : List PyData} (h : okAll n w ds) (hl : ds.length ≤ L) : Ok (n + 1) (L * (w + 1)) (.list ds) := by
  obtain ⟨b1, b2, b3, b4, b5, b6⟩ := okAll_facts h
  refine ⟨b1, b2, ?_, b4, b5, ?_⟩
  · show PyData.depthAll ds + 1 ≤ n + 1
    omega
  · show PyData.weightAll ds ≤ _
    exact Nat.le_trans b6 (Nat.mul_le_mul_right _ hl)
theorem Ok.tuple {n w L : Nat} {ds : List PyData} (h : okAll n w ds) (hl : ds.length ≤ L) : Ok (n + 1) (L * (w + 1)) (.tuple ds) := by
  obtain ⟨b1, b2, b3, b4, b5, b6⟩ := okAll_facts h
  refine ⟨b1, b2, ?_, b4, b5, ?_⟩
  · show PyData.depthAll ds + 1 ≤ n + 1
    omega
  · show PyData.weightAll ds ≤ _
    exact Nat.le_trans b6 (Nat.mul_le_mul_right _ hl)
theorem Ok.int {n w : Nat} {i : Int} (h : i.natAbs < 2 ^ 30) (hw : 30 ≤ w) : Ok n w (.int i) := by
  have l : i.natAbs.log2 < 30 ∨ i.natAbs = 0 := by
    by_cases z : i.natAbs = 0
    · exact .inr z
    · exact .inl ((Nat.log2_lt z).mpr h)
  have l2 : i.natAbs.log2 < 1920 := by
    rcases l with l | l
    · omega
    · rw [l]
      decide
  refine ⟨decide_eq_true l2, rfl, Nat.zero_le _, rfl, ?_, ?_⟩
  · refine decide_eq_true (Nat.le_trans (PyData.shown_int_le (by omega)) (by decide))
  · show (if i == 0 then 0 else i.natAbs.log2 + 1) ≤ w
    split
    · exact Nat.zero_le _
    · rename_i hi
      rcases l with l | l
      · omega
      · exact absurd (by simpa using Int.natAbs_eq_zero.mp l) hi
theorem okAll.nil {n w : Nat} : okAll n w [] := fun _ h => nomatch h
theorem okAll.cons {n w : Nat} {d : PyData} {ds : List PyData} (h : Ok n w d) (t : okAll n w ds) : okAll n w (d :: ds) := fun x hx => by
  rcases List.mem_cons.mp hx with rfl | hx
  · exact h
  · exact t x hx
theorem okAll.append {n w : Nat} {ds es : List PyData} (h : okAll n w ds) (t : okAll n w es) : okAll n w (ds ++ es) := fun x hx => by
  rcases List.mem_append.mp hx with hx | hx
  · exact h x hx
  · exact t x hx
theorem okAll.sub {n w : Nat} {ds es : List PyData} (h : okAll n w ds) (s : ∀ x ∈ es, x ∈ ds) : okAll n w es := fun x hx => h x (s x hx)
theorem okAll.mono {n w n' w' : Nat} {ds : List PyData} (h : okAll n w ds) (hn : n ≤ n') (hw : w ≤ w') : okAll n' w' ds := fun x hx => (h x hx).mono hn hw
theorem okAll.ints {n w : Nat} {ns : List Int} (h : ∀ i ∈ ns, i.natAbs < 2 ^ 30) (hw : 30 ≤ w) : okAll n w (ns.map PyData.int) := fun x hx => by
  obtain ⟨i, hi, rfl⟩ := List.mem_map.mp hx
  exact .int (h i hi) hw

/-! ## data on the heap -/
mutual
theorem Dp.same {K : PySem.W.Frag} {H H' : Hp} (f : ∀ a xs, SqL K H a xs → SqL K H' a xs) (g : ∀ a xs, SqT K H a xs → SqT K H' a xs) : ∀ (d : PyData) {v : V}, Dp K H v d → Dp K H' v d
  | .none, _, h => by cases h; exact .non
  | .bool _, _, h => by cases h; exact .bl _
  | .int _, _, h => by cases h; exact .int _
  | .str _, _, h => by cases h; exact .str _
  | .list ds, _, h => by
    cases h with
    | lst hs ha => exact .lst (f _ _ hs) (DpAll.same f g ds ha)
  | .tuple ds, _, h => by
    cases h with
    | tup hs ha => exact .tup (g _ _ hs) (DpAll.same f g ds ha)
  | .dict _, _, h => by cases h
theorem DpAll.same {K : PySem.W.Frag} {H H' : Hp} (f : ∀ a xs, SqL K H a xs → SqL K H' a xs) (g : ∀ a xs, SqT K H a xs → SqT K H' a xs) : ∀ (ds : List PyData) {vs : List V}, DpAll K H vs ds → DpAll K H' vs ds
  | [], _, h => by cases h; exact .nil
  | d :: ds, _, h => by
    cases h with
    | cons h1 h2 => exact .cons (Dp.same f g d h1) (DpAll.same f g ds h2)
end
theorem Same.tup {K : PySem.W.Frag} {H H' : Hp} {a : Addr} {xs : List V} (e : Same H H') (h : SqT K H a xs) : SqT K H' a xs := by
  rcases h with (h | ⟨o, h⟩) | h
  · exact .inl (.inl (e _ _ h))
  · exact .inl (.inr ⟨o, e _ _ h⟩)
  · exact .inr h
theorem Dp.sm {K : PySem.W.Frag} {H H' : Hp} {d : PyData} {v : V} (s : Same H H') (h : Dp K H v d) : Dp K H' v d := Dp.same (fun _ _ => s.seq) (fun _ _ => Same.tup s) d h
theorem DpAll.sm {K : PySem.W.Frag} {H H' : Hp} {ds : List PyData} {vs : List V} (s : Same H H') (h : DpAll K H vs ds) : DpAll K H' vs ds := DpAll.same (fun _ _ => s.seq) (fun _ _ => Same.tup s) ds h
section
variable {K : PySem.W.Frag} {H : Hp}
theorem DpAll.length : ∀ {vs : List V} {ds : List PyData}, DpAll K H vs ds → vs.length = ds.length
  | _, [], h => by cases h; rfl
  | _, d :: ds, h => by
    cases h with
    | cons h1 h2 => rw [List.length_cons, List.length_cons, DpAll.length h2]
theorem DpAll.get : ∀ {vs : List V} {ds : List PyData} {i : Nat} {v : V}, DpAll K H vs ds → vs[i]? = some v → ∃ d, ds[i]? = some d ∧ Dp K H v d
  | _, [], i, v, h, e => by cases h; simp at e
  | _, d :: ds, 0, v, h, e => by
    cases h with
    | cons h1 h2 =>
      cases e
      exact ⟨d, rfl, h1⟩
  | _, d :: ds, i + 1, v, h, e => by
    cases h with
    | cons h1 h2 => exact DpAll.get (i := i) h2 (by simpa using e)
theorem DpAll.ints : ∀ (ns : List Int), DpAll K H (ns.map V.int) (ns.map PyData.int)
  | [] => .nil
  | _ :: ns => .cons (.int _) (DpAll.ints ns)
theorem DpAll.bls : ∀ (ns : List Bool), DpAll K H (ns.map V.bl) (ns.map PyData.bool)
  | [] => .nil
  | _ :: ns => .cons (.bl _) (DpAll.bls ns)
theorem DpAll.of_ints : ∀ {vs : List V} {ns : List Int}, DpAll K H vs (ns.map PyData.int) → vs = ns.map V.int
  | _, [], h => by cases h; rfl
  | _, n :: ns, h => by
    cases h with
    | cons h1 h2 =>
      cases h1
      rw [DpAll.of_ints h2]
      rfl
theorem DpAll.append : ∀ {vs ws : List V} {ds es : List PyData}, DpAll K H vs ds → DpAll K H ws es → DpAll K H (vs ++ ws) (ds ++ es)
  | _, _, [], _, h, t => by cases h; exact t
  | _, _, d :: ds, _, h, t => by
    cases h with
    | cons h1 h2 => exact .cons h1 (DpAll.append h2 t)
theorem DpAll.take : ∀ (n : Nat) {vs : List V} {ds : List PyData}, DpAll K H vs ds → DpAll K H (vs.take n) (ds.take n)
  | 0, _, _, _ => .nil
  | n + 1, _, [], h => by cases h; exact .nil
  | n + 1, _, d :: ds, h => by
    cases h with
    | cons h1 h2 => exact .cons h1 (DpAll.take n h2)
theorem DpAll.drop : ∀ (n : Nat) {vs : List V} {ds : List PyData}, DpAll K H vs ds → DpAll K H (vs.drop n) (ds.drop n)
  | 0, _, _, h => h
  | n + 1, _, [], h => by cases h; exact .nil
  | n + 1, _, d :: ds, h => by
    cases h with
    | cons h1 h2 => exact DpAll.drop n h2
end

/-! ## isinstance over data -/
def tyD : PyData → String
  | .none => "NoneType"
  | .bool _ => "bool"
  | .int _ => "int"
  | .str _ => "str"
  | .list _ => "list"
  | .tuple _ => "tuple"
  | .dict _ => "dict"
def isTy (T : String) (d : PyData) : Bool := tyD d == T || (T == "int" && tyD d == "bool")
theorem SqL.ty {K : PySem.W.Frag} {H : Hp} {a : Addr} {xs : List V} (h : SqL K H a xs) : TyX K H (.ref a) (.type "list") := by
  rcases h with (h | ⟨o, h⟩) | ⟨o, its, n, h1, h2, _⟩
  · exact .base (.lst h)
  · exact .base (.frz h)
  · exact .kList h1 h2
theorem SqT.ty {K : PySem.W.Frag} {H : Hp} {a : Addr} {xs : List V} (h : SqT K H a xs) : TyX K H (.ref a) (.type "tuple") := by
  rcases h with (h | ⟨o, h⟩) | ⟨o, its, n, h1, h2, _⟩
  · exact .base (.tup h)
  · exact .fTuple h
  · exact .kTuple h1 h2
theorem Dp.ty {K : PySem.W.Frag} {H : Hp} {v : V} {d : PyData} (h : Dp K H v d) : TyX K H v (.type (tyD d)) := by
  cases h with
  | non => exact .base .non
  | bl b => exact .base (.bl b)
  | int i => exact .base (.int i)
  | str x => exact .base (.str x)
  | lst hs _ => exact SqL.ty hs
  | tup hs _ => exact SqT.ty hs
theorem kit_names : ∀ a ∈ ["NoneType", "bool", "int", "str", "list", "tuple"], ∀ T ∈ ["int", "bool", "list", "tuple", "str"], kitB a T = some (a == T || (T == "int" && a == "bool")) := by decide +kernel
theorem Dp.kit {K : PySem.W.Frag} {H : Hp} {v : V} {d : PyData} (h : Dp K H v d) {T : String} (hT : T ∈ ["int", "bool", "list", "tuple", "str"]) : kitB (tyD d) T = some (isTy T d) := by
  refine kit_names (tyD d) ?_ T hT
  cases h <;> simp [tyD]
section
variable {X : Cx}
theorem call_isiD (T : String) (hT : T ∈ ["int", "bool", "list", "tuple", "str"] := by decide) : CallR X (.builtin "isinstance") (fun xs H Q => ∃ v d, xs = [v, .ty T] ∧ Dp X.K H v d ∧ Q (.bl (isTy T d)) H) := by
  intro pins s σ H xs us Q I r h
  obtain ⟨v, d, rfl, hd, q⟩ := h
  exact call_isi pins s σ H _ us Q I r ⟨v, .ty T, .type (tyD d), .type T, _, rfl, .ty T, Dp.ty hd, kit_ty (Dp.kit hd hT), q⟩
/-- the same within a comprehension, where X.K is K by computation -/
theorem call_isiDK {K : PySem.W.Frag} (T : String) (hK : X.K = K := by rfl) (hT : T ∈ ["int", "bool", "list", "tuple", "str"] := by decide) :
    CallR X (.builtin "isinstance") (fun xs H Q => ∃ v d, xs = [v, .ty T] ∧ Dp K H v d ∧ Q (.bl (isTy T d)) H) := by
  subst hK
  exact call_isiD T hT
end
end Lk
namespace Lk
open PySem PySem.Spec PyProof.Rows L2

/-! ## calls by keywords alone -/
section
variable {X : Cx} {CX : CXT} {k : Nat} {f : Addr} {fd : FuncData} {ps ks : List Str} {sp : Sp} {E : XK} {x : Str} {p pos : Pos} {kws : List Keyword} {tk : TA}
  {g : List Value → List Value → List Value} {gV : List V → List V → List V}
theorem pe_callK0 (F : FnOk X.prog X.w X.K X.mg X.base CX k f fd ps sp) (hr : Room k X.A) (hg : Gl X x) (hm : X.mg x = some (.ref f))
    (hk : PySem.W.keepIn X.K (.ref f) = true) (hb : KBinds X.K fd ps ks g gV) (hx : Passes CX X E) (hkw : PK X kws tk)
    (hall : (backToKw pos (keywordEach kws X.env)).all (·.1.isSome) = true := by rfl) (hks : (backToKw pos (keywordEach kws X.env)).filterMap (·.1) = ks := by rfl)
    (hdb : (x == ("__debug__" : Str)) = false := by decide)
    (hpl : ((backTo pos (starEach [] X.env)).any (·.1) || (backToKw pos (keywordEach kws X.env)).any (·.1.isNone)) = false := by rfl) :
    PE X (.Call (.Name x p) [] kws pos) (tCallK sp gV E tNil tk) := by
  constructor
  intro pins s σ H Q I h
  refine wpAny_Call_Name_kw (ld_glob I hg hm ?_ hdb)
  refine PySem.W.callWith_KW0 (h₀ := X.base) I.ok.mod.kin hk hall ?_ hpl
  refine thn (hkw.run pos pins s σ H _ I h) ?_
  rintro ws s2 ⟨zs, H2, I2, rz, q2⟩
  refine ⟨I2.kIn, ?_⟩
  rw [hks]
  exact run_fnk (us := []) (vs := []) F hr hb hx I2 .nil rz q2
end
def g1 {α : Type} : List α → List α → List α
  | [], [a] => [a]
  | _, _ => []
def g21 {α : Type} : List α → List α → List α
  | [], [a, b] => [b, a]
  | _, _ => []
def g321 {α : Type} : List α → List α → List α
  | [], [a, b, c] => [c, b, a]
  | _, _ => []
section
variable {K : PySem.W.Frag} {x qual : Str} {st : Stmt} {f : Addr} {fd : FuncData} {n m l : Str}
theorem kb1 (F : Fun K x qual st f fd) (h : ∀ (kV doc pm : Value) (an : Option Addr) (cdv ct w : Value),
      bindArgs (PySem.W.fnOf x qual (defArgs st) (defBody st) (defScope st) .none kV doc pm an cdv ct) ⟨[], [(n, w)]⟩ = pure [(n, w)]) : KBinds K fd [n] [n] g1 g1 := by
  obtain ⟨oc, od, kV, doc, pm, an, cdv, ct, osl, rfl, lk, hcd⟩ := F.ex
  constructor
  · intro s us ws _ hl
    match us, ws, hl with
    | [], [w], _ => exact .of_eq (h kV doc pm an cdv ct w)
  · intro vs us zs ws r rz
    cases r with
    | nil =>
      cases rz with
      | nil => exact .nil
      | cons a t =>
        cases t with
        | nil => exact .cons a .nil
        | cons _ _ => exact .nil
    | cons _ _ => exact .nil
theorem kb21 (F : Fun K x qual st f fd) (h : ∀ (kV doc pm : Value) (an : Option Addr) (cdv ct w w' : Value),
      bindArgs (PySem.W.fnOf x qual (defArgs st) (defBody st) (defScope st) .none kV doc pm an cdv ct) ⟨[], [(m, w'), (n, w)]⟩ = pure [(n, w), (m, w')]) : KBinds K fd [n, m] [m, n] g21 g21 := by
  obtain ⟨oc, od, kV, doc, pm, an, cdv, ct, osl, rfl, lk, hcd⟩ := F.ex
  constructor
  · intro s us ws _ hl
    match us, ws, hl with
    | [], [w', w], _ => exact .of_eq (h kV doc pm an cdv ct w w')
  · intro vs us zs ws r rz
    cases r with
    | nil =>
      cases rz with
      | nil => exact .nil
      | cons a t =>
        cases t with
        | nil => exact .nil
        | cons b t =>
          cases t with
          | nil => exact .cons b (.cons a .nil)
          | cons _ _ => exact .nil
    | cons _ _ => exact .nil
theorem kb321 (F : Fun K x qual st f fd) (h : ∀ (kV doc pm : Value) (an : Option Addr) (cdv ct w w' w'' : Value),
      bindArgs (PySem.W.fnOf x qual (defArgs st) (defBody st) (defScope st) .none kV doc pm an cdv ct) ⟨[], [(l, w''), (m, w'), (n, w)]⟩ = pure [(n, w), (m, w'), (l, w'')]) : KBinds K fd [n, m, l] [l, m, n] g321 g321 := by
  obtain ⟨oc, od, kV, doc, pm, an, cdv, ct, osl, rfl, lk, hcd⟩ := F.ex
  constructor
  · intro s us ws _ hl
    match us, ws, hl with
    | [], [w'', w', w], _ => exact .of_eq (h kV doc pm an cdv ct w w' w'')
  · intro vs us zs ws r rz
    cases r with
    | nil =>
      cases rz with
      | nil => exact .nil
      | cons a t =>
        cases t with
        | nil => exact .nil
        | cons b t =>
          cases t with
          | nil => exact .nil
          | cons c t =>
            cases t with
            | nil => exact .cons c (.cons b (.cons a .nil))
            | cons _ _ => exact .nil
    | cons _ _ => exact .nil
end
/-! ## a new object, its heap a letter -/
theorem new_of {H : Hp} {o : HO} {Q : V → Hp → Prop} (h : ∀ p H', Same H H' → H p = none → H' p = some o → Q (.ref p) H') : ∀ p, H p = none → Q (.ref p) (upd H p o) := fun p np => h p _ (fun b x e => by
  rw [upd_ne (ne_of_none e np)]
  exact e) np upd_same
theorem eqv_nil (ds : List PyData) : PyData.eqv (.list ds) (.list []) = ds.isEmpty := by
  cases ds <;> rfl
mutual
theorem eqv_rfl : ∀ d : PyData, d.hasDict = false → PyData.eqv d d = true
  | .none, _ => rfl
  | .bool b, _ => by cases b <;> rfl
  | .int i, _ => by
    show (i == i) = true
    exact beq_self_eq_true i
  | .str x, _ => by
    show (x == x) = true
    exact beq_self_eq_true x
  | .list ds, h => eqvAll_rfl ds h
  | .tuple ds, h => eqvAll_rfl ds h
  | .dict _, h => by cases h
theorem eqvAll_rfl : ∀ ds : List PyData, PyData.hasDictAll ds = false → PyData.eqvAll ds ds = true
  | [], _ => rfl
  | d :: ds, h => by
    have h' : (d.hasDict || PyData.hasDictAll ds) = false := h
    rw [Bool.or_eq_false_iff] at h'
    show (PyData.eqv d d && PyData.eqvAll ds ds) = true
    rw [eqv_rfl d h'.1, eqvAll_rfl ds h'.2]
    rfl
end
/-! ## the rules that lay an object, with the heap behind them a letter -/
def New (o : HO) (H : Hp) (Q : V → Hp → Prop) : Prop := ∀ p H', Same H H' → H p = none → H' p = some o → Q (.ref p) H'
section
variable {X : Cx} {es : List Expr} {t : TA} {pos : Pos}
def tLstN (t : TA) : TE := fun σ H Q => t σ H fun xs H1 => xs.length ≤ sizeLine ∧ New (.lst xs) H1 Q
def tTupN (t : TA) : TE := fun σ H Q => t σ H fun xs H1 => xs.length ≤ sizeLine ∧ New (.tup xs) H1 Q
theorem pe_lstN (h : PA X es t) : PE X (.List es pos) (tLstN t) := by
  constructor
  intro pins s σ H Q I hq
  refine wpAny_List_spliced (thn (h.run pos pins s σ H _ I hq) ?_)
  rintro us s1 ⟨xs, H1, I1, r, z, q⟩
  refine ⟨r.length ▸ z, ?_⟩
  have fresh : H1 s1.heap.objs.size = none := I1.hok.fresh (Nat.le_refl _)
  refine ⟨.ref s1.heap.objs.size, upd H1 s1.heap.objs.size (.lst xs), ?_, rfl, new_of q _ fresh⟩
  exact I1.laid (t' := s1.toks) (fun b u e => Heap.get?_push_of_some _ e) (Nat.le_refl _) ⟨z, us, 0, r, Heap.get?_push_size _ rfl⟩
theorem pe_tupN {x1} (h : PA X es t) : PE X (.Tuple es x1 pos) (tTupN t) := by
  constructor
  intro pins s σ H Q I hq
  refine wpAny_Tuple_spliced (thn (h.run pos pins s σ H _ I hq) ?_)
  rintro us s1 ⟨xs, H1, I1, r, z, q⟩
  refine ⟨r.length ▸ z, ?_⟩
  have fresh : H1 s1.heap.objs.size = none := I1.hok.fresh (Nat.le_refl _)
  refine ⟨.ref s1.heap.objs.size, upd H1 s1.heap.objs.size (.tup xs), ?_, rfl, new_of q _ fresh⟩
  exact I1.laid (t' := s1.toks) (fun b u e => Heap.get?_push_of_some _ e) (Nat.le_refl _) ⟨z, us, r, ⟨_, Heap.get?_push_size _ rfl, rfl, _, rfl⟩⟩
def rCatN : R2 := fun x y H Q => ∃ l b xs zs, x = .ref l ∧ y = .ref b ∧ H l = some (.lst xs) ∧ H b = some (.lst zs) ∧ xs.length + zs.length ≤ sizeLine ∧ New (.lst (xs ++ zs)) H Q
theorem op_catN : OpR X (binaryOp .Add) rCatN := by
  intro pins s σ H x y v u Q I rx ry h
  obtain ⟨l, b, xs, zs, h1, h2, h3, h4, h5, q⟩ := h
  exact op_cat pins s σ H x y v u Q I rx ry ⟨l, b, xs, zs, h1, h2, h3, h4, h5, new_of q⟩
def rRepN : R2 := fun x y H Q => ∃ l k xs, x = .ref l ∧ y = .int k ∧ H l = some (.lst xs) ∧ -(2 ^ 63) ≤ k ∧ k < 2 ^ 63 ∧ xs.length * k.toNat ≤ sizeLine ∧ New (.lst (List.replicate k.toNat xs).flatten) H Q
theorem op_repN : OpR X (binaryOp .Mult) rRepN := by
  intro pins s σ H x y v u Q I rx ry h
  obtain ⟨l, k, xs, h1, h2, h3, h4, h5, h6, q⟩ := h
  exact op_rep pins s σ H x y v u Q I rx ry ⟨l, k, xs, h1, h2, h3, h4, h5, h6, new_of q⟩
theorem call_tupleN : CallR X (.type "tuple") (fun xs H Q => ∃ p ys, xs = [.ref p] ∧ SqL X.K H p ys ∧ New (.tup ys) H Q) := by
  intro pins s σ H xs us Q I r h
  obtain ⟨p, ys, h1, h2, q⟩ := h
  exact call_tuple_of pins s σ H xs us Q I r ⟨p, ys, h1, .inl ⟨h2, new_of q⟩⟩
theorem call_listN : CallR X (.type "list") (fun xs H Q => ∃ p ys, xs = [.ref p] ∧ (SqL X.K H p ys ∨ SqT X.K H p ys) ∧ New (.lst ys) H Q) := by
  intro pins s σ H xs us Q I r h
  obtain ⟨p, ys, h1, h2, q⟩ := h
  exact call_list_of pins s σ H xs us Q I r ⟨p, ys, h1, h2, new_of q⟩
theorem sl_listN : SlR X (fun x lo hi H Q => ∃ a xs, x = .ref a ∧ SqL X.K H a xs ∧ New (.lst (cutV xs lo hi)) H Q) := by
  intro pins s σ H x v vl vu lo hi sl Q I rx hs pl pu h
  obtain ⟨a, xs, h1, h2, q⟩ := h
  exact sl_list pins s σ H x v vl vu lo hi sl Q I rx hs pl pu ⟨a, xs, h1, h2, new_of q⟩
end
end Lk
namespace DL
open PySem PySem.Spec PyProof.Rows L2 Lk
mutual
inductive Dq (K : PySem.W.Frag) (H : Hp) : V → PyData → Prop
  | non : Dq K H .non .none
  | bl (b : Bool) : Dq K H (.bl b) (.bool b)
  | int (i : Int) : Dq K H (.int i) (.int i)
  | str (x : Str) : Dq K H (.str x) (.str x)
  | lst {a : Addr} {xs : List V} {ds : List PyData} : SqL K H a xs → DqAll K H xs ds → Dq K H (.ref a) (.list ds)
  | tup {a : Addr} {xs : List V} {ds : List PyData} : SqT K H a xs → DqAll K H xs ds → Dq K H (.ref a) (.tuple ds)
inductive DqAll (K : PySem.W.Frag) (H : Hp) : List V → List PyData → Prop
  | nil : DqAll K H [] []
  | cons {v : V} {vs : List V} {d : PyData} {ds : List PyData} : Dq K H v d → DqAll K H vs ds → DqAll K H (v :: vs) (d :: ds)
end
theorem Same.rd {H H' : Hp} (s : Same H H') {a : Addr} {u : HO} (h : Rd H a u) : Rd H' a u := by
  rcases h with h | ⟨o, h⟩
  · exact .inl (s _ _ h)
  · exact .inr ⟨o, s _ _ h⟩
mutual
theorem Dq.sm {K : PySem.W.Frag} {H H' : Hp} {v : V} : ∀ {d : PyData}, Dq K H v d → Same H H' → Dq K H' v d
  | .none, h, _ => by cases h; exact .non
  | .bool _, h, _ => by cases h; exact .bl _
  | .int _, h, _ => by cases h; exact .int _
  | .str _, h, _ => by cases h; exact .str _
  | .list _, h, s => by
    cases h with
    | lst hs ha => exact .lst (s.seq hs) (ha.sm s)
  | .tuple _, h, s => by
    cases h with
    | tup hs ha => exact .tup (Lk.Same.tup s hs) (ha.sm s)
  | .dict _, h, _ => by cases h
theorem DqAll.sm {K : PySem.W.Frag} {H H' : Hp} {vs : List V} : ∀ {ds : List PyData}, DqAll K H vs ds → Same H H' → DqAll K H' vs ds
  | [], h, _ => by cases h; exact .nil
  | _ :: _, h, s => by
    cases h with
    | cons h1 h2 => exact .cons (h1.sm s) (h2.sm s)
end
mutual
theorem Dq.dp {K : PySem.W.Frag} {H : Hp} {v : V} : ∀ {d : PyData}, Dq K H v d → Dp K H v d
  | .none, h => by cases h; exact .non
  | .bool _, h => by cases h; exact .bl _
  | .int _, h => by cases h; exact .int _
  | .str _, h => by cases h; exact .str _
  | .list _, h => by
    cases h with
    | lst hs ha => exact .lst hs ha.dp
  | .tuple _, h => by
    cases h with
    | tup hs ha => exact .tup hs ha.dp
  | .dict _, h => by cases h
theorem DqAll.dp {K : PySem.W.Frag} {H : Hp} {vs : List V} : ∀ {ds : List PyData}, DqAll K H vs ds → DpAll K H vs ds
  | [], h => by cases h; exact .nil
  | _ :: _, h => by
    cases h with
    | cons h1 h2 => exact .cons h1.dp h2.dp
end
section
variable {K : PySem.W.Frag} {H : Hp}
theorem DqAll.length : ∀ {vs : List V} {ds : List PyData}, DqAll K H vs ds → vs.length = ds.length
  | _, [], h => by cases h; rfl
  | _, d :: ds, h => by
    cases h with
    | cons h1 h2 => rw [List.length_cons, List.length_cons, DqAll.length h2]
theorem DqAll.get : ∀ {vs : List V} {ds : List PyData} {i : Nat} {d : PyData}, DqAll K H vs ds → ds[i]? = some d → ∃ v, vs[i]? = some v ∧ Dq K H v d
  | _, [], i, v, h, e => by simp at e
  | _, d :: ds, 0, v, h, e => by
    cases h with
    | cons h1 h2 =>
      cases e
      exact ⟨_, rfl, h1⟩
  | _, d :: ds, i + 1, v, h, e => by
    cases h with
    | cons h1 h2 => exact DqAll.get (i := i) h2 (by simpa using e)
theorem DqAll.append : ∀ {vs ws : List V} {ds es : List PyData}, DqAll K H vs ds → DqAll K H ws es → DqAll K H (vs ++ ws) (ds ++ es)
  | _, _, [], _, h, t => by cases h; exact t
  | _, _, d :: ds, _, h, t => by
    cases h with
    | cons h1 h2 => exact .cons h1 (DqAll.append h2 t)
theorem DqAll.take : ∀ (n : Nat) {vs : List V} {ds : List PyData}, DqAll K H vs ds → DqAll K H (vs.take n) (ds.take n)
  | 0, _, _, _ => .nil
  | n + 1, _, [], h => by cases h; exact .nil
  | n + 1, _, d :: ds, h => by
    cases h with
    | cons h1 h2 => exact .cons h1 (DqAll.take n h2)
theorem DqAll.drop : ∀ (n : Nat) {vs : List V} {ds : List PyData}, DqAll K H vs ds → DqAll K H (vs.drop n) (ds.drop n)
  | 0, _, _, h => h
  | n + 1, _, [], h => by cases h; exact .nil
  | n + 1, _, d :: ds, h => by
    cases h with
    | cons h1 h2 => exact DqAll.drop n h2
theorem DqAll.set {v : V} {d : PyData} (hv : Dq K H v d) : ∀ {vs : List V} {ds : List PyData} (i : Nat), DqAll K H vs ds → DqAll K H (vs.set i v) (ds.set i d)
  | _, _, _, .nil => .nil
  | _, _, 0, .cons _ h2 => .cons hv h2
  | _, _, i + 1, .cons h1 h2 => .cons h1 (DqAll.set hv i h2)
theorem DqAll.reverse {vs : List V} : ∀ {ds : List PyData}, DqAll K H vs ds → DqAll K H vs.reverse ds.reverse
  | _, .nil => .nil
  | _, .cons h1 h2 => by
    rw [List.reverse_cons, List.reverse_cons]
    exact (DqAll.reverse h2).append (.cons h1 .nil)
theorem DqAll.dropLast {vs : List V} {ds : List PyData} (h : DqAll K H vs ds) : DqAll K H vs.dropLast ds.dropLast := by
  rw [List.dropLast_eq_take, List.dropLast_eq_take, h.length]
  exact h.take _
theorem DqAll.rep {vs : List V} {ds : List PyData} (h : DqAll K H vs ds) : ∀ n : Nat, DqAll K H (List.replicate n vs).flatten (List.replicate n ds).flatten
  | 0 => .nil
  | n + 1 => by
    rw [List.replicate_succ, List.replicate_succ, List.flatten_cons, List.flatten_cons]
    exact h.append (h.rep n)
theorem DqAll.ints : ∀ (ns : List Int), DqAll K H (ns.map V.int) (ns.map PyData.int)
  | [] => .nil
  | _ :: ns => .cons (.int _) (DqAll.ints ns)
theorem DqAll.of_ints : ∀ {vs : List V} {ns : List Int}, DqAll K H vs (ns.map PyData.int) → vs = ns.map V.int
  | _, [], h => by cases h; rfl
  | _, n :: ns, h => by
    cases h with
    | cons h1 h2 =>
      cases h1
      rw [DqAll.of_ints h2]
      rfl
theorem DqAll.of_bools : ∀ {vs : List V} {ns : List Bool}, DqAll K H vs (ns.map PyData.bool) → vs = ns.map V.bl
  | _, [], h => by cases h; rfl
  | _, n :: ns, h => by
    cases h with
    | cons h1 h2 =>
      cases h1
      rw [DqAll.of_bools h2]
      rfl
end
/-! ## names hold data -/
inductive Cel where
  | un | pl (d : PyData) | ow (ds : List PyData) | io (ds : List PyData)
abbrev En := List Cel
def Cel.own : Cel → Bool
  | .ow _ => true
  | .io _ => true
  | _ => false
inductive Out (α : Type) where
  | ok (a : α) (r : En) | ex (c : Str) (p : List PyData)
abbrev M (α : Type) := En → Option (Out α)
def M.ret {α : Type} (a : α) : M α := fun r => some (.ok a r)
def M.bind {α β : Type} (m : M α) (k : α → M β) : M β := fun r => match m r with
  | some (.ok a r') => k a r'
  | some (.ex c p) => some (.ex c p)
  | none => none
def M.lift {α : Type} (o : Option α) : M α := fun r => match o with
  | some a => some (.ok a r)
  | none => none
/-- the frame: the heap and the view at the entry, the lists that are handed in and changed -/
structure Fm where
  H0 : Hp
  G0 : Hp
  ios : Nat → Option Addr
abbrev Ow := Nat → Option Addr
structure Rp (K : PySem.W.Frag) (F : Fm) (O : Ow) (G : Hp) (σ : L2.St) (H : Hp) (r : En) : Prop where
  sub : Same G H
  len : σ.length = r.length
  pl : ∀ (i : Nat) (d : PyData), r[i]? = some (Cel.pl d) → ∃ v, σ[i]? = some (some v) ∧ Dq K G v d
  ow : ∀ (i : Nat) (ds : List PyData), r[i]? = some (Cel.ow ds) → ∃ p xs, O i = some p ∧ σ[i]? = some (some (.ref p)) ∧ F.H0 p = none ∧ H p = some (.lst xs) ∧ DqAll K G xs ds
  io : ∀ (i : Nat) (ds : List PyData), r[i]? = some (Cel.io ds) → ∃ p xs, F.ios i = some p ∧ O i = some p ∧ σ[i]? = some (some (.ref p)) ∧ H p = some (.lst xs) ∧ DqAll K G xs ds
  on : ∀ (i : Nat) (p : Addr), O i = some p → (∃ c, r[i]? = some c ∧ c.own = true) ∧ G p = none ∧ H p ≠ none ∧ (F.H0 p = none ∨ ∃ j, F.ios j = some p)
  inj : ∀ (i j : Nat) (p : Addr), O i = some p → O j = some p → i = j
  old : ∀ c o, F.H0 c = some o → (∀ i, F.ios i ≠ some c) → H c = some o
  nf : ∀ c, H c = none → F.H0 c = none
  g0 : Same F.G0 G
  gn : ∀ c, G c ≠ none → F.G0 c ≠ none ∨ F.H0 c = none
structure Go (O : Ow) (G H G' H' : Hp) : Prop where
  gg : Same G G'
  keep : ∀ c o, H c = some o → (∀ i, O i ≠ some c) → H' c = some o
  gn : ∀ c, G' c ≠ none → G c ≠ none ∨ H c = none
  nf : ∀ c, H' c = none → H c = none
/-- a step that writes nothing that was there -/
structure Ps (G H G' H' : Hp) : Prop where
  gg : Same G G'
  gh : Same G' H'
  hh : Same H H'
  gn : ∀ c, G' c ≠ none → G c ≠ none ∨ H c = none
theorem Go.refl {O : Ow} {G H : Hp} : Go O G H G H := ⟨Same.refl _, fun _ _ e _ => e, fun _ e => .inl e, fun _ e => e⟩
theorem Go.trans {O : Ow} {G H G1 H1 G2 H2 : Hp} (a : Go O G H G1 H1) (b : Go O G1 H1 G2 H2) : Go O G H G2 H2 :=
  ⟨a.gg.trans b.gg, fun c o e n => b.keep c o (a.keep c o e n) n, fun c e => by
    rcases b.gn c e with z | z
    · exact a.gn c z
    · exact .inr (a.nf c z), fun c e => a.nf c (b.nf c e)⟩
theorem Ps.go {O : Ow} {G H G' H' : Hp} (p : Ps G H G' H') : Go O G H G' H' := ⟨p.gg, fun c o e _ => p.hh c o e, p.gn, fun c e => p.hh.free e⟩
theorem Ps.refl {G H : Hp} (s : Same G H) : Ps G H G H := ⟨Same.refl _, s, Same.refl _, fun _ e => .inl e⟩
theorem Ps.trans {G H G1 H1 G2 H2 : Hp} (a : Ps G H G1 H1) (b : Ps G1 H1 G2 H2) : Ps G H G2 H2 :=
  ⟨a.gg.trans b.gg, b.gh, a.hh.trans b.hh, fun c e => by
    rcases b.gn c e with z | z
    · exact a.gn c z
    · exact .inr (a.hh.free z)⟩
theorem Ps.of_same {G H H' : Hp} (s : Same G H) (h : Same H H') : Ps G H G H' := ⟨Same.refl _, s.trans h, h, fun _ e => .inl e⟩
theorem some_ne {H : Hp} {c : Addr} {o : HO} (h : H c = some o) : H c ≠ none := by rw [h]; exact fun z => nomatch z
/-- a new object that is seen from now on -/
theorem same_new {H : Hp} {p : Addr} {o : HO} (h : H p = none) : Same H (upd H p o) := fun b x e => by
  rw [upd_ne (ne_of_none e h)]
  exact e
theorem Ps.new {G H H' : Hp} {p : Addr} {o : HO} (s : Same G H) (h : Same H H') (n : H p = none) (e : H' p = some o) : Ps G H (upd G p o) H' := by
  have gp : G p = none := s.free n
  refine ⟨same_new gp, fun c x q => ?_, h, fun c q => ?_⟩
  · by_cases z : c = p
    · subst z
      rw [upd_same] at q
      cases q
      exact e
    · rw [upd_ne z] at q
      exact h _ _ (s _ _ q)
  · by_cases z : c = p
    · subst z
      exact .inr n
    · rw [upd_ne z] at q
      exact .inl q
section
variable {K : PySem.W.Frag} {F : Fm} {O : Ow} {G G' H H' : Hp} {σ : L2.St} {r : En}
theorem Rp.ps (R : Rp K F O G σ H r) (p : Ps G H G' H') : Rp K F O G' σ H' r where
  sub := p.gh
  len := R.len
  pl := fun i d e => by
    obtain ⟨v, h1, h2⟩ := R.pl i d e
    exact ⟨v, h1, h2.sm p.gg⟩
  ow := fun i ds e => by
    obtain ⟨q, xs, h1, h2, h0, h3, h4⟩ := R.ow i ds e
    exact ⟨q, xs, h1, h2, h0, p.hh _ _ h3, h4.sm p.gg⟩
  io := fun i ds e => by
    obtain ⟨q, xs, h0, h1, h2, h3, h4⟩ := R.io i ds e
    exact ⟨q, xs, h0, h1, h2, p.hh _ _ h3, h4.sm p.gg⟩
  on := fun i q e => by
    obtain ⟨h1, h2, h3, h4⟩ := R.on i q e
    refine ⟨h1, ?_, ?_, h4⟩
    · cases z : G' q with
      | none => rfl
      | some o =>
        rcases p.gn q (some_ne z) with y | y
        · exact absurd h2 y
        · exact absurd y h3
    · cases z : H q with
      | none => exact absurd z h3
      | some o => exact some_ne (p.hh _ _ z)
  inj := R.inj
  old := fun c o e n => p.hh _ _ (R.old c o e n)
  nf := fun c e => R.nf c (p.hh.free e)
  g0 := R.g0.trans p.gg
  gn := fun c e => by
    rcases p.gn c e with z | z
    · exact R.gn c z
    · exact .inr (R.nf c z)
end
/-! ## what an expression gives -/
abbrev XE := Str → List PyData → Hp → Prop
abbrev XN : XE := fun _ _ _ => False
/-- the heap at the start, the frame, the view and the heap behind -/
abbrev RR (β α : Type) := Hp → Ow → Fm → Hp → Hp → β → α → Prop
class Anti {β α : Type} (R : RR β α) : Prop where
  anti : ∀ {S S' : Hp} {O : Ow} {F : Fm} {G H : Hp} {b : β} {a : α}, (∀ c, S' c = none → S c = none) → R S' O F G H b a → R S O F G H b a
def rD (K : PySem.W.Frag) : RR V PyData := fun _ _ _ G _ v d => Dq K G v d
instance {K : PySem.W.Frag} : Anti (rD K) := ⟨fun _ h => h⟩
def rA (K : PySem.W.Frag) : RR (List V) (List PyData) := fun _ _ _ G _ vs ds => DqAll K G vs ds
instance {K : PySem.W.Frag} : Anti (rA K) := ⟨fun _ h => h⟩
def rB : RR Bool Bool := fun _ _ _ _ _ b c => b = c
instance : Anti rB := ⟨fun _ h => h⟩
def rF (K : PySem.W.Frag) : RR V (List PyData) := fun S O F G H v ds => ∃ p xs, v = .ref p ∧ S p = none ∧ G p = none ∧ F.H0 p = none ∧ (∀ i, O i ≠ some p) ∧ H p = some (.lst xs) ∧ DqAll K G xs ds
instance {K : PySem.W.Frag} : Anti (rF K) := ⟨fun k ⟨p, xs, h1, h2, h⟩ => ⟨p, xs, h1, k _ h2, h⟩⟩
def Fin {α β : Type} (K : PySem.W.Frag) (E : XE) (R : RR β α) (F : Fm) (O : Ow) (G : Hp) (σ : L2.St) (H : Hp) (Q : β → Hp → Prop) : Out α → Prop
  | .ok a r' => ∀ b G' H', Rp K F O G' σ H' r' → Go O G H G' H' → R H O F G' H' b a → Q b H'
  | .ex c p => ∀ H', (∀ c o, F.H0 c = some o → (∀ i, F.ios i ≠ some c) → H' c = some o) → E c p H'
def tM {α β : Type} (K : PySem.W.Frag) (E : XE) (R : RR β α) (m : M α) : L2.St → Hp → (β → Hp → Prop) → Prop := fun σ H Q =>
  ∃ F O G r out, Rp K F O G σ H r ∧ m r = some out ∧ Fin K E R F O G σ H Q out
section
variable {K : PySem.W.Frag} {E : XE} {F : Fm} {O : Ow} {G G1 H H1 : Hp} {σ : L2.St} {r : En} {α β α1 β1 : Type} {R : RR β α} {R1 : RR β1 α1} {Q : β → Hp → Prop} {Q1 : β1 → Hp → Prop} {out : Out α}
theorem Fin.via [Anti R] (g : Go O G H G1 H1) (f : Fin K E R F O G σ H Q out) : Fin K E R F O G1 σ H1 Q out := by
  cases out with
  | ok a r' => exact fun b G' H' p q z => f b G' H' p (g.trans q) (Anti.anti g.nf z)
  | ex c p => exact f
theorem tM.run [Anti R] {m : M α1} {k : α1 → M α} (P : Rp K F O G σ H r) (f : Fin K E R F O G σ H Q out) (e : m.bind k r = some out)
    (h : ∀ a r1 b G1 H1, Rp K F O G1 σ H1 r1 → Go O G H G1 H1 → R1 H O F G1 H1 b a → k a r1 = some out → Fin K E R F O G1 σ H1 Q out → Q1 b H1) : tM K E R1 m σ H Q1 := by
  cases em : m r with
  | none =>
    rw [M.bind, em] at e
    cases e
  | some o =>
    cases o with
    | ok a r1 =>
      rw [M.bind, em] at e
      exact ⟨F, O, G, r, _, P, em, fun b G1 H1 P1 g1 q => h a r1 b G1 H1 P1 g1 q e (f.via g1)⟩
    | ex c p =>
      rw [M.bind, em] at e
      cases e
      exact ⟨F, O, G, r, _, P, em, f⟩
/-- the last step: by values -/
theorem Fin.ok {a : α} {r' : En} {b : β} {G' H' : Hp} (f : Fin K E R F O G σ H Q (.ok a r')) (p : Ps G H G' H') (P : Rp K F O G σ H r') (q : R H O F G' H' b a) : Q b H' := f b G' H' (P.ps p) p.go q
theorem lift_ok {o : Option α} (h : M.lift o r = some out) : ∃ a, o = some a ∧ out = .ok a r := by
  unfold M.lift at h
  cases o with
  | none => cases h
  | some a => exact ⟨a, rfl, (Option.some.inj h).symm⟩
end
/-! ## the judgements -/
structure DE (K : PySem.W.Frag) (E : XE) (X : Cx) (e : Expr) (m : M PyData) : Prop where
  pe : X.K = K → PE X e (tM K E (rD K) m)
structure DF (K : PySem.W.Frag) (E : XE) (X : Cx) (e : Expr) (m : M (List PyData)) : Prop where
  pe : X.K = K → PE X e (tM K E (rF K) m)
structure DA (K : PySem.W.Frag) (E : XE) (X : Cx) (es : List Expr) (m : M (List PyData)) : Prop where
  pa : X.K = K → PA X es (tM K E (rA K) m)
structure DT (K : PySem.W.Frag) (E : XE) (X : Cx) (e : Expr) (m : M Bool) : Prop where
  pt : X.K = K → PT X e (tM K E rB m)
structure DW (K : PySem.W.Frag) (E : XE) (X : Cx) (e : Expr) (m : M Bool) : Prop where
  pw : X.K = K → PW X e (tM K E rB m)
section
variable {X : Cx} {e : Expr} {es : List Expr}
theorem PE.imp {t t' : TE} (h : PE X e t) (i : ∀ σ H Q, t' σ H Q → t σ H Q) : PE X e t' := ⟨fun pins s σ H Q I q => h.run pins s σ H Q I (i _ _ _ q)⟩
theorem PT.imp {t t' : TT} (h : PT X e t) (i : ∀ σ H Q, t' σ H Q → t σ H Q) : PT X e t' := ⟨fun pins s σ H Q I q => h.run pins s σ H Q I (i _ _ _ q)⟩
theorem PW.imp {t t' : TT} (h : PW X e t) (i : ∀ σ H Q, t' σ H Q → t σ H Q) : PW X e t' := ⟨fun w pins s σ H Q I q => h.run w pins s σ H Q I (i _ _ _ q)⟩
theorem PA.imp {t t' : TA} (h : PA X es t) (i : ∀ σ H Q, t' σ H Q → t σ H Q) : PA X es t' := ⟨fun pos pins s σ H Q I q => h.run pos pins s σ H Q I (i _ _ _ q)⟩
end
/-! ## by values -/
def rPure (K : PySem.W.Frag) (g : List PyData → Option PyData) : List V → Hp → VK → Prop := fun vs H Q => ∃ G ds z, Same G H ∧ DqAll K G vs ds ∧ g ds = some z ∧ ∀ v G' H', Ps G H G' H' → Dq K G' v z → Q v H'
def rPure2 (K : PySem.W.Frag) (g : PyData → PyData → Option PyData) : R2 := fun x y H Q => ∃ G d e z, Same G H ∧ Dq K G x d ∧ Dq K G y e ∧ g d e = some z ∧ ∀ v G' H', Ps G H G' H' → Dq K G' v z → Q v H'
def rPure1 (K : PySem.W.Frag) (g : PyData → Option PyData) : V → Hp → VK → Prop := fun x H Q => ∃ G d z, Same G H ∧ Dq K G x d ∧ g d = some z ∧ ∀ v G' H', Ps G H G' H' → Dq K G' v z → Q v H'
/-- a call that lays a list: nobody else knows it -/
def rFresh (K : PySem.W.Frag) (g : List PyData → Option (List PyData)) : List V → Hp → VK → Prop := fun vs H Q => ∃ G ds zs, Same G H ∧ DqAll K G vs ds ∧ g ds = some zs ∧ ∀ p xs G' H', Ps G H G' H' → G' p = none → H p = none → H' p = some (.lst xs) → DqAll K G' xs zs → Q (.ref p) H'
def CallD (K : PySem.W.Frag) (X : Cx) (f : Value) (g : List PyData → Option PyData) : Prop := X.K = K → CallR X f (rPure K g)
def CallF (K : PySem.W.Frag) (X : Cx) (f : Value) (g : List PyData → Option (List PyData)) : Prop := X.K = K → CallR X f (rFresh K g)
def OpD (K : PySem.W.Frag) (X : Cx) (f : Value → Value → Sem Value) (g : PyData → PyData → Option PyData) : Prop := X.K = K → OpR X f (rPure2 K g)
def spD (K : PySem.W.Frag) (g : List PyData → Option PyData) : Sp := fun vs H Q _ => rPure K g vs H Q
def spF (K : PySem.W.Frag) (g : List PyData → Option (List PyData)) : Sp := fun vs H Q _ => rFresh K g vs H Q
/-- the first argument is a list that is changed -/
def spM (K : PySem.W.Frag) (g : List PyData → List PyData → Option (PyData × List PyData)) : Sp := fun vs H Q _ => ∃ G p xs ws bs ds z bs', vs = .ref p :: ws ∧ Same G H ∧ G p = none ∧ H p = some (.lst xs) ∧ DqAll K G xs bs ∧ DqAll K G ws ds ∧ g bs ds = some (z, bs') ∧
  ∀ v G' H' xs', Same G G' → Same G' H' → G' p = none → (∀ c o, c ≠ p → H c = some o → H' c = some o) → (∀ c, G' c ≠ none → G c ≠ none ∨ H c = none) → H' p = some (.lst xs') → DqAll K G' xs' bs' → Dq K G' v z → Q v H'
/-! ## expressions -/
def mV (i : Nat) : M PyData := fun r => match r[i]? with
  | some (Cel.pl d) => some (.ok d r)
  | _ => none
section
variable {K : PySem.W.Frag} {E : XE} {X : Cx} {a b e : Expr} {es : List Expr} {ma mb : M PyData} {pos : Pos}
theorem tM_of {α β : Type} {R : RR β α} {m : M α} {σ : L2.St} {H : Hp} {Q : β → Hp → Prop} (h : tM K E R m σ H Q) : ∃ F O G r out, Rp K F O G σ H r ∧ m r = some out ∧ Fin K E R F O G σ H Q out := h
theorem de_v (i : Nat) {x : Str} (hN : X.N[i]? = some x := by rfl) (hv : Vis X.env.scope x := by first | exact Or.inl rfl | exact Or.inr (Or.inl rfl) | exact Or.inr (Or.inr rfl)) (hd : (x == ("__debug__" : Str)) = false := by decide)
    (hcd : (x == ("__classdict__" : Str)) = false := by decide) : DE K E X (.Name x pos) (mV i) := ⟨fun _ => PE.imp (pe_var hN hv hd hcd) fun σ H Q ⟨F, O, G, r, out, P, em, f⟩ => by
  unfold mV at em
  split at em
  · rename_i d hd'
    cases em
    obtain ⟨v, h1, h2⟩ := P.pl i d hd'
    exact ⟨v, h1, f.ok (Ps.refl P.sub) P h2⟩
  · cases em⟩
theorem de_c {v : V} {d : PyData} (h : PE X e (tC v)) (hd : ∀ G, Dq K G v d) : DE K E X e (M.ret d) := ⟨fun _ => PE.imp h fun σ H Q ⟨F, O, G, r, out, P, em, f⟩ => by
  cases em
  exact f.ok (Ps.refl P.sub) P (hd G)⟩
theorem de_int {i : Int} {j} : DE K E X (.Constant (.int i) j pos) (M.ret (.int i)) := de_c pe_int fun _ => .int i
theorem de_bl {b : Bool} {j} : DE K E X (.Constant (.bool b) j pos) (M.ret (.bool b)) := de_c pe_bl fun _ => .bl b
theorem de_non {j} : DE K E X (.Constant .none j pos) (M.ret .none) := de_c pe_non fun _ => .non
theorem de_str {x : Str} {j} : DE K E X (.Constant (.str x) j pos) (M.ret (.str x)) := de_c pe_str fun _ => .str x
/-- a constant of the module -/
theorem de_g {x : Str} {v : V} {u : Value} {d : PyData} (hg : Gl X x) (hm : X.mg x = some u) (r : RelV v u) (hd : ∀ G, Dq K G v d) (hdb : (x == ("__debug__" : Str)) = false := by decide) : DE K E X (.Name x pos) (M.ret d) := de_c (pe_glob hg hm r hdb) hd
theorem da_nil : DA K E X [] (M.ret []) := ⟨fun _ => PA.imp pa_nil fun σ H Q ⟨F, O, G, r, out, P, em, f⟩ => by
  cases em
  exact f.ok (Ps.refl P.sub) P .nil⟩
theorem da_cons {m : M (List PyData)} (ha : DE K E X e ma) (hr : DA K E X es m) (hs : starEach (e :: es) X.env = (false, eval e X.env) :: starEach es X.env := by rfl) :
    DA K E X (e :: es) (ma.bind fun d => m.bind fun ds => M.ret (d :: ds)) := ⟨fun hK => PA.imp (pa_cons (ha.pe hK) (hr.pa hK) hs) fun σ H Q ⟨F, O, G, r, out, P, em, f⟩ => by
  refine tM.run P f em fun d r1 x G1 H1 P1 g1 q1 e1 f1 => ?_
  refine tM.run P1 f1 e1 fun ds r2 xs G2 H2 P2 g2 q2 e2 f2 => ?_
  cases e2
  exact f2.ok (Ps.refl P2.sub) P2 (.cons (q1.sm g2.gg) q2)⟩
theorem de_op {op : Operator} {g : PyData → PyData → Option PyData} (ho : OpD K X (binaryOp op) g) (ha : DE K E X a ma) (hb : DE K E X b mb) :
    DE K E X (.BinOp a op b pos) (ma.bind fun d => mb.bind fun e => M.lift (g d e)) := ⟨fun hK => PE.imp (pe_op (ho hK) (ha.pe hK) (hb.pe hK)) fun σ H Q ⟨F, O, G, r, out, P, em, f⟩ => by
  refine tM.run P f em fun d r1 x G1 H1 P1 g1 q1 e1 f1 => ?_
  refine tM.run P1 f1 e1 fun ds r2 y G2 H2 P2 g2 q2 e2 f2 => ?_
  obtain ⟨z, hz, rfl⟩ := lift_ok e2
  exact ⟨G2, _, _, z, P2.sub, q1.sm g2.gg, q2, hz, fun v G' H' p q => f2.ok p P2 q⟩⟩
theorem de_cmp {op : CmpOp} {g : PyData → PyData → Option PyData} (ho : OpD K X (compareOp op) g) (ha : DE K E X a ma) (hb : DE K E X b mb) (hm : behindInMarks op b = false) :
    DE K E X (.Compare a [op] [b] pos) (ma.bind fun d => mb.bind fun e => M.lift (g d e)) := ⟨fun hK => PE.imp (pe_cmpR (ho hK) (ha.pe hK) (hb.pe hK) hm) fun σ H Q ⟨F, O, G, r, out, P, em, f⟩ => by
  refine tM.run P f em fun d r1 x G1 H1 P1 g1 q1 e1 f1 => ?_
  refine tM.run P1 f1 e1 fun ds r2 y G2 H2 P2 g2 q2 e2 f2 => ?_
  obtain ⟨z, hz, rfl⟩ := lift_ok e2
  exact ⟨G2, _, _, z, P2.sub, q1.sm g2.gg, q2, hz, fun v G' H' p q => f2.ok p P2 q⟩⟩
def asBool : PyData → Option Bool
  | .bool b => some b
  | _ => none
theorem dp_bool {G : Hp} {v : V} {b : Bool} (h : Dq K G v (.bool b)) : v = .bl b := by cases h; rfl
theorem asBool_some {d : PyData} {b : Bool} (h : asBool d = some b) : d = .bool b := by
  cases d <;> first | (cases h; rfl) | cases h
/-- a value that is a bool, as a test -/
theorem dt_val (ha : DE K E X e ma) (he : ∀ whole, isTrue e X.env whole = (do let v ← whole; standAt e.pos; holding [v] (truthy v)) := by intro _; rfl) : DT K E X e (ma.bind fun d => M.lift (asBool d)) :=
  ⟨fun hK => PT.imp (pt_val (ha.pe hK) he) fun σ H Q ⟨F, O, G, r, out, P, em, f⟩ => by
  refine tM.run P f em fun d r1 x G1 H1 P1 g1 q1 e1 f1 => ?_
  obtain ⟨b, hb, rfl⟩ := lift_ok e1
  cases asBool_some hb
  exact ⟨b, dp_bool q1, f1.ok (Ps.refl P1.sub) P1 rfl⟩⟩
theorem dt_cmp {op : CmpOp} {g : PyData → PyData → Option PyData} (ho : OpD K X (compareOp op) g) (ha : DE K E X a ma) (hb : DE K E X b mb) (hm : behindInMarks op b = false) :
    DT K E X (.Compare a [op] [b] pos) (ma.bind fun d => mb.bind fun e => M.lift ((g d e).bind asBool)) := ⟨fun hK => PT.imp (pt_cmpR (ho hK) (ha.pe hK) (hb.pe hK) hm) fun σ H Q ⟨F, O, G, r, out, P, em, f⟩ => by
  refine tM.run P f em fun d r1 x G1 H1 P1 g1 q1 e1 f1 => ?_
  refine tM.run P1 f1 e1 fun ds r2 y G2 H2 P2 g2 q2 e2 f2 => ?_
  obtain ⟨c, hz, rfl⟩ := lift_ok e2
  obtain ⟨z, h1, h2⟩ := Option.bind_eq_some_iff.mp hz
  cases asBool_some h2
  exact ⟨G2, _, _, _, P2.sub, q1.sm g2.gg, q2, h1, fun v G' H' p q => ⟨c, dp_bool q, f2.ok p P2 rfl⟩⟩⟩
/-- and, or, not -/
def mAnd (m n : M Bool) : M Bool := m.bind fun b => if b then n else M.ret false
def mOr (m n : M Bool) : M Bool := m.bind fun b => if b then M.ret true else n
theorem dw_and1 {m : M Bool} (ha : DT K E X a m) : DW K E X (.BoolOp .And [a] pos) m := ⟨fun hK => pw_and1 (ha.pt hK)⟩
theorem dw_or1 {m : M Bool} (ha : DT K E X a m) : DW K E X (.BoolOp .Or [a] pos) m := ⟨fun hK => pw_or1 (ha.pt hK)⟩
theorem dw_and {m n : M Bool} (ha : DT K E X a m) (hb : DW K E X (.BoolOp .And (b :: es) pos) n) : DW K E X (.BoolOp .And (a :: b :: es) pos) (mAnd m n) :=
  ⟨fun hK => PW.imp (pw_and (ha.pt hK) (hb.pw hK)) fun σ H Q ⟨F, O, G, r, out, P, em, f⟩ => by
  refine tM.run P f em fun d r1 x G1 H1 P1 g1 q1 e1 f1 => ?_
  cases q1
  cases d with
  | true => exact iteT ⟨F, O, G1, r1, _, P1, e1, f1⟩
  | false =>
    cases e1
    exact iteF (f1.ok (Ps.refl P1.sub) P1 rfl)⟩
theorem dw_or {m n : M Bool} (ha : DT K E X a m) (hb : DW K E X (.BoolOp .Or (b :: es) pos) n) : DW K E X (.BoolOp .Or (a :: b :: es) pos) (mOr m n) :=
  ⟨fun hK => PW.imp (pw_or (ha.pt hK) (hb.pw hK)) fun σ H Q ⟨F, O, G, r, out, P, em, f⟩ => by
  refine tM.run P f em fun d r1 x G1 H1 P1 g1 q1 e1 f1 => ?_
  cases q1
  cases d with
  | true =>
    cases e1
    exact iteT (f1.ok (Ps.refl P1.sub) P1 rfl)
  | false => exact iteF ⟨F, O, G1, r1, _, P1, e1, f1⟩⟩
theorem DW.pt {m : M Bool} (h : DW K E X e m) : DT K E X e m := ⟨fun hK => (h.pw hK).pt⟩
theorem dt_not {m : M Bool} (ha : DT K E X a m) : DT K E X (.UnaryOp .Not a pos) (m.bind fun b => M.ret (!b)) := ⟨fun hK => PT.imp (pt_not (ha.pt hK)) fun σ H Q ⟨F, O, G, r, out, P, em, f⟩ => by
  refine tM.run P f em fun d r1 x G1 H1 P1 g1 q1 e1 f1 => ?_
  cases q1
  cases e1
  exact f1.ok (Ps.refl P1.sub) P1 rfl⟩
/-- .. as values -/
def mAndV (m n : M PyData) : M PyData := m.bind fun d => (M.lift (asBool d)).bind fun b => if b then n else M.ret (.bool false)
def mOrV (m n : M PyData) : M PyData := m.bind fun d => (M.lift (asBool d)).bind fun b => if b then M.ret (.bool true) else n
theorem bind_lift_ok {α β : Type} {o : Option α} {k : α → M β} {r : En} {out : Out β} (h : (M.lift o).bind k r = some out) : ∃ a, o = some a ∧ k a r = some out := by
  cases o with
  | none => cases h
  | some a => exact ⟨a, rfl, h⟩
theorem de_one {op} (h : DE K E X a ma) : DE K E X (.BoolOp op [a] pos) ma := ⟨fun hK => pe_one (h.pe hK)⟩
theorem de_and (ha : DE K E X a ma) (hb : DE K E X (.BoolOp .And (b :: es) pos) mb) : DE K E X (.BoolOp .And (a :: b :: es) pos) (mAndV ma mb) :=
  ⟨fun hK => PE.imp (pe_and (ha.pe hK) (hb.pe hK)) fun σ H Q ⟨F, O, G, r, out, P, em, f⟩ => by
  refine tM.run P f em fun d r1 x G1 H1 P1 g1 q1 e1 f1 => ?_
  obtain ⟨c, hc, e2⟩ := bind_lift_ok e1
  cases asBool_some hc
  refine ⟨c, dp_bool q1, ?_⟩
  cases c with
  | true => exact iteT ⟨F, O, G1, r1, _, P1, e2, f1⟩
  | false =>
    cases e2
    exact iteF (f1.ok (Ps.refl P1.sub) P1 (.bl _))⟩
theorem de_or (ha : DE K E X a ma) (hb : DE K E X (.BoolOp .Or (b :: es) pos) mb) : DE K E X (.BoolOp .Or (a :: b :: es) pos) (mOrV ma mb) :=
  ⟨fun hK => PE.imp (pe_or (ha.pe hK) (hb.pe hK)) fun σ H Q ⟨F, O, G, r, out, P, em, f⟩ => by
  refine tM.run P f em fun d r1 x G1 H1 P1 g1 q1 e1 f1 => ?_
  obtain ⟨c, hc, e2⟩ := bind_lift_ok e1
  cases asBool_some hc
  refine ⟨c, dp_bool q1, ?_⟩
  cases c with
  | true =>
    cases e2
    exact iteT (f1.ok (Ps.refl P1.sub) P1 (.bl _))
  | false => exact iteF ⟨F, O, G1, r1, _, P1, e2, f1⟩⟩
theorem de_not (ha : DE K E X a ma) : DE K E X (.UnaryOp .Not a pos) (ma.bind fun d => (M.lift (asBool d)).bind fun b => M.ret (.bool (!b))) := ⟨fun hK => PE.imp (pe_not (ha.pe hK)) fun σ H Q ⟨F, O, G, r, out, P, em, f⟩ => by
  refine tM.run P f em fun d r1 x G1 H1 P1 g1 q1 e1 f1 => ?_
  obtain ⟨c, hc, e2⟩ := bind_lift_ok e1
  cases asBool_some hc
  cases e2
  exact ⟨c, dp_bool q1, f1.ok (Ps.refl P1.sub) P1 (.bl _)⟩⟩
def mIf {α : Type} (c : M Bool) (m n : M α) : M α := c.bind fun b => if b then m else n
theorem de_if {c : Expr} {mc : M Bool} (hc : DT K E X c mc) (ha : DE K E X a ma) (hb : DE K E X b mb) : DE K E X (.IfExp c a b pos) (mIf mc ma mb) :=
  ⟨fun hK => PE.imp (pe_ifExp (hc.pt hK) (ha.pe hK) (hb.pe hK)) fun σ H Q ⟨F, O, G, r, out, P, em, f⟩ => by
  refine tM.run P f em fun d r1 x G1 H1 P1 g1 q1 e1 f1 => ?_
  cases q1
  cases d with
  | true => exact iteT ⟨F, O, G1, r1, _, P1, e1, f1⟩
  | false => exact iteF ⟨F, O, G1, r1, _, P1, e1, f1⟩⟩
end
end DL
namespace DL
open PySem PySem.Spec PyProof.Rows L2 Lk
/-! ## displays -/
def tupM (ds : List PyData) : Option PyData := if ds.length ≤ 1000000 then some (.tuple ds) else none
def lstM (ds : List PyData) : Option (List PyData) := if ds.length ≤ 1000000 then some ds else none
theorem line_le {n : Nat} (h : n ≤ 1000000) : n ≤ sizeLine := by
  have : sizeLine = 2 ^ 24 := rfl
  omega
theorem line_lt {n : Nat} (h : n ≤ 1000000) : n < sizeLine := by
  have : sizeLine = 2 ^ 24 := rfl
  omega
def M.map {α β : Type} (f : α → β) (m : M α) : M β := m.bind fun a => M.ret (f a)
section
variable {K : PySem.W.Frag} {E : XE} {X : Cx} {a b e : Expr} {es : List Expr} {ma mb : M PyData} {m : M (List PyData)} {pos : Pos}
theorem de_tup {x1} (h : DA K E X es m) : DE K E X (.Tuple es x1 pos) (m.bind fun ds => M.lift (tupM ds)) := ⟨fun hK => PE.imp (pe_tupN (h.pa hK)) fun σ H Q ⟨F, O, G, r, out, P, em, f⟩ => by
  refine tM.run P f em fun ds r1 xs G1 H1 P1 g1 q1 e1 f1 => ?_
  obtain ⟨z, hz, rfl⟩ := lift_ok e1
  unfold tupM at hz
  split at hz
  · rename_i hl
    cases hz
    rw [← q1.length] at hl
    exact ⟨line_le hl, fun p H2 s n e2 => f1.ok (Ps.new P1.sub s n e2) P1 (.tup (.inl (.inl upd_same)) (q1.sm (same_new (P1.sub.free n))))⟩
  · cases hz⟩
theorem df_lst (h : DA K E X es m) : DF K E X (.List es pos) (m.bind fun ds => M.lift (lstM ds)) := ⟨fun hK => PE.imp (pe_lstN (h.pa hK)) fun σ H Q ⟨F, O, G, r, out, P, em, f⟩ => by
  refine tM.run P f em fun ds r1 xs G1 H1 P1 g1 q1 e1 f1 => ?_
  obtain ⟨z, hz, rfl⟩ := lift_ok e1
  unfold lstM at hz
  split at hz
  · rename_i hl
    cases hz
    rw [← q1.length] at hl
    refine ⟨line_le hl, fun p H2 s n e2 => f1.ok (Ps.of_same P1.sub s) P1 ⟨p, xs, rfl, n, P1.sub.free n, P1.nf _ n, fun i z => ?_, e2, q1⟩⟩
    exact (P1.on i p z).2.2.1 n
  · cases hz⟩
theorem Rp.see {F : Fm} {O : Ow} {G H : Hp} {σ : L2.St} {r : En} {p : Addr} {xs : List V} (R : Rp K F O G σ H r) (h : H p = some (.lst xs)) (g : G p = none) (h0 : F.H0 p = none) (o : ∀ i, O i ≠ some p) : Rp K F O (upd G p (.lst xs)) σ H r where
  sub := fun c x q => by
    by_cases z : c = p
    · subst z
      rw [upd_same] at q
      cases q
      exact h
    · rw [upd_ne z] at q
      exact R.sub _ _ q
  len := R.len
  pl := fun i d e => by
    obtain ⟨v, h1, h2⟩ := R.pl i d e
    exact ⟨v, h1, h2.sm (same_new g)⟩
  ow := fun i ds e => by
    obtain ⟨q, xs, h1, h2, h0, h3, h4⟩ := R.ow i ds e
    exact ⟨q, xs, h1, h2, h0, h3, h4.sm (same_new g)⟩
  io := fun i ds e => by
    obtain ⟨q, xs, h0, h1, h2, h3, h4⟩ := R.io i ds e
    exact ⟨q, xs, h0, h1, h2, h3, h4.sm (same_new g)⟩
  on := fun i q e => by
    obtain ⟨h1, h2, h3, h4⟩ := R.on i q e
    refine ⟨h1, ?_, h3, h4⟩
    rw [upd_ne fun z => o i (by rw [e, z])]
    exact h2
  inj := R.inj
  old := R.old
  nf := R.nf
  g0 := R.g0.trans (same_new g)
  gn := fun c e => by
    by_cases z : c = p
    · exact .inr (by rw [z]; exact h0)
    · rw [upd_ne z] at e
      exact R.gn c e
/-- a new list, seen from now on -/
theorem de_fr (h : DF K E X e m) : DE K E X e (m.map PyData.list) := ⟨fun hK => PE.imp (h.pe hK) fun σ H Q ⟨F, O, G, r, out, P, em, f⟩ => by
  refine tM.run P f em fun ds r1 v G1 H1 P1 g1 q1 e1 f1 => ?_
  cases e1
  obtain ⟨p, xs, rfl, hs, hg, h0, ho, hp, ha⟩ := q1
  cases em2 : m r with
  | none =>
    rw [M.map, M.bind, em2] at em
    cases em
  | some o =>
    cases o with
    | ex c z =>
      rw [M.map, M.bind, em2] at em
      cases em
    | ok ds' r' =>
      rw [M.map, M.bind, em2] at em
      cases em
      refine f _ _ _ (P1.see hp hg h0 ho) ?_ (.lst (.inl (.inl upd_same)) (ha.sm (same_new hg)))
      refine ⟨g1.gg.trans (same_new hg), g1.keep, fun c e => ?_, g1.nf⟩
      by_cases z : c = p
      · rw [z]
        exact .inr hs
      · rw [upd_ne z] at e
        exact g1.gn c e⟩
/-! ## calls -/
theorem de_call {x : Str} {p : Pos} {k : Nat} {f : Addr} {fd : FuncData} {ps : List Str} {g : List PyData → Option PyData} (Fk : FnOk X.prog X.w K X.mg X.base CX0 k f fd ps (spD K g)) (hb : Binds K fd ps []) (hm : X.mg x = some (.ref f)) (hk : PySem.W.keepIn K (.ref f) = true) (hr : Room k X.A) (hg : Gl X x)
    (ha : DA K E X (e :: es) m) (hdb : (x == ("__debug__" : Str)) = false := by decide) (he : starEach (e :: es) X.env = (false, eval e X.env) :: starEach es X.env := by rfl)
    (hpl : (backTo pos (starEach es X.env)).any (·.1) = false := by rfl) : DE K E X (.Call (.Name x p) (e :: es) [] pos) (m.bind fun ds => M.lift (g ds)) := ⟨fun hK => by
  subst hK
  refine PE.imp (pe_call (E := E0) Fk hr hg hm hk hb .nil pass0 (ha.pa rfl) hdb he hpl) fun σ H Q ⟨F, O, G, r, out, P, em, f⟩ => ?_
  refine tM.run P f em fun ds r1 xs G1 H1 P1 g1 q1 e1 f1 => ?_
  obtain ⟨z, hz, rfl⟩ := lift_ok e1
  rw [List.append_nil]
  exact ⟨G1, ds, z, P1.sub, q1, hz, fun v G' H' p q => f1.ok p P1 q⟩⟩
theorem de_call0 {x : Str} {p : Pos} {k : Nat} {f : Addr} {fd : FuncData} {ps : List Str} {g : List PyData → Option PyData} (Fk : FnOk X.prog X.w K X.mg X.base CX0 k f fd ps (spD K g)) (hb : Binds K fd ps []) (hm : X.mg x = some (.ref f)) (hk : PySem.W.keepIn K (.ref f) = true) (hr : Room k X.A) (hg : Gl X x)
    (hdb : (x == ("__debug__" : Str)) = false := by decide) : DE K E X (.Call (.Name x p) [] [] pos) (M.lift (g [])) := ⟨fun hK => by
  subst hK
  refine PE.imp (pe_call0 (E := E0) Fk hr hg hm hk hb .nil pass0 hdb) fun σ H Q ⟨F, O, G, r, out, P, em, f⟩ => ?_
  obtain ⟨z, hz, rfl⟩ := lift_ok em
  exact ⟨G, [], z, P.sub, .nil, hz, fun v G' H' p q => f.ok p P q⟩⟩
theorem df_call {x : Str} {p : Pos} {k : Nat} {f : Addr} {fd : FuncData} {ps : List Str} {g : List PyData → Option (List PyData)} (Fk : FnOk X.prog X.w K X.mg X.base CX0 k f fd ps (spF K g)) (hb : Binds K fd ps []) (hm : X.mg x = some (.ref f)) (hk : PySem.W.keepIn K (.ref f) = true) (hr : Room k X.A) (hg : Gl X x)
    (ha : DA K E X (e :: es) m) (hdb : (x == ("__debug__" : Str)) = false := by decide) (he : starEach (e :: es) X.env = (false, eval e X.env) :: starEach es X.env := by rfl)
    (hpl : (backTo pos (starEach es X.env)).any (·.1) = false := by rfl) : DF K E X (.Call (.Name x p) (e :: es) [] pos) (m.bind fun ds => M.lift (g ds)) := ⟨fun hK => by
  subst hK
  refine PE.imp (pe_call (E := E0) Fk hr hg hm hk hb .nil pass0 (ha.pa rfl) hdb he hpl) fun σ H Q ⟨F, O, G, r, out, P, em, f⟩ => ?_
  refine tM.run P f em fun ds r1 xs G1 H1 P1 g1 q1 e1 f1 => ?_
  obtain ⟨z, hz, rfl⟩ := lift_ok e1
  rw [List.append_nil]
  exact ⟨G1, ds, z, P1.sub, q1, hz, fun p ys G' H' ps gp hp e2 q => f1.ok ps P1 ⟨p, ys, rfl, hp, gp, P1.nf _ hp, fun i z => (P1.on i p z).2.2.1 hp, e2, q⟩⟩⟩
theorem de_callB {x : Str} {p : Pos} {id : String} {g : List PyData → Option PyData} (hc : CallD K X (.builtin id) g) (hg : Gl X x) (hm : X.mg x = none) (hv : bootBuiltins x = some (.builtin id)) (ha : DA K E X (e :: es) m) (hn : x ≠ "__name__" := by decide) (hdb : (x == ("__debug__" : Str)) = false := by decide)
    (he : starEach (e :: es) X.env = (false, eval e X.env) :: starEach es X.env := by rfl) (hpl : (backTo pos (starEach es X.env)).any (·.1) = false := by rfl) : DE K E X (.Call (.Name x p) (e :: es) [] pos) (m.bind fun ds => M.lift (g ds)) := ⟨fun hK => by
  refine PE.imp (pe_callB (hc hK) hg hm hv (ha.pa hK) hn hdb he hpl) fun σ H Q ⟨F, O, G, r, out, P, em, f⟩ => ?_
  refine tM.run P f em fun ds r1 xs G1 H1 P1 g1 q1 e1 f1 => ?_
  obtain ⟨z, hz, rfl⟩ := lift_ok e1
  exact ⟨G1, ds, z, P1.sub, q1, hz, fun v G' H' p q => f1.ok p P1 q⟩⟩
theorem de_callTy {x : Str} {p : Pos} {T : String} {g : List PyData → Option PyData} (hc : CallD K X (.type T) g) (hg : Gl X x) (hm : X.mg x = none) (hv : bootBuiltins x = some (.type T)) (ha : DA K E X (e :: es) m) (hn : x ≠ "__name__" := by decide) (hdb : (x == ("__debug__" : Str)) = false := by decide)
    (he : starEach (e :: es) X.env = (false, eval e X.env) :: starEach es X.env := by rfl) (hpl : (backTo pos (starEach es X.env)).any (·.1) = false := by rfl) : DE K E X (.Call (.Name x p) (e :: es) [] pos) (m.bind fun ds => M.lift (g ds)) := ⟨fun hK => by
  refine PE.imp (pe_callTy (hc hK) hg hm hv (ha.pa hK) hn hdb he hpl) fun σ H Q ⟨F, O, G, r, out, P, em, f⟩ => ?_
  refine tM.run P f em fun ds r1 xs G1 H1 P1 g1 q1 e1 f1 => ?_
  obtain ⟨z, hz, rfl⟩ := lift_ok e1
  exact ⟨G1, ds, z, P1.sub, q1, hz, fun v G' H' p q => f1.ok p P1 q⟩⟩
theorem df_callB {x : Str} {p : Pos} {id : String} {g : List PyData → Option (List PyData)} (hc : CallF K X (.builtin id) g) (hg : Gl X x) (hm : X.mg x = none) (hv : bootBuiltins x = some (.builtin id)) (ha : DA K E X (e :: es) m) (hn : x ≠ "__name__" := by decide) (hdb : (x == ("__debug__" : Str)) = false := by decide)
    (he : starEach (e :: es) X.env = (false, eval e X.env) :: starEach es X.env := by rfl) (hpl : (backTo pos (starEach es X.env)).any (·.1) = false := by rfl) : DF K E X (.Call (.Name x p) (e :: es) [] pos) (m.bind fun ds => M.lift (g ds)) := ⟨fun hK => by
  refine PE.imp (pe_callB (hc hK) hg hm hv (ha.pa hK) hn hdb he hpl) fun σ H Q ⟨F, O, G, r, out, P, em, f⟩ => ?_
  refine tM.run P f em fun ds r1 xs G1 H1 P1 g1 q1 e1 f1 => ?_
  obtain ⟨z, hz, rfl⟩ := lift_ok e1
  exact ⟨G1, ds, z, P1.sub, q1, hz, fun p ys G' H' ps gp hp e2 q => f1.ok ps P1 ⟨p, ys, rfl, hp, gp, P1.nf _ hp, fun i z => (P1.on i p z).2.2.1 hp, e2, q⟩⟩⟩
theorem df_callTy {x : Str} {p : Pos} {T : String} {g : List PyData → Option (List PyData)} (hc : CallF K X (.type T) g) (hg : Gl X x) (hm : X.mg x = none) (hv : bootBuiltins x = some (.type T)) (ha : DA K E X (e :: es) m) (hn : x ≠ "__name__" := by decide) (hdb : (x == ("__debug__" : Str)) = false := by decide)
    (he : starEach (e :: es) X.env = (false, eval e X.env) :: starEach es X.env := by rfl) (hpl : (backTo pos (starEach es X.env)).any (·.1) = false := by rfl) : DF K E X (.Call (.Name x p) (e :: es) [] pos) (m.bind fun ds => M.lift (g ds)) := ⟨fun hK => by
  refine PE.imp (pe_callTy (hc hK) hg hm hv (ha.pa hK) hn hdb he hpl) fun σ H Q ⟨F, O, G, r, out, P, em, f⟩ => ?_
  refine tM.run P f em fun ds r1 xs G1 H1 P1 g1 q1 e1 f1 => ?_
  obtain ⟨z, hz, rfl⟩ := lift_ok e1
  exact ⟨G1, ds, z, P1.sub, q1, hz, fun p ys G' H' ps gp hp e2 q => f1.ok ps P1 ⟨p, ys, rfl, hp, gp, P1.nf _ hp, fun i z => (P1.on i p z).2.2.1 hp, e2, q⟩⟩⟩
/-- isinstance(e, T) -/
theorem de_isi {T : Str} {n : String} {p p2 : Pos} (hT : n ∈ ["int", "bool", "list", "tuple", "str"]) (hg : Gl X "isinstance") (hm : X.mg "isinstance" = none) (hgT : Gl X T) (hmT : X.mg T = none) (hvT : bootBuiltins T = some (.type n)) (ha : DE K E X e ma) (hn : T ≠ "__name__" := by decide) (hdb : (T == ("__debug__" : Str)) = false := by decide)
    (hs1 : starEach [e, .Name T p2] X.env = (false, eval e X.env) :: starEach [.Name T p2] X.env := by rfl) (hs2 : starEach [.Name T p2] X.env = (false, eval (.Name T p2) X.env) :: starEach [] X.env := by rfl) (hpl : (backTo pos (starEach [.Name T p2] X.env)).any (·.1) = false := by rfl) :
    DE K E X (.Call (.Name "isinstance" p) [e, .Name T p2] [] pos) (ma.bind fun d => M.ret (.bool (isTy n d))) := ⟨fun hK => by
  refine PE.imp (pe_callB (call_isiDK (K := K) n hK hT) hg hm (by decide +kernel) (pa_cons (ha.pe hK) (pa_cons (pe_bltn (v := .ty n) hgT hmT hvT rfl hn hdb) pa_nil hs2) hs1) (by decide) (by decide) hs1 hpl) fun σ H Q ⟨F, O, G, r, out, P, em, f⟩ => ?_
  refine tM.run P f em fun d r1 x G1 H1 P1 g1 q1 e1 f1 => ?_
  cases e1
  exact ⟨x, d, rfl, (q1.sm P1.sub).dp, f1.ok (Ps.refl P1.sub) P1 (.bl _)⟩⟩
/-! ## places -/
def IxD (K : PySem.W.Frag) (X : Cx) (g : PyData → PyData → Option PyData) : Prop := X.K = K → IxR X (rPure2 K g)
theorem de_ix {g : PyData → PyData → Option PyData} (hr : IxD K X g) (ha : DE K E X a ma) (hb : DE K E X b mb) (hs : PlainIx b) : DE K E X (.Subscript a b pos) (ma.bind fun d => mb.bind fun e => M.lift (g d e)) := ⟨fun hK => PE.imp (pe_ix (hr hK) (ha.pe hK) (hb.pe hK) hs) fun σ H Q ⟨F, O, G, r, out, P, em, f⟩ => by
  refine tM.run P f em fun d r1 x G1 H1 P1 g1 q1 e1 f1 => ?_
  refine tM.run P1 f1 e1 fun ds r2 y G2 H2 P2 g2 q2 e2 f2 => ?_
  obtain ⟨z, hz, rfl⟩ := lift_ok e2
  exact ⟨G2, _, _, z, P2.sub, q1.sm g2.gg, q2, hz, fun v G' H' p q => f2.ok p P2 q⟩⟩
def ixM : PyData → PyData → Option PyData
  | .list ds, .int i => atI ds i
  | .tuple ds, .int i => atI ds i
  | _, _ => none
theorem atI_dq {G : Hp} {vs : List V} {ds : List PyData} {i : Int} {d : PyData} (h : DqAll K G vs ds) (e : atI ds i = some d) : ∃ v, atI vs i = some v ∧ Dq K G v d := by
  unfold atI at e ⊢
  rw [h.length]
  obtain ⟨j, h1, h2⟩ := Option.bind_eq_some_iff.mp e
  obtain ⟨v, h3, h4⟩ := h.get h2
  exact ⟨v, by rw [h1]; exact h3, h4⟩
theorem ixd : IxD K X ixM := fun hK => by
  subst hK
  intro val sl pins s σ H x y v u Q I rx ry h hps
  obtain ⟨G, d, e, z, sg, hd, he, hz, q⟩ := h
  cases d with
  | list ds =>
    cases e with
    | int i =>
      cases hd with
      | lst hs ha =>
        cases he
        obtain ⟨w, h1, h2⟩ := atI_dq ha hz
        exact ix_list val sl pins s σ H _ _ v u Q I rx ry ⟨_, _, _, w, rfl, rfl, (sg.seq hs), h1, q w G H (Ps.refl sg) h2⟩ hps
    | _ => cases hz
  | tuple ds =>
    cases e with
    | int i =>
      cases hd with
      | tup hs ha =>
        cases he
        obtain ⟨w, h1, h2⟩ := atI_dq ha hz
        exact ix_tup val sl pins s σ H _ _ v u Q I rx ry ⟨_, _, _, w, rfl, rfl, Lk.Same.tup sg hs, h1, q w G H (Ps.refl sg) h2⟩ hps
    | _ => cases hz
  | _ => cases hz
/-- a slice -/
structure DO (K : PySem.W.Frag) (E : XE) (X : Cx) (e : Option Expr) (m : M (Option Int)) : Prop where
  po : X.K = K → PO X e (tM K E (fun _ _ _ _ _ (b c : Option Int) => b = c) m)
instance : Anti (fun _ _ _ _ _ (b c : Option Int) => b = c) := ⟨fun _ h => h⟩
def asInt : PyData → Option Int
  | .int i => some i
  | _ => none
theorem asInt_some {d : PyData} {i : Int} (h : asInt d = some i) : d = .int i := by
  cases d <;> first | (cases h; rfl) | cases h
theorem PO.imp {e : Option Expr} {t t' : TO} (h : PO X e t) (i : ∀ σ H Q, t' σ H Q → t σ H Q) : PO X e t' := ⟨fun pins s σ H Q I q => h.run pins s σ H Q I (i _ _ _ q)⟩
theorem do_none : DO K E X none (M.ret none) := ⟨fun _ => PO.imp po_none fun σ H Q ⟨F, O, G, r, out, P, em, f⟩ => by
  cases em
  exact f.ok (Ps.refl P.sub) P rfl⟩
theorem do_some (ha : DE K E X e ma) : DO K E X (some e) (ma.bind fun d => M.lift ((asInt d).map some)) := ⟨fun hK => PO.imp (po_some (ha.pe hK)) fun σ H Q ⟨F, O, G, r, out, P, em, f⟩ => by
  refine tM.run P f em fun d r1 x G1 H1 P1 g1 q1 e1 f1 => ?_
  obtain ⟨z, hz, rfl⟩ := lift_ok e1
  obtain ⟨i, hi, rfl⟩ := Option.map_eq_some_iff.mp hz
  cases asInt_some hi
  cases q1
  exact ⟨i, rfl, f1.ok (Ps.refl P1.sub) P1 rfl⟩⟩
def cutD (xs : List PyData) (lo hi : Option Int) : List PyData := (xs.drop (HT.sIx xs.length 0 lo)).take (HT.sIx xs.length xs.length hi - HT.sIx xs.length 0 lo)
theorem DqAll.cut {G : Hp} {vs : List V} {ds : List PyData} (h : DqAll K G vs ds) (lo hi : Option Int) : DqAll K G (cutV vs lo hi) (cutD ds lo hi) := by
  unfold cutV cutD
  rw [h.length]
  exact (h.drop _).take _
def asList : PyData → Option (List PyData)
  | .list ds => some ds
  | _ => none
theorem asList_some {d : PyData} {ds : List PyData} (h : asList d = some ds) : d = .list ds := by
  cases d <;> first | (cases h; rfl) | cases h
theorem df_slice {lo hi : Option Expr} {ml mh : M (Option Int)} {p2 : Pos} (ha : DE K E X e ma) (hl : DO K E X lo ml) (hh : DO K E X hi mh) :
    DF K E X (.Subscript e (.Slice lo hi none p2) pos) (ma.bind fun d => ml.bind fun l => mh.bind fun h => M.lift ((asList d).map fun ds => cutD ds l h)) := ⟨fun hK => by
  subst hK
  refine PE.imp (pe_slice sl_listN (ha.pe rfl) (hl.po rfl) (hh.po rfl)) fun σ H Q ⟨F, O, G, r, out, P, em, f⟩ => ?_
  refine tM.run P f em fun d r1 x G1 H1 P1 g1 q1 e1 f1 => ?_
  refine tM.run P1 f1 e1 fun l r2 l' G2 H2 P2 g2 q2 e2 f2 => ?_
  refine tM.run P2 f2 e2 fun h r3 h' G3 H3 P3 g3 q3 e3 f3 => ?_
  cases q2
  cases q3
  obtain ⟨z, hz, rfl⟩ := lift_ok e3
  obtain ⟨ds, hd, rfl⟩ := Option.map_eq_some_iff.mp hz
  cases asList_some hd
  have q1' := (q1.sm g2.gg).sm g3.gg
  cases q1' with
  | lst hs hx => exact ⟨_, _, rfl, (P3.sub.seq hs), fun p H4 s n e4 => f3.ok (Ps.of_same P3.sub s) P3 ⟨p, _, rfl, n, P3.sub.free n, P3.nf _ n, fun i z => (P3.on i p z).2.2.1 n, e4, hx.cut _ _⟩⟩⟩
def asTup : PyData → Option (List PyData)
  | .tuple ds => some ds
  | _ => none
theorem asTup_some {d : PyData} {ds : List PyData} (h : asTup d = some ds) : d = .tuple ds := by
  cases d <;> first | (cases h; rfl) | cases h
theorem de_sliceT {lo hi : Option Expr} {ml mh : M (Option Int)} {p2 : Pos} (ha : DE K E X e ma) (hl : DO K E X lo ml) (hh : DO K E X hi mh) :
    DE K E X (.Subscript e (.Slice lo hi none p2) pos) (ma.bind fun d => ml.bind fun l => mh.bind fun h => M.lift ((asTup d).bind fun ds => if HT.sIx ds.length 0 l = 0 ∧ HT.sIx ds.length ds.length h = ds.length then none else some (.tuple (cutD ds l h)))) := ⟨fun hK => by
  subst hK
  refine PE.imp (pe_slice sl_tup (ha.pe rfl) (hl.po rfl) (hh.po rfl)) fun σ H Q ⟨F, O, G, r, out, P, em, f⟩ => ?_
  refine tM.run P f em fun d r1 x G1 H1 P1 g1 q1 e1 f1 => ?_
  refine tM.run P1 f1 e1 fun l r2 l' G2 H2 P2 g2 q2 e2 f2 => ?_
  refine tM.run P2 f2 e2 fun h r3 h' G3 H3 P3 g3 q3 e3 f3 => ?_
  cases q2
  cases q3
  obtain ⟨z, hz, rfl⟩ := lift_ok e3
  obtain ⟨ds, hd, hz2⟩ := Option.bind_eq_some_iff.mp hz
  cases asTup_some hd
  split at hz2
  · cases hz2
  rename_i hw
  cases hz2
  have q1' := (q1.sm g2.gg).sm g3.gg
  cases q1' with
  | tup hs hx => exact ⟨_, _, rfl, Lk.Same.tup P3.sub hs, by rw [hx.length]; exact hw, fun p n => f3.ok (Ps.new P3.sub (same_new n) n upd_same) P3 (.tup (.inl (.inl upd_same)) ((hx.cut _ _).sm (same_new (P3.sub.free n))))⟩⟩
end
end DL
namespace DL
open PySem PySem.Spec PyProof.Rows L2 Lk
/-! ## operators -/
section
variable {K : PySem.W.Frag} {X : Cx}
theorem Inv.rdl {pins : List (Addr × Obj)} {σ : L2.St} {H : Hp} {s : Shared} {l : Addr} {xs : List V} (I : Inv X pins σ H s) (h : Rd H l (.lst xs)) : xs.length ≤ sizeLine ∧ ∃ (its : List Value) (n : Nat), Vals xs its ∧ xs.length = its.length ∧ s.heap.get? l = some { cls := .type "list", data := .seq its.toArray n } := by
  obtain ⟨z, its, n, r, e⟩ := h.ok I.hok
  exact ⟨z, its, n, r, r.length, e⟩
theorem op_catR : OpR X (binaryOp .Add) (fun x y H Q => ∃ l b xs zs, x = .ref l ∧ y = .ref b ∧ SqL X.K H l xs ∧ SqL X.K H b zs ∧ xs.length + zs.length ≤ sizeLine ∧ New (.lst (xs ++ zs)) H Q) := by
  intro pins s σ H x y v u Q I rx ry h
  obtain ⟨l, b, xs, zs, rfl, rfl, hH, hB, hz, q⟩ := h
  cases rx
  cases ry
  obtain ⟨its, r, ⟨⟨cls, dd, data, sl⟩, n, ho, hc, _, hd⟩, hl⟩ := I.list hH
  obtain ⟨its2, r2, ⟨⟨cls2, dd2, data2, sl2⟩, n2, ho2, hc2, _, hd2⟩, hl2⟩ := I.list hB
  simp only at hc hd hc2 hd2
  subst hc hd hc2 hd2
  have e : its.toArray ++ its2.toArray = (its ++ its2).toArray := by simp
  have l1 := r.length
  have l2 := r2.length
  refine concat_meets ⟨_, ho, rfl⟩ ⟨_, ho2, rfl⟩ noFill_list_add seq_list_add PySem.F.slot_list_add PySem.F.entry_list_add (PySem.F.args_list_add_2 _ _) (list_addW l b its.toArray its2.toArray n n2 dd dd2 sl sl2 (by rw [List.size_toArray, List.size_toArray]; omega)) ⟨ho, ho2, ?_⟩
  rw [e]
  exact ⟨.ref _, _, I.lnew (t' := s.toks) (r.append r2) (by rw [List.length_append]; omega), rfl, new_of q _ I.fresh⟩
theorem op_repR : OpR X (binaryOp .Mult) (fun x y H Q => ∃ l k xs, x = .ref l ∧ y = .int k ∧ Rd H l (.lst xs) ∧ -(2 ^ 63) ≤ k ∧ k < 2 ^ 63 ∧ xs.length * k.toNat ≤ sizeLine ∧ New (.lst (List.replicate k.toNat xs).flatten) H Q) := by
  intro pins s σ H x y v u Q I rx ry h
  obtain ⟨l, k, xs, rfl, rfl, hH, h1, h2, hz, q⟩ := h
  cases rx
  obtain ⟨t, rfl⟩ := ry
  obtain ⟨z, its, n, r, hl, e⟩ := Inv.rdl I hH
  have hlen : its.toArray.size * k.toNat ≤ sizeLine := by rw [List.size_toArray, ← hl]; exact hz
  have hcap : ¬ its.toArray.size * k.toNat > (2 ^ 63 - 1) / 8 := by
    have : (sizeLine : Nat) ≤ (2 ^ 63 - 1) / 8 := by decide
    omega
  have hfit : ¬ (!Builtin.List.listFitsIndex k) = true := by
    rw [fitsIndex_both h1 h2]
    exact Bool.false_ne_true
  have hlong : ¬ Builtin.List.listTooLong (its.toArray.size * k.toNat) = true := by
    rw [notLongL hlen]
    exact Bool.false_ne_true
  have hnew : List.foldl (fun x1 x2 => x1 ++ x2) #[] (List.replicate (if its.toArray.isEmpty = true then 0 else k.toNat) its.toArray) = (List.replicate k.toNat its).flatten.toArray := by
    have f0 : ∀ m : Nat, List.foldl (fun x1 x2 => x1 ++ x2) #[] (List.replicate m its.toArray) = (List.replicate m its).flatten.toArray := fun m => by
      have := foldl_rep its m []
      rw [List.nil_append] at this
      exact this
    rw [f0]
    cases its with
    | nil => simp
    | cons a r' => rw [if_neg (by simp)]
  refine wpAny_binaryOp_repeat_ref (T := "list") (U := "int") (by decide) ⟨_, e, rfl⟩ (fun s' => typeIs_int s' k t) noFill_list_mul F.fills_int_mul F.slot_int_rmul repeat_list F.slot_int_index.lookup
    (call_meets F.slot_int_rmul (typeIs_int s k t) F.entry_int_rmul (F.args_int_rmul_2 _ _) (int___rmul___int_list k t l its.toArray n)
      ⟨e, rfl, ⟨_, e, rfl⟩, call_meets F.slot_list_mul ⟨_, e, rfl⟩ F.entry_list_mul (F.args_list_mul_2 _ _) (AutoListH.list___mul___list_int_3 l its.toArray n k t hfit hcap hlong) ⟨e, ?_⟩⟩)
  rw [hnew]
  exact ⟨.ref _, _, I.lnew (t' := s.toks) (r.rep k.toNat) (by rw [PyProof.Rows.lm_len_rep_flat, Nat.mul_comm]; exact hz), rfl, new_of q _ I.fresh⟩
end
def addM : PyData → PyData → Option PyData
  | .int a, .int b => some (.int (a + b))
  | .int a, .bool b => some (.int (a + b2i b))
  | .str a, .str b => if a.length + b.length ≤ 1000000 then some (.str (a ++ b)) else none
  | .list xs, .list ys => if xs.length + ys.length ≤ 1000000 then some (.list (xs ++ ys)) else none
  | .tuple xs, .tuple ys => if xs.isEmpty then none else if xs.length + ys.length ≤ 1000000 then some (.tuple (xs ++ ys)) else none
  | _, _ => none
def subM : PyData → PyData → Option PyData
  | .int a, .int b => some (.int (a - b))
  | _, _ => none
def mulM : PyData → PyData → Option PyData
  | .int a, .int b => if a.natAbs.log2 + b.natAbs.log2 < 130000000 then some (.int (a * b)) else none
  | _, _ => none
def divM : PyData → PyData → Option PyData
  | .int a, .int b => if 0 < b ∧ b.natAbs.log2 < 9000 then some (.int (a / b)) else none
  | _, _ => none
def modM : PyData → PyData → Option PyData
  | .int a, .int b => if 0 < b then some (.int (a % b)) else none
  | _, _ => none
def powM : PyData → PyData → Option PyData
  | .int a, .int b => if 0 ≤ b ∧ b ≤ 1000 ∧ a.natAbs < 2 ^ 64 then some (.int (a ^ b.toNat)) else none
  | _, _ => none
def eqM (d e : PyData) : Option PyData := if SeqAt.shaped d && SeqAt.shaped e then some (.bool (PyData.eqv d e)) else none
def neM (d e : PyData) : Option PyData := if SeqAt.shaped d && SeqAt.shaped e then some (.bool (!PyData.eqv d e)) else none
def ltM : PyData → PyData → Option PyData
  | .int a, .int b => some (.bool (decide (a < b)))
  | _, _ => none
def leM : PyData → PyData → Option PyData
  | .int a, .int b => some (.bool (decide (a ≤ b)))
  | _, _ => none
def gtM : PyData → PyData → Option PyData
  | .int a, .int b => some (.bool (decide (b < a)))
  | _, _ => none
def geM : PyData → PyData → Option PyData
  | .int a, .int b => some (.bool (decide (b ≤ a)))
  | _, _ => none
def isNone : PyData → Bool
  | .none => true
  | _ => false
def isM (d e : PyData) : Option PyData := if isNone e then some (.bool (isNone d)) else none
def isNotM (d e : PyData) : Option PyData := if isNone e then some (.bool (!isNone d)) else none
def flatD : PyData → Bool
  | .none => true
  | .bool _ => true
  | .int _ => true
  | .str _ => true
  | _ => false
def memD (d : PyData) (ds : List PyData) : Bool := ds.any fun z => PyData.eqv z d
def inM : PyData → PyData → Option PyData
  | d, .list ds => if SeqAt.shaped d && SeqAt.shaped (.list ds) then some (.bool (memD d ds)) else none
  | d, .tuple ds => if flatD d && ds.all flatD then some (.bool (memD d ds)) else none
  | _, _ => none
def notInM : PyData → PyData → Option PyData
  | d, .list ds => if SeqAt.shaped d && SeqAt.shaped (.list ds) then some (.bool (!memD d ds)) else none
  | d, .tuple ds => if flatD d && ds.all flatD then some (.bool (!memD d ds)) else none
  | _, _ => none
section
variable {K : PySem.W.Frag} {X : Cx} {G H : Hp}
theorem dq_none {v : V} {d : PyData} (h : Dq K G v d) : decide (v = .non) = isNone d := by
  cases h <;> rfl
theorem opd_add : OpD K X (binaryOp .Add) addM := fun hK => by
  subst hK
  intro pins s σ H x y v u Q I rx ry h
  obtain ⟨G, d, e, z, sg, hd, he, hz, q⟩ := h
  unfold addM at hz
  split at hz
  · cases hz; cases hd; cases he
    exact op_add pins s σ H _ _ v u Q I rx ry ⟨_, _, rfl, rfl, q _ G H (Ps.refl sg) (.int _)⟩
  · cases hz; cases hd; cases he
    exact op_add_ib pins s σ H _ _ v u Q I rx ry ⟨_, _, rfl, rfl, q _ G H (Ps.refl sg) (.int _)⟩
  · split at hz
    · rename_i hl
      cases hz; cases hd; cases he
      exact op_add_str pins s σ H _ _ v u Q I rx ry ⟨_, _, rfl, rfl, line_le hl, q _ G H (Ps.refl sg) (.str _)⟩
    · cases hz
  · split at hz
    · rename_i hl
      cases hz
      cases hd with
      | lst hs ha =>
        cases he with
        | lst hs2 ha2 =>
          refine op_catR pins s σ H _ _ v u Q I rx ry ⟨_, _, _, _, rfl, rfl, sg.seq hs, sg.seq hs2, line_le (by rw [ha.length, ha2.length]; exact hl), fun p H' sm n e' => ?_⟩
          exact q _ _ H' (Ps.new sg sm n e') (.lst (.inl (.inl upd_same)) ((ha.append ha2).sm (same_new (sg.free n))))
    · cases hz
  · split at hz
    · cases hz
    · split at hz
      · rename_i hne hl
        cases hz
        cases hd with
        | tup hs ha =>
          cases he with
          | tup hs2 ha2 =>
            refine op_catT pins s σ H _ _ v u Q I rx ry ⟨_, _, _, _, rfl, rfl, Lk.Same.tup sg hs, Lk.Same.tup sg hs2, ?_, line_le (by rw [ha.length, ha2.length]; exact hl), fun e0 => ?_, fun _ p n => ?_⟩
            · rintro rfl
              cases ha
              exact hne rfl
            · subst e0
              cases ha2
              rw [List.append_nil] at q
              exact q _ _ _ (Ps.refl sg) (.tup hs ha)
            · exact q _ _ _ (Ps.new sg (same_new n) n upd_same) (.tup (.inl (.inl upd_same)) ((ha.append ha2).sm (same_new (sg.free n))))
      · cases hz
  · cases hz
theorem opd_sub : OpD K X (binaryOp .Sub) subM := fun hK => by
  intro pins s σ H x y v u Q I rx ry h
  obtain ⟨G, d, e, z, sg, hd, he, hz, q⟩ := h
  unfold subM at hz
  split at hz
  · cases hz; cases hd; cases he
    exact op_sub pins s σ H _ _ v u Q I rx ry ⟨_, _, rfl, rfl, q _ G H (Ps.refl sg) (.int _)⟩
  · cases hz
theorem mulB_ok {i j : Int} (h : i.natAbs.log2 + j.natAbs.log2 < 130000000) : IntMulOk i j := by
  have b : ∀ x : Int, Builtin.Int.intBits x ≤ x.natAbs.log2 + 1 := fun x => by
    unfold Builtin.Int.intBits
    split <;> omega
  have h1 := b i
  have h2 := b j
  have e : bitsLine = 134217728 := by decide
  unfold IntMulOk
  intro z
  rw [Bool.and_eq_true] at z
  have z2 := z.2
  unfold Builtin.Int.intTooBig at z2
  have z3 := of_decide_eq_true z2
  rw [e] at z3
  omega
theorem opd_mul : OpD K X (binaryOp .Mult) mulM := fun hK => by
  intro pins s σ H x y v u Q I rx ry h
  obtain ⟨G, d, e, z, sg, hd, he, hz, q⟩ := h
  unfold mulM at hz
  split at hz
  · split at hz
    · rename_i hl
      cases hz; cases hd; cases he
      exact opI (C := fun i j : Int => i.natAbs.log2 + j.natAbs.log2 < 130000000) (g := fun i j => i * j) (fun _ _ _ _ _ _ _ hc q => mul_int q (mulB_ok hc)) pins s σ H _ _ v u Q I rx ry ⟨_, _, rfl, rfl, hl, q _ G H (Ps.refl sg) (.int _)⟩
    · cases hz
  · cases hz
theorem opd_div : OpD K X (binaryOp .FloorDiv) divM := fun hK => by
  intro pins s σ H x y v u Q I rx ry h
  obtain ⟨G, d, e, z, sg, hd, he, hz, q⟩ := h
  unfold divM at hz
  split at hz
  · split at hz
    · rename_i hl
      cases hz; cases hd; cases he
      exact op_fdivW pins s σ H _ _ v u Q I rx ry ⟨_, _, rfl, rfl, hl, q _ G H (Ps.refl sg) (.int _)⟩
    · cases hz
  · cases hz
theorem opd_mod : OpD K X (binaryOp .Mod) modM := fun hK => by
  intro pins s σ H x y v u Q I rx ry h
  obtain ⟨G, d, e, z, sg, hd, he, hz, q⟩ := h
  unfold modM at hz
  split at hz
  · split at hz
    · rename_i hl
      cases hz; cases hd; cases he
      exact op_mod pins s σ H _ _ v u Q I rx ry ⟨_, _, rfl, rfl, hl, q _ G H (Ps.refl sg) (.int _)⟩
    · cases hz
  · cases hz
theorem opd_pow : OpD K X (binaryOp .Pow) powM := fun hK => by
  intro pins s σ H x y v u Q I rx ry h
  obtain ⟨G, d, e, z, sg, hd, he, hz, q⟩ := h
  unfold powM at hz
  split at hz
  · split at hz
    · rename_i hl
      cases hz; cases hd; cases he
      exact op_pow pins s σ H _ _ v u Q I rx ry ⟨_, _, rfl, rfl, ⟨hl.1, by omega, hl.2.2⟩, q _ G H (Ps.refl sg) (.int _)⟩
    · cases hz
  · cases hz
theorem opd_eq {k : Nat} (hr : Room k X.A) : OpD K X (compareOp .Eq) eqM := fun hK => by
  subst hK
  intro pins s σ H x y v u Q I rx ry h
  obtain ⟨G, d, e, z, sg, hd, he, hz, q⟩ := h
  unfold eqM at hz
  split at hz
  · rename_i hs
    rw [Bool.and_eq_true] at hs
    cases hz
    exact op_eqD hr.units pins s σ H _ _ v u Q I rx ry ⟨d, e, (hd.sm sg).dp, (he.sm sg).dp, hs.1, hs.2, q _ G H (Ps.refl sg) (.bl _)⟩
  · cases hz
theorem opd_ne {k : Nat} (hr : Room k X.A) : OpD K X (compareOp .NotEq) neM := fun hK => by
  subst hK
  intro pins s σ H x y v u Q I rx ry h
  obtain ⟨G, d, e, z, sg, hd, he, hz, q⟩ := h
  unfold neM at hz
  split at hz
  · rename_i hs
    rw [Bool.and_eq_true] at hs
    cases hz
    exact op_neD hr.units pins s σ H _ _ v u Q I rx ry ⟨d, e, (hd.sm sg).dp, (he.sm sg).dp, hs.1, hs.2, q _ G H (Ps.refl sg) (.bl _)⟩
  · cases hz
theorem opd_lt : OpD K X (compareOp .Lt) ltM := fun hK => by
  intro pins s σ H x y v u Q I rx ry h
  obtain ⟨G, d, e, z, sg, hd, he, hz, q⟩ := h
  unfold ltM at hz
  split at hz
  · cases hz; cases hd; cases he
    exact op_lt pins s σ H _ _ v u Q I rx ry ⟨_, _, rfl, rfl, q _ G H (Ps.refl sg) (.bl _)⟩
  · cases hz
theorem opd_le : OpD K X (compareOp .LtE) leM := fun hK => by
  intro pins s σ H x y v u Q I rx ry h
  obtain ⟨G, d, e, z, sg, hd, he, hz, q⟩ := h
  unfold leM at hz
  split at hz
  · cases hz; cases hd; cases he
    exact op_le pins s σ H _ _ v u Q I rx ry ⟨_, _, rfl, rfl, q _ G H (Ps.refl sg) (.bl _)⟩
  · cases hz
theorem opd_gt : OpD K X (compareOp .Gt) gtM := fun hK => by
  intro pins s σ H x y v u Q I rx ry h
  obtain ⟨G, d, e, z, sg, hd, he, hz, q⟩ := h
  unfold gtM at hz
  split at hz
  · cases hz; cases hd; cases he
    exact op_gt pins s σ H _ _ v u Q I rx ry ⟨_, _, rfl, rfl, q _ G H (Ps.refl sg) (.bl _)⟩
  · cases hz
theorem opd_ge : OpD K X (compareOp .GtE) geM := fun hK => by
  intro pins s σ H x y v u Q I rx ry h
  obtain ⟨G, d, e, z, sg, hd, he, hz, q⟩ := h
  unfold geM at hz
  split at hz
  · cases hz; cases hd; cases he
    exact op_ge pins s σ H _ _ v u Q I rx ry ⟨_, _, rfl, rfl, q _ G H (Ps.refl sg) (.bl _)⟩
  · cases hz
theorem isNone_some {d : PyData} (h : isNone d = true) : d = .none := by
  cases d <;> first | rfl | cases h
theorem opd_is : OpD K X (compareOp .Is) isM := fun hK => by
  intro pins s σ H x y v u Q I rx ry h
  obtain ⟨G, d, e, z, sg, hd, he, hz, q⟩ := h
  unfold isM at hz
  split at hz
  · rename_i hn
    cases isNone_some hn
    cases hz; cases he
    exact op_isN pins s σ H _ _ v u Q I rx ry ⟨rfl, by rw [dq_none hd]; exact q _ G H (Ps.refl sg) (.bl _)⟩
  · cases hz
theorem opd_isNot : OpD K X (compareOp .IsNot) isNotM := fun hK => by
  intro pins s σ H x y v u Q I rx ry h
  obtain ⟨G, d, e, z, sg, hd, he, hz, q⟩ := h
  unfold isNotM at hz
  split at hz
  · rename_i hn
    cases isNone_some hn
    cases hz; cases he
    exact op_notN pins s σ H _ _ v u Q I rx ry ⟨rfl, by rw [dq_none hd]; exact q _ G H (Ps.refl sg) (.bl _)⟩
  · cases hz
theorem dq_flat {v : V} {d : PyData} (h : Dq K G v d) (f : flatD d = true) : flatV v = true := by
  cases h <;> first | rfl | cases f
theorem dq_flats : ∀ {vs : List V} {ds : List PyData}, DqAll K G vs ds → ds.all flatD = true → vs.all flatV = true
  | _, _, .nil, _ => rfl
  | _, _, .cons h1 h2, f => by
    rw [List.all_cons, Bool.and_eq_true] at f
    rw [List.all_cons, dq_flat h1 f.1, dq_flats h2 f.2]
    rfl
theorem dq_eqV {v w : V} {d e : PyData} (h : Dq K G v d) (h' : Dq K G w e) (f : flatD d = true) (f' : flatD e = true) : eqV v w = PyData.eqv d e := by
  cases h <;> cases h' <;> first | rfl | (cases f) | (cases f') | (simp [eqV, PyData.eqv])
theorem dq_inV {x : V} {d : PyData} (hx : Dq K G x d) (f : flatD d = true) : ∀ {vs : List V} {ds : List PyData}, DqAll K G vs ds → ds.all flatD = true → inV x vs = memD d ds
  | _, _, .nil, _ => rfl
  | _, _, .cons h1 h2, g => by
    rw [List.all_cons, Bool.and_eq_true] at g
    have ih := dq_inV hx f h2 g.2
    unfold inV memD at ih ⊢
    rw [List.any_cons, List.any_cons, ih, dq_eqV h1 hx g.1 f]
theorem opd_in {k : Nat} (hr : Room k X.A) : OpD K X (compareOp .In) inM := fun hK => by
  subst hK
  intro pins s σ H x y v u Q I rx ry h
  obtain ⟨G, d, e, z, sg, hd, he, hz, q⟩ := h
  have hu : X.A.units + 65 < cLine := by have := hr.un; omega
  unfold inM at hz
  split at hz
  · split at hz
    · rename_i hs
      rw [Bool.and_eq_true] at hs
      cases hz
      exact op_inD hu pins s σ H _ _ v u Q I rx ry ⟨_, _, (hd.sm sg).dp, (he.sm sg).dp, hs.1, hs.2, q _ G H (Ps.refl sg) (.bl _)⟩
    · cases hz
  · split at hz
    · rename_i hs
      rw [Bool.and_eq_true] at hs
      cases hz
      cases he with
      | tup ht ha =>
        refine op_in_seq pins s σ H _ _ v u Q I rx ry ⟨_, _, rfl, .inr (Lk.Same.tup sg ht), dq_flat hd hs.1, dq_flats ha hs.2, ?_⟩
        rw [if_neg Bool.false_ne_true, dq_inV hd hs.1 ha hs.2]
        exact q _ G H (Ps.refl sg) (.bl _)
    · cases hz
  · cases hz
theorem opd_notIn {k : Nat} (hr : Room k X.A) : OpD K X (compareOp .NotIn) notInM := fun hK => by
  subst hK
  intro pins s σ H x y v u Q I rx ry h
  obtain ⟨G, d, e, z, sg, hd, he, hz, q⟩ := h
  have hu : X.A.units + 65 < cLine := by have := hr.un; omega
  unfold notInM at hz
  split at hz
  · split at hz
    · rename_i hs
      rw [Bool.and_eq_true] at hs
      cases hz
      exact op_notInD hu pins s σ H _ _ v u Q I rx ry ⟨_, _, (hd.sm sg).dp, (he.sm sg).dp, hs.1, hs.2, q _ G H (Ps.refl sg) (.bl _)⟩
    · cases hz
  · split at hz
    · rename_i hs
      rw [Bool.and_eq_true] at hs
      cases hz
      cases he with
      | tup ht ha =>
        refine op_notIn_seq pins s σ H _ _ v u Q I rx ry ⟨_, _, rfl, .inr (Lk.Same.tup sg ht), dq_flat hd hs.1, dq_flats ha hs.2, ?_⟩
        rw [if_pos rfl, dq_inV hd hs.1 ha hs.2]
        exact q _ G H (Ps.refl sg) (.bl _)
    · cases hz
  · cases hz
end
/-- [a, ..] * k -/
def repM (xs : List PyData) : PyData → Option (List PyData)
  | .int k => if k.natAbs ≤ 1000000 ∧ xs.length * k.toNat ≤ 1000000 then some (List.replicate k.toNat xs).flatten else none
  | _ => none
theorem df_rep {K : PySem.W.Frag} {E : XE} {X : Cx} {a b : Expr} {ml : M (List PyData)} {mb : M PyData} {pos : Pos} (ha : DF K E X a ml) (hb : DE K E X b mb) : DF K E X (.BinOp a .Mult b pos) (ml.bind fun xs => mb.bind fun d => M.lift (repM xs d)) := ⟨fun hK => by
  subst hK
  refine PE.imp (pe_op op_repR (ha.pe rfl) (hb.pe rfl)) fun σ H Q ⟨F, O, G, r, out, P, em, f⟩ => ?_
  refine tM.run P f em fun xs r1 x G1 H1 P1 g1 q1 e1 f1 => ?_
  refine tM.run P1 f1 e1 fun d r2 y G2 H2 P2 g2 q2 e2 f2 => ?_
  obtain ⟨z, hz, rfl⟩ := lift_ok e2
  obtain ⟨p, vs, rfl, hs, hg, h0, ho, hp, hx⟩ := q1
  unfold repM at hz
  split at hz
  · split at hz
    · rename_i hl
      cases hz
      cases q2
      have hx2 := hx.sm g2.gg
      exact ⟨_, _, _, rfl, rfl, .inl (g2.keep _ _ hp ho), by omega, by omega, line_le (by rw [hx.length]; exact hl.2), fun q H' s n e' => f2.ok (Ps.of_same P2.sub s) P2 ⟨q, _, rfl, n, P2.sub.free n, P2.nf _ n, fun i z => (P2.on i q z).2.2.1 n, e', hx2.rep _⟩⟩
    · cases hz
  · cases hz⟩
/-- -a -/
def negM : PyData → Option PyData
  | .int a => some (.int (-a))
  | _ => none
section
variable {K : PySem.W.Frag} {E : XE} {X : Cx} {a b c e : Expr} {es : List Expr} {ma mb mc : M PyData} {pos : Pos}
theorem de_neg (ha : DE K E X a ma) : DE K E X (.UnaryOp .USub a pos) (ma.bind fun d => M.lift (negM d)) := ⟨fun hK => PE.imp (pe_un un_neg (ha.pe hK)) fun σ H Q ⟨F, O, G, r, out, P, em, f⟩ => by
  refine tM.run P f em fun d r1 x G1 H1 P1 g1 q1 e1 f1 => ?_
  obtain ⟨z, hz, rfl⟩ := lift_ok e1
  unfold negM at hz
  split at hz
  · cases hz; cases q1
    exact ⟨_, rfl, f1.ok (Ps.refl P1.sub) P1 (.int _)⟩
  · cases hz⟩
/-- a < b < c -/
def mChain (f g : PyData → PyData → Option PyData) (ma mb mc : M PyData) : M PyData :=
  ma.bind fun d => mb.bind fun e => (M.lift ((f d e).bind asBool)).bind fun k => if k then mc.bind fun h => M.lift ((g e h).bind fun z => (asBool z).map PyData.bool) else M.ret (.bool false)
theorem de_chain {op op' : CmpOp} {f g : PyData → PyData → Option PyData} (ho : OpD K X (compareOp op) f) (ho' : OpD K X (compareOp op') g) (ha : DE K E X a ma) (hb : DE K E X b mb) (hc : DE K E X c mc)
    (h1 : lastMarks [op, op'] [b, c] = false := by with_unfolding_all rfl) : DE K E X (.Compare a [op, op'] [b, c] pos) (mChain f g ma mb mc) :=
  ⟨fun hK => PE.imp (pe_chain (ho hK) (ho' hK) (ha.pe hK) (hb.pe hK) (hc.pe hK) h1) fun σ H Q ⟨F, O, G, r, out, P, em, ff⟩ => by
  refine tM.run P ff em fun d r1 x G1 H1 P1 g1 q1 e1 f1 => ?_
  refine tM.run P1 f1 e1 fun ds r2 y G2 H2 P2 g2 q2 e2 f2 => ?_
  obtain ⟨k, hz, e3⟩ := bind_lift_ok e2
  obtain ⟨z, h1, h2⟩ := Option.bind_eq_some_iff.mp hz
  cases asBool_some h2
  refine ⟨G2, _, _, _, P2.sub, q1.sm g2.gg, q2, h1, fun v G' H' p q => ⟨k, dp_bool q, ?_⟩⟩
  have P2' := P2.ps p
  have f2' := f2.via (p.go : Go O G2 H2 G' H')
  cases k with
  | true =>
    refine iteT (tM.run P2' f2' e3 fun h r3 w G3 H3 P3 g3 q3 e4 f3 => ?_)
    obtain ⟨o, ho, rfl⟩ := lift_ok e4
    obtain ⟨z', h3, h4⟩ := Option.bind_eq_some_iff.mp ho
    obtain ⟨b', h5, rfl⟩ := Option.map_eq_some_iff.mp h4
    cases asBool_some h5
    exact ⟨G3, _, _, _, P3.sub, (q2.sm p.gg).sm g3.gg, q3, h3, fun v G' H' p q => f3.ok p P3 q⟩
  | false =>
    cases e3
    exact iteF (f2'.ok (Ps.refl P2'.sub) P2' (.bl _))⟩
end
end DL
namespace DL
open PySem PySem.Spec PyProof.Rows L2 Lk
/-! ## builtins -/
def intsOf : List PyData → Option (List Int)
  | [] => some []
  | .int i :: ds => (intsOf ds).map (i :: ·)
  | _ :: _ => none
def boolsOf : List PyData → Option (List Bool)
  | [] => some []
  | .bool i :: ds => (boolsOf ds).map (i :: ·)
  | _ :: _ => none
theorem intsOf_some : ∀ {ds : List PyData} {ns : List Int}, intsOf ds = some ns → ds = ns.map PyData.int
  | [], _, h => by cases h; rfl
  | .int i :: ds, ns, h => by
    obtain ⟨ms, h1, rfl⟩ := Option.map_eq_some_iff.mp (show (intsOf ds).map (i :: ·) = some ns from h)
    rw [intsOf_some h1]
    rfl
  | .none :: _, _, h | .bool _ :: _, _, h | .str _ :: _, _, h | .list _ :: _, _, h | .tuple _ :: _, _, h | .dict _ :: _, _, h => by cases h
@[simp] theorem intsOf_map : ∀ ns : List Int, intsOf (ns.map PyData.int) = some ns
  | [] => rfl
  | n :: ns => by
    show (intsOf (ns.map PyData.int)).map (n :: ·) = _
    rw [intsOf_map ns]
    rfl
theorem boolsOf_some : ∀ {ds : List PyData} {ns : List Bool}, boolsOf ds = some ns → ds = ns.map PyData.bool
  | [], _, h => by cases h; rfl
  | .bool i :: ds, ns, h => by
    obtain ⟨ms, h1, rfl⟩ := Option.map_eq_some_iff.mp (show (boolsOf ds).map (i :: ·) = some ns from h)
    rw [boolsOf_some h1]
    rfl
  | .none :: _, _, h | .int _ :: _, _, h | .str _ :: _, _, h | .list _ :: _, _, h | .tuple _ :: _, _, h | .dict _ :: _, _, h => by cases h
@[simp] theorem boolsOf_map : ∀ ns : List Bool, boolsOf (ns.map PyData.bool) = some ns
  | [] => rfl
  | n :: ns => by
    show (boolsOf (ns.map PyData.bool)).map (n :: ·) = _
    rw [boolsOf_map ns]
    rfl
def lenM : List PyData → Option PyData
  | [.list ds] => some (.int ds.length)
  | [.tuple ds] => some (.int ds.length)
  | [.str x] => if x.length ≤ 1000000 then some (.int x.length) else none
  | _ => none
def sumM : List PyData → Option PyData
  | [.list ds] => (intsOf ds).map fun ns => .int ns.sum
  | _ => none
def minL : List Int → Int
  | [] => 0
  | [a] => a
  | a :: b :: l => min a (minL (b :: l))
def maxL : List Int → Int
  | [] => 0
  | [a] => a
  | a :: b :: l => max a (maxL (b :: l))
theorem minL_spec : ∀ {l : List Int}, l ≠ [] → minL l ∈ l ∧ ∀ x ∈ l, minL l ≤ x
  | [], h => absurd rfl h
  | [a], _ => ⟨List.mem_singleton.mpr rfl, fun x hx => by rw [List.mem_singleton.mp hx]; exact Int.le_refl _⟩
  | a :: b :: l, _ => by
    obtain ⟨h1, h2⟩ := minL_spec (l := b :: l) (by simp)
    have e : minL (a :: b :: l) = min a (minL (b :: l)) := rfl
    rw [e]
    refine ⟨?_, fun x hx => ?_⟩
    · rcases Int.le_total a (minL (b :: l)) with z | z
      · rw [Int.min_eq_left z]; exact List.mem_cons_self ..
      · rw [Int.min_eq_right z]; exact List.mem_cons_of_mem _ h1
    · rcases List.mem_cons.mp hx with rfl | hx
      · omega
      · have := h2 x hx; omega
theorem maxL_spec : ∀ {l : List Int}, l ≠ [] → maxL l ∈ l ∧ ∀ x ∈ l, x ≤ maxL l
  | [], h => absurd rfl h
  | [a], _ => ⟨List.mem_singleton.mpr rfl, fun x hx => by rw [List.mem_singleton.mp hx]; exact Int.le_refl _⟩
  | a :: b :: l, _ => by
    obtain ⟨h1, h2⟩ := maxL_spec (l := b :: l) (by simp)
    have e : maxL (a :: b :: l) = max a (maxL (b :: l)) := rfl
    rw [e]
    refine ⟨?_, fun x hx => ?_⟩
    · rcases Int.le_total a (maxL (b :: l)) with z | z
      · rw [Int.max_eq_right z]; exact List.mem_cons_of_mem _ h1
      · rw [Int.max_eq_left z]; exact List.mem_cons_self ..
    · rcases List.mem_cons.mp hx with rfl | hx
      · omega
      · have := h2 x hx; omega
def minM : List PyData → Option PyData
  | [.list ds] => (intsOf ds).bind fun ns => if ns.isEmpty then none else some (.int (minL ns))
  | _ => none
def maxM : List PyData → Option PyData
  | [.list ds] => (intsOf ds).bind fun ns => if ns.isEmpty then none else some (.int (maxL ns))
  | _ => none
def min2M : List PyData → Option PyData
  | [.int a, .int b] => some (.int (if b < a then b else a))
  | _ => none
def max2M : List PyData → Option PyData
  | [.int a, .int b] => some (.int (if b > a then b else a))
  | _ => none
def absM : List PyData → Option PyData
  | [.int a] => some (.int (if a < 0 then -a else a))
  | _ => none
def allM : List PyData → Option PyData
  | [.list ds] => (boolsOf ds).map fun bs => .bool (bs.all id)
  | _ => none
def anyM : List PyData → Option PyData
  | [.list ds] => (boolsOf ds).map fun bs => .bool (bs.any id)
  | _ => none
def intM : List PyData → Option PyData
  | [.int a] => some (.int a)
  | [.bool b] => some (.int (if b then 1 else 0))
  | _ => none
def boolM : List PyData → Option PyData
  | [.int a] => some (.bool (a != 0))
  | [.bool b] => some (.bool b)
  | _ => none
def strM : List PyData → Option PyData
  | [.int a] => if a.natAbs < 2 ^ 1000 then some (.str (toString a)) else none
  | _ => none
def tupleM : List PyData → Option PyData
  | [.list ds] => some (.tuple ds)
  | [.tuple ds] => some (.tuple ds)
  | _ => none
def listM : List PyData → Option (List PyData)
  | [.list ds] => some ds
  | [.tuple ds] => some ds
  | _ => none
def insI (a : Int) : List Int → List Int
  | [] => [a]
  | b :: l => if a ≤ b then a :: b :: l else b :: insI a l
def sortI : List Int → List Int
  | [] => []
  | a :: l => insI a (sortI l)
theorem insI_perm (a : Int) : ∀ l : List Int, (insI a l).Perm (a :: l)
  | [] => .refl _
  | b :: l => by
    unfold insI
    split
    · exact .refl _
    · exact ((insI_perm a l).cons b).trans (.swap ..)
theorem sortI_perm : ∀ l : List Int, (sortI l).Perm l
  | [] => .refl _
  | a :: l => (insI_perm a _).trans ((sortI_perm l).cons a)
theorem insI_sorted {a : Int} : ∀ {l : List Int}, l.Pairwise (· ≤ ·) → (insI a l).Pairwise (· ≤ ·)
  | [], _ => List.pairwise_singleton ..
  | b :: l, h => by
    have h' := List.pairwise_cons.mp h
    unfold insI
    split
    · rename_i hab
      refine List.pairwise_cons.mpr ⟨fun x hx => ?_, h⟩
      rcases List.mem_cons.mp hx with rfl | hx
      · exact hab
      · have := h'.1 x hx; omega
    · rename_i hab
      refine List.pairwise_cons.mpr ⟨fun x hx => ?_, insI_sorted h'.2⟩
      rcases List.mem_cons.mp ((insI_perm a l).mem_iff.mp hx) with rfl | hx
      · omega
      · exact h'.1 x hx
theorem sortI_sorted : ∀ l : List Int, (sortI l).Pairwise (· ≤ ·)
  | [] => .nil
  | _ :: l => insI_sorted (sortI_sorted l)
theorem sorted_unique : ∀ {l m : List Int}, l.Perm m → l.Pairwise (· ≤ ·) → m.Pairwise (· ≤ ·) → l = m
  | [], m, p, _, _ => by rw [List.nil_perm.mp p]
  | a :: l, [], p, _, _ => absurd p.symm (by simp)
  | a :: l, b :: m, p, h1, h2 => by
    have h1' := List.pairwise_cons.mp h1
    have h2' := List.pairwise_cons.mp h2
    have e : a = b := by
      have ma : a ∈ b :: m := p.mem_iff.mp (List.mem_cons_self ..)
      have mb : b ∈ a :: l := p.mem_iff.mpr (List.mem_cons_self ..)
      rcases List.mem_cons.mp ma with z | z
      · exact z
      · rcases List.mem_cons.mp mb with y | y
        · exact y.symm
        · have := h1'.1 b y
          have := h2'.1 a z
          omega
    subst e
    rw [sorted_unique ((List.perm_cons a).mp p) h1'.2 h2'.2]
theorem sorted_is {l m : List Int} (p : l.Perm m) (h : l.Pairwise (· ≤ ·)) : l = sortI m := sorted_unique (p.trans (sortI_perm m).symm) h (sortI_sorted m)
def sortedM : List PyData → Option (List PyData)
  | [.list ds] => (intsOf ds).map fun ns => (sortI ns).map PyData.int
  | _ => none
section
variable {K : PySem.W.Frag} {X : Cx}
theorem one_of {G : Hp} {vs : List V} {d : PyData} (h : DqAll K G vs [d]) : ∃ v, vs = [v] ∧ Dq K G v d := by
  cases h with
  | cons h1 h2 =>
    cases h2
    exact ⟨_, rfl, h1⟩
theorem two_of {G : Hp} {vs : List V} {d e : PyData} (h : DqAll K G vs [d, e]) : ∃ v w, vs = [v, w] ∧ Dq K G v d ∧ Dq K G w e := by
  cases h with
  | cons h1 h2 =>
    cases h2 with
    | cons h3 h4 =>
      cases h4
      exact ⟨_, _, rfl, h1, h3⟩
theorem lst_ints {G : Hp} {v : V} {ds : List PyData} {ns : List Int} (h : Dq K G v (.list ds)) (e : intsOf ds = some ns) : ∃ p, v = .ref p ∧ SqL K G p (ns.map V.int) := by
  cases h with
  | lst hs ha =>
    rw [intsOf_some e] at ha
    rw [ha.of_ints] at hs
    exact ⟨_, rfl, hs⟩
theorem lst_bools {G : Hp} {v : V} {ds : List PyData} {ns : List Bool} (h : Dq K G v (.list ds)) (e : boolsOf ds = some ns) : ∃ p, v = .ref p ∧ SqL K G p (ns.map V.bl) := by
  cases h with
  | lst hs ha =>
    rw [boolsOf_some e] at ha
    rw [ha.of_bools] at hs
    exact ⟨_, rfl, hs⟩
theorem cd_len : CallD K X (.builtin "len") lenM := fun hK => by
  subst hK
  intro pins s σ H xs us Q I r h
  obtain ⟨G, ds, z, sg, hd, hz, q⟩ := h
  unfold lenM at hz
  split at hz
  · cases hz
    obtain ⟨v, rfl, hv⟩ := one_of hd
    cases hv with
    | lst hs ha => exact call_len_seq pins s σ H _ us Q I r ⟨_, _, rfl, .inl ((sg.seq hs)), by rw [ha.length]; exact q _ G H (Ps.refl sg) (.int _)⟩
  · cases hz
    obtain ⟨v, rfl, hv⟩ := one_of hd
    cases hv with
    | tup hs ha => exact call_len_seq pins s σ H _ us Q I r ⟨_, _, rfl, .inr (Lk.Same.tup sg hs), by rw [ha.length]; exact q _ G H (Ps.refl sg) (.int _)⟩
  · split at hz
    · rename_i hl
      cases hz
      obtain ⟨v, rfl, hv⟩ := one_of hd
      cases hv
      exact call_len_str pins s σ H _ us Q I r ⟨_, rfl, line_le hl, q _ G H (Ps.refl sg) (.int _)⟩
    · cases hz
  · cases hz
theorem cd_sum (hc : X.calm = true) : CallD K X (.builtin "sum") sumM := fun hK => by
  subst hK
  intro pins s σ H xs us Q I r h
  obtain ⟨G, ds, z, sg, hd, hz, q⟩ := h
  unfold sumM at hz
  split at hz
  · obtain ⟨ns, hn, rfl⟩ := Option.map_eq_some_iff.mp hz
    obtain ⟨v, rfl, hv⟩ := one_of hd
    obtain ⟨p, rfl, hp⟩ := lst_ints hv hn
    exact cr_sum hc pins s σ H _ us Q I r ⟨p, ns, rfl, (sg.seq hp), q _ G H (Ps.refl sg) (.int _)⟩
  · cases hz
theorem cd_min (hc : X.calm = true) : CallD K X (.builtin "min") minM := fun hK => by
  subst hK
  intro pins s σ H xs us Q I r h
  obtain ⟨G, ds, z, sg, hd, hz, q⟩ := h
  unfold minM at hz
  split at hz
  · obtain ⟨ns, hn, hz⟩ := Option.bind_eq_some_iff.mp hz
    split at hz
    · cases hz
    · rename_i he
      cases hz
      obtain ⟨v, rfl, hv⟩ := one_of hd
      obtain ⟨p, rfl, hp⟩ := lst_ints hv hn
      have ne : ns ≠ [] := fun e => he (by rw [e]; rfl)
      refine cr_min hc pins s σ H _ us Q I r ⟨p, ns, rfl, (sg.seq hp), List.length_pos_iff.mpr ne, fun m h1 h2 => ?_⟩
      obtain ⟨h3, h4⟩ := minL_spec ne
      rw [show m = minL ns from Int.le_antisymm (h2 _ h3) (h4 _ h1)]
      exact q _ G H (Ps.refl sg) (.int _)
  · cases hz
theorem cd_max (hc : X.calm = true) : CallD K X (.builtin "max") maxM := fun hK => by
  subst hK
  intro pins s σ H xs us Q I r h
  obtain ⟨G, ds, z, sg, hd, hz, q⟩ := h
  unfold maxM at hz
  split at hz
  · obtain ⟨ns, hn, hz⟩ := Option.bind_eq_some_iff.mp hz
    split at hz
    · cases hz
    · rename_i he
      cases hz
      obtain ⟨v, rfl, hv⟩ := one_of hd
      obtain ⟨p, rfl, hp⟩ := lst_ints hv hn
      have ne : ns ≠ [] := fun e => he (by rw [e]; rfl)
      refine cr_max hc pins s σ H _ us Q I r ⟨p, ns, rfl, (sg.seq hp), List.length_pos_iff.mpr ne, fun m h1 h2 => ?_⟩
      obtain ⟨h3, h4⟩ := maxL_spec ne
      rw [show m = maxL ns from Int.le_antisymm (h4 _ h1) (h2 _ h3)]
      exact q _ G H (Ps.refl sg) (.int _)
  · cases hz
theorem cd_min2 (hc : X.calm = true) : CallD K X (.builtin "min") min2M := fun hK => by
  intro pins s σ H xs us Q I r h
  obtain ⟨G, ds, z, sg, hd, hz, q⟩ := h
  unfold min2M at hz
  split at hz
  · cases hz
    obtain ⟨v, w, rfl, hv, hw⟩ := two_of hd
    cases hv; cases hw
    exact call_min2 hc pins s σ H _ us Q I r ⟨_, _, rfl, q _ G H (Ps.refl sg) (.int _)⟩
  · cases hz
theorem cd_max2 (hc : X.calm = true) : CallD K X (.builtin "max") max2M := fun hK => by
  intro pins s σ H xs us Q I r h
  obtain ⟨G, ds, z, sg, hd, hz, q⟩ := h
  unfold max2M at hz
  split at hz
  · cases hz
    obtain ⟨v, w, rfl, hv, hw⟩ := two_of hd
    cases hv; cases hw
    exact call_max2 hc pins s σ H _ us Q I r ⟨_, _, rfl, q _ G H (Ps.refl sg) (.int _)⟩
  · cases hz
theorem cd_abs : CallD K X (.builtin "abs") absM := fun hK => by
  intro pins s σ H xs us Q I r h
  obtain ⟨G, ds, z, sg, hd, hz, q⟩ := h
  unfold absM at hz
  split at hz
  · cases hz
    obtain ⟨v, rfl, hv⟩ := one_of hd
    cases hv
    exact call_abs pins s σ H _ us Q I r ⟨_, rfl, q _ G H (Ps.refl sg) (.int _)⟩
  · cases hz
theorem cd_all (hc : X.calm = true) : CallD K X (.builtin "all") allM := fun hK => by
  subst hK
  intro pins s σ H xs us Q I r h
  obtain ⟨G, ds, z, sg, hd, hz, q⟩ := h
  unfold allM at hz
  split at hz
  · obtain ⟨ns, hn, rfl⟩ := Option.map_eq_some_iff.mp hz
    obtain ⟨v, rfl, hv⟩ := one_of hd
    obtain ⟨p, rfl, hp⟩ := lst_bools hv hn
    exact cr_all hc pins s σ H _ us Q I r ⟨p, ns, rfl, (sg.seq hp), q _ G H (Ps.refl sg) (.bl _)⟩
  · cases hz
theorem cd_any (hc : X.calm = true) : CallD K X (.builtin "any") anyM := fun hK => by
  subst hK
  intro pins s σ H xs us Q I r h
  obtain ⟨G, ds, z, sg, hd, hz, q⟩ := h
  unfold anyM at hz
  split at hz
  · obtain ⟨ns, hn, rfl⟩ := Option.map_eq_some_iff.mp hz
    obtain ⟨v, rfl, hv⟩ := one_of hd
    obtain ⟨p, rfl, hp⟩ := lst_bools hv hn
    exact cr_any hc pins s σ H _ us Q I r ⟨p, ns, rfl, (sg.seq hp), q _ G H (Ps.refl sg) (.bl _)⟩
  · cases hz
theorem cd_int : CallD K X (.type "int") intM := fun hK => by
  intro pins s σ H xs us Q I r h
  obtain ⟨G, ds, z, sg, hd, hz, q⟩ := h
  unfold intM at hz
  split at hz
  · cases hz
    obtain ⟨v, rfl, hv⟩ := one_of hd
    cases hv
    exact call_int1 pins s σ H _ us Q I r (.inl ⟨_, rfl, q _ G H (Ps.refl sg) (.int _)⟩)
  · cases hz
    obtain ⟨v, rfl, hv⟩ := one_of hd
    cases hv
    exact call_int1 pins s σ H _ us Q I r (.inr ⟨_, rfl, q _ G H (Ps.refl sg) (.int _)⟩)
  · cases hz
theorem cd_bool : CallD K X (.type "bool") boolM := fun hK => by
  intro pins s σ H xs us Q I r h
  obtain ⟨G, ds, z, sg, hd, hz, q⟩ := h
  unfold boolM at hz
  split at hz
  · cases hz
    obtain ⟨v, rfl, hv⟩ := one_of hd
    cases hv
    exact call_bool1 pins s σ H _ us Q I r (.inl ⟨_, rfl, q _ G H (Ps.refl sg) (.bl _)⟩)
  · cases hz
    obtain ⟨v, rfl, hv⟩ := one_of hd
    cases hv
    exact call_bool1 pins s σ H _ us Q I r (.inr ⟨_, rfl, q _ G H (Ps.refl sg) (.bl _)⟩)
  · cases hz
theorem cd_str : CallD K X (.type "str") strM := fun hK => by
  intro pins s σ H xs us Q I r h
  obtain ⟨G, ds, z, sg, hd, hz, q⟩ := h
  unfold strM at hz
  split at hz
  · split at hz
    · rename_i hl
      cases hz
      obtain ⟨v, rfl, hv⟩ := one_of hd
      cases hv
      exact call_str_int pins s σ H _ us Q I r ⟨_, rfl, Nat.lt_of_lt_of_le (PySem.Flt.log2_lt_of (by decide) hl) (by decide), q _ G H (Ps.refl sg) (.str _)⟩
    · cases hz
  · cases hz
theorem cd_tuple : CallD K X (.type "tuple") tupleM := fun hK => by
  subst hK
  intro pins s σ H xs us Q I r h
  obtain ⟨G, ds, z, sg, hd, hz, q⟩ := h
  unfold tupleM at hz
  split at hz
  · cases hz
    obtain ⟨v, rfl, hv⟩ := one_of hd
    cases hv with
    | lst hs ha => exact call_tuple_of pins s σ H _ us Q I r ⟨_, _, rfl, .inl ⟨(sg.seq hs), fun p n => q _ _ _ (Ps.new sg (same_new n) n upd_same) (.tup (.inl (.inl upd_same)) (ha.sm (same_new (sg.free n))))⟩⟩
  · cases hz
    obtain ⟨v, rfl, hv⟩ := one_of hd
    cases hv with
    | tup hs ha => exact call_tuple_of pins s σ H _ us Q I r ⟨_, _, rfl, .inr ⟨Lk.Same.tup sg hs, q _ _ _ (Ps.refl sg) (.tup hs ha)⟩⟩
  · cases hz
theorem cf_list : CallF K X (.type "list") listM := fun hK => by
  subst hK
  intro pins s σ H xs us Q I r h
  obtain ⟨G, ds, z, sg, hd, hz, q⟩ := h
  unfold listM at hz
  split at hz
  · cases hz
    obtain ⟨v, rfl, hv⟩ := one_of hd
    cases hv with
    | lst hs ha => exact call_listN pins s σ H _ us Q I r ⟨_, _, rfl, .inl ((sg.seq hs)), fun p H' sm n e => q p _ G H' (Ps.of_same sg sm) (sg.free n) n e ha⟩
  · cases hz
    obtain ⟨v, rfl, hv⟩ := one_of hd
    cases hv with
    | tup hs ha => exact call_listN pins s σ H _ us Q I r ⟨_, _, rfl, .inr (Lk.Same.tup sg hs), fun p H' sm n e => q p _ G H' (Ps.of_same sg sm) (sg.free n) n e ha⟩
  · cases hz
theorem cf_sorted : CallF K X (.builtin "sorted") sortedM := fun hK => by
  subst hK
  intro pins s σ H xs us Q I r h
  obtain ⟨G, ds, z, sg, hd, hz, q⟩ := h
  unfold sortedM at hz
  split at hz
  · obtain ⟨ns, hn, rfl⟩ := Option.map_eq_some_iff.mp hz
    obtain ⟨v, rfl, hv⟩ := one_of hd
    obtain ⟨p, rfl, hp⟩ := lst_ints hv hn
    refine cr_sortedI pins s σ H _ us Q I r ⟨p, ns, rfl, (sg.seq hp), fun ns' l pm hw nl => ?_⟩
    have e : ns' = sortI ns := sorted_is pm hw
    subst e
    exact q l _ G _ (Ps.of_same sg (same_new nl)) (sg.free nl) nl upd_same (DqAll.ints _)
  · cases hz
end
/-! ## what is walked -/
def Gives (K : PySem.W.Frag) (J : It) (items : List PyData) (G : Hp) : Prop := ∀ (i : Nat) (H' G1 : Hp), Same G G1 → Same G1 H' →
  (∀ d, items[i]? = some d → J.go i H' ∧ ∀ x H'', J.yld i H' x H'' → ∃ G2, Ps G1 H' G2 H'' ∧ Dq K G2 x d) ∧ (items.length ≤ i → J.stop i H')
def rIt (K : PySem.W.Frag) : RR It (List PyData) := fun _ _ _ G _ J items => Gives K J items G
instance {K : PySem.W.Frag} : Anti (rIt K) := ⟨fun _ h => h⟩
structure DI (K : PySem.W.Frag) (E : XE) (X : Cx) (tg iter : Expr) (m : M (List PyData)) : Prop where
  pi : X.K = K → PI X tg iter (tM K E (rIt K) m)
theorem PI.imp {X : Cx} {tg iter : Expr} {t t' : TI} (h : PI X tg iter t) (i : ∀ σ H Q, t' σ H Q → t σ H Q) : PI X tg iter t' := ⟨fun pins s σ H Q I q => h.run pins s σ H Q I (i _ _ _ q)⟩
def asSeq : PyData → Option (List PyData)
  | .list ds => some ds
  | .tuple ds => some ds
  | _ => none
section
variable {K : PySem.W.Frag} {E : XE} {X : Cx} {tg a b e : Expr} {es : List Expr} {ma mb : M PyData} {m : M (List PyData)} {pos : Pos}
theorem gives_list {G : Hp} {a : Addr} {xs : List V} {ds : List PyData} (hs : SqL K G a xs) (ha : DqAll K G xs ds) : Gives K (Itl K a) ds G := fun i H' G1 s1 s2 => by
  have hq : SqL K H' a xs := s2.seq (s1.seq hs)
  refine ⟨fun d hd => ?_, fun hl => ⟨xs, hq, by rw [ha.length]; exact hl⟩⟩
  obtain ⟨v, h1, h2⟩ := ha.get hd
  refine ⟨⟨xs, v, hq, h1⟩, fun x H'' y => ?_⟩
  obtain ⟨rfl, y⟩ := y
  rw [y xs hq] at h1
  cases h1
  exact ⟨G1, Ps.refl s2, h2.sm s1⟩
theorem gives_tup {G : Hp} {a : Addr} {xs : List V} {ds : List PyData} (hs : SqT K G a xs) (ha : DqAll K G xs ds) : Gives K (Itt K a) ds G := fun i H' G1 s1 s2 => by
  have hq : SqT K H' a xs := Lk.Same.tup s2 (Lk.Same.tup s1 hs)
  refine ⟨fun d hd => ?_, fun hl => ⟨xs, hq, by rw [ha.length]; exact hl⟩⟩
  obtain ⟨v, h1, h2⟩ := ha.get hd
  refine ⟨⟨xs, v, hq, h1⟩, fun x H'' y => ?_⟩
  obtain ⟨rfl, y⟩ := y
  rw [y xs hq] at h1
  cases h1
  exact ⟨G1, Ps.refl s2, h2.sm s1⟩
theorem di_seq (hl : DE K E X e ma) : DI K E X tg e (ma.bind fun d => M.lift (asSeq d)) := ⟨fun hK => by
  subst hK
  refine ⟨fun pins s σ H R I h => ?_⟩
  obtain ⟨F, O, G, r, out, P, em, f⟩ := h
  have q := tM.run (Q1 := fun (x : V) H1 => (∃ a, x = V.ref a ∧ (∃ xs, SqL X.K H1 a xs) ∧ R (Itl X.K a) H1) ∨ ∃ a, x = V.ref a ∧ (∃ xs, SqT X.K H1 a xs) ∧ R (Itt X.K a) H1) (R1 := rD X.K) P f em fun d r1 x G1 H1 P1 g1 q1 e1 f1 => by
    obtain ⟨ds, hz, rfl⟩ := lift_ok e1
    cases d <;> first | cases hz | skip
    · cases q1 with
      | lst hs ha => exact .inl ⟨_, rfl, ⟨_, (P1.sub.seq hs)⟩, f1.ok (Ps.refl P1.sub) P1 (gives_list hs ha)⟩
    · cases q1 with
      | tup hs ha => exact .inr ⟨_, rfl, ⟨_, Lk.Same.tup P1.sub hs⟩, f1.ok (Ps.refl P1.sub) P1 (gives_tup hs ha)⟩
  refine thn ((hl.pe rfl).run pins s σ H _ I q) fun v s1 ⟨x, H1, I1, r1, q1⟩ => ?_
  rcases q1 with ⟨a, e, ⟨xs, hq⟩, q⟩ | ⟨a, e, ⟨xs, hq⟩, q⟩
  · subst e
    cases r1
    obtain ⟨its, rv, p, hz⟩ := I1.list hq
    refine wpAny_pyIter_list p.isList ?_
    refine ⟨s1.heap.objs.size, [s1.heap.objs.size], _, _, H1, rfl, I1.kept (t' := s1.toks) fun b o e => Heap.get?_push_of_some _ e, turn_list a _, ⟨_, Heap.get?_push_size _ rfl, rfl, rfl⟩, fun b hb => ?_, q⟩
    have e : b = s1.heap.objs.size := by simpa using hb
    subst e
    exact I1.fpOk (Nat.le_refl _) (I1.hok.fresh (Nat.le_refl _))
  · subst e
    cases r1
    obtain ⟨its, rv, p, hz⟩ := I1.tuple hq
    refine wpAny_pyIter_tuple (show s1.heap.IsTuple a its.toArray from p) ?_
    refine ⟨s1.heap.objs.size, [s1.heap.objs.size], _, _, H1, rfl, I1.kept (t' := s1.toks) fun b o e => Heap.get?_push_of_some _ e, turn_tuple a _, ⟨_, Heap.get?_push_size _ rfl, rfl, rfl⟩, fun b hb => ?_, q⟩
    have e : b = s1.heap.objs.size := by simpa using hb
    subst e
    exact I1.fpOk (Nat.le_refl _) (I1.hok.fresh (Nat.le_refl _))⟩
def rngL (lo : Int) (n : Nat) : List PyData := (List.range n).map fun i => .int (lo + (i : Nat))
def rngM : List PyData → Option (List PyData)
  | [.int j] => if j.natAbs ≤ 1000000 then some (rngL 0 j.toNat) else none
  | [.int i, .int j] => if i.natAbs ≤ 1000000 ∧ j.natAbs ≤ 1000000 then some (rngL i (j - i).toNat) else none
  | _ => none
theorem rngL_at {lo : Int} {n i : Nat} {d : PyData} (h : (rngL lo n)[i]? = some d) : i < n ∧ d = .int (lo + (i : Nat)) := by
  unfold rngL at h
  rw [List.getElem?_map] at h
  obtain ⟨k, h1, rfl⟩ := Option.map_eq_some_iff.mp h
  obtain ⟨h2, h3⟩ := List.getElem?_eq_some_iff.mp h1
  rw [List.length_range] at h2
  rw [List.getElem_range] at h3
  exact ⟨h2, by rw [h3]⟩
theorem gives_range {G : Hp} {lo : Int} {n : Nat} : Gives K (Itr lo n) (rngL lo n) G := fun i H' G1 s1 s2 => by
  refine ⟨fun d hd => ?_, fun hl => ?_⟩
  · obtain ⟨h1, rfl⟩ := rngL_at hd
    refine ⟨h1, fun x H'' y => ?_⟩
    obtain ⟨rfl, rfl⟩ := y
    exact ⟨G1, Ps.refl s2, .int _⟩
  · rw [rngL, List.length_map, List.length_range] at hl
    exact hl
theorem di_range1 {p : Pos} (hg : Gl X "range") (hm : X.mg "range" = none) (ha : DA K E X [a] m) (hs : starEach [a] X.env = [(false, eval a X.env)] := by rfl) : DI K E X tg (.Call (.Name "range" p) [a] [] pos) (m.bind fun ds => M.lift (if ds.length = 1 then rngM ds else none)) :=
  ⟨fun hK => PI.imp (pi_range1 hg hm (ha.pa hK) hs) fun σ H Q ⟨F, O, G, r, out, P, em, f⟩ => by
  refine tM.run P f em fun ds r1 xs G1 H1 P1 g1 q1 e1 f1 => ?_
  obtain ⟨z, hz, rfl⟩ := lift_ok e1
  split at hz
  · unfold rngM at hz
    split at hz
    · split at hz
      · rename_i hl
        cases hz
        obtain ⟨v, rfl, hv⟩ := one_of q1
        cases hv
        exact ⟨_, rfl, by omega, by omega, f1.ok (Ps.refl P1.sub) P1 gives_range⟩
      · cases hz
    · rename_i h2
      cases h2
    · cases hz
  · cases hz⟩
theorem di_range2 {p : Pos} (hg : Gl X "range") (hm : X.mg "range" = none) (ha : DA K E X [a, b] m) (hs : starEach [a, b] X.env = [(false, eval a X.env), (false, eval b X.env)] := by rfl) (hs2 : starEach [b] X.env = [(false, eval b X.env)] := by rfl) :
    DI K E X tg (.Call (.Name "range" p) [a, b] [] pos) (m.bind fun ds => M.lift (if ds.length = 2 then rngM ds else none)) :=
  ⟨fun hK => PI.imp (pi_range2 hg hm (ha.pa hK) hs hs2) fun σ H Q ⟨F, O, G, r, out, P, em, f⟩ => by
  refine tM.run P f em fun ds r1 xs G1 H1 P1 g1 q1 e1 f1 => ?_
  obtain ⟨z, hz, rfl⟩ := lift_ok e1
  split at hz
  · unfold rngM at hz
    split at hz
    · rename_i h2
      cases h2
    · split at hz
      · rename_i hl
        cases hz
        obtain ⟨v, w, rfl, hv, hw⟩ := two_of q1
        cases hv; cases hw
        exact ⟨_, _, rfl, ⟨by omega, by omega, by omega, by omega⟩, f1.ok (Ps.refl P1.sub) P1 gives_range⟩
      · cases hz
    · cases hz
  · cases hz⟩
end
end DL
namespace DL
open PySem PySem.Spec PyProof.Rows L2 Lk
/-! ## names change -/
section
variable {K : PySem.W.Frag} {F : Fm} {O : Ow} {G G' H H' : Hp} {σ : L2.St} {r : En}
/-- slot i gets the cell c, the value v; it is no list of our own -/
theorem Rp.put (R : Rp K F O G σ H r) {i : Nat} (o : O i = none) {v : Option V} {c : Cel} (hc : c = .un ∨ ∃ d x, c = .pl d ∧ v = some x ∧ Dq K G x d) : Rp K F O G (σ.set i v) H (r.set i c) := by
  have co : ∀ (j : Nat) (ds : List PyData), (r.set i c)[j]? = some (Cel.ow ds) ∨ (r.set i c)[j]? = some (Cel.io ds) → j ≠ i := fun j ds e z => by
    subst z
    have nc : ∀ ds, c ≠ .ow ds ∧ c ≠ .io ds := fun ds => by
      rcases hc with rfl | ⟨d, x, rfl, _⟩
      · exact ⟨fun z => Cel.noConfusion z, fun z => Cel.noConfusion z⟩
      · exact ⟨fun z => Cel.noConfusion z, fun z => Cel.noConfusion z⟩
    rw [List.getElem?_set] at e
    simp only [if_true] at e
    split at e
    · rcases e with e | e
      · exact (nc ds).1 (Option.some.inj e)
      · exact (nc ds).2 (Option.some.inj e)
    · rcases e with e | e <;> cases e
  refine ⟨R.sub, by rw [List.length_set, List.length_set]; exact R.len, fun j d e => ?_, fun j ds e => ?_, fun j ds e => ?_, fun j p e => ?_, R.inj, R.old, R.nf, R.g0, R.gn⟩
  · by_cases z : i = j
    · subst z
      have li : i < r.length := by
        have := (List.getElem?_eq_some_iff.mp e).1
        rw [List.length_set] at this
        exact this
      rw [List.getElem?_set_self li] at e
      cases e
      rcases hc with h | ⟨d', x, h, rfl, hd⟩
      · cases h
      · cases h
        exact ⟨x, by rw [List.getElem?_set_self (by rw [R.len]; exact li)], hd⟩
    · rw [List.getElem?_set_ne z] at e ⊢
      exact R.pl j d e
  · have z := co j ds (.inl e)
    rw [List.getElem?_set_ne (Ne.symm z)] at e ⊢
    exact R.ow j ds e
  · have z := co j ds (.inr e)
    rw [List.getElem?_set_ne (Ne.symm z)] at e ⊢
    exact R.io j ds e
  · obtain ⟨⟨c', h1, h2⟩, h3⟩ := R.on j p e
    have z : i ≠ j := fun z => by rw [← z, o] at e; cases e
    exact ⟨⟨c', by rw [List.getElem?_set_ne z]; exact h1, h2⟩, h3⟩
theorem Rp.forget (R : Rp K F O G (σ.set i none) H r) (o : O i = none) : Rp K F O G σ H (r.set i .un) := by
  have P := R.put (i := i) o (v := none) (c := .un) (.inl rfl)
  rw [List.set_set] at P
  refine ⟨P.sub, by have := P.len; rw [List.length_set] at this; exact this, fun j d e => ?_, fun j ds e => ?_, fun j ds e => ?_, P.on, P.inj, P.old, P.nf, P.g0, P.gn⟩
  · have z : i ≠ j := fun z => by
      subst z
      have li := (List.getElem?_eq_some_iff.mp e).1
      rw [List.length_set] at li
      rw [List.getElem?_set_self li] at e
      cases e
    have := P.pl j d e
    rw [List.getElem?_set_ne z] at this
    exact this
  · have z : i ≠ j := fun z => by
      subst z
      have li := (List.getElem?_eq_some_iff.mp e).1
      rw [List.length_set] at li
      rw [List.getElem?_set_self li] at e
      cases e
    have := P.ow j ds e
    rw [List.getElem?_set_ne z] at this
    exact this
  · have z : i ≠ j := fun z => by
      subst z
      have li := (List.getElem?_eq_some_iff.mp e).1
      rw [List.length_set] at li
      rw [List.getElem?_set_self li] at e
      cases e
    have := P.io j ds e
    rw [List.getElem?_set_ne z] at this
    exact this
/-- slot i is given a cell that its value bears -/
theorem Rp.tell (R : Rp K F O G σ H r) (o : O i = none) {c : Cel} (hc : c = .un ∨ ∃ d x, c = .pl d ∧ σ[i]? = some (some x) ∧ Dq K G x d) : Rp K F O G σ H (r.set i c) := by
  rcases hc with rfl | ⟨d, x, rfl, hx, hd⟩
  · have P := R.put o (v := none) (c := .un) (.inl rfl)
    have Q := Rp.forget P o
    rw [List.set_set] at Q
    exact Q
  · have P := R.put o (v := some x) (c := .pl d) (.inr ⟨d, x, rfl, rfl, hd⟩)
    rw [show σ.set i (some x) = σ from ?_] at P
    · exact P
    · have li := (List.getElem?_eq_some_iff.mp hx).1
      have e := (List.getElem?_eq_some_iff.mp hx).2
      rw [← e, List.set_getElem_self]
def wipeE (r : En) : List Nat → En
  | [] => r
  | v :: vs => (wipeE r vs).set v .un
theorem Rp.wipe : ∀ {vs : List Nat}, Rp K F O G σ H r → (∀ v ∈ vs, O v = none) → Rp K F O G (L2.wipe σ vs) H (wipeE r vs)
  | [], R, _ => R
  | _ :: _, R, o => (Rp.wipe R fun w hw => o w (List.mem_cons_of_mem _ hw)).put (o _ (List.mem_cons_self ..)) (.inl rfl)
def restE (r : En) : En → List Nat → En
  | r', [] => r'
  | r', v :: vs => (restE r (r'.set v .un) vs).set v ((r[v]?).getD .un)
theorem Rp.rest {r0 : En} : ∀ {vs : List Nat} {r' : En}, (∀ v ∈ vs, ∀ d, r0[v]? = some (Cel.pl d) → ∃ x, σ[v]? = some (some x) ∧ Dq K G x d) → (∀ v ∈ vs, ∀ ds, r0[v]? ≠ some (Cel.ow ds) ∧ r0[v]? ≠ some (Cel.io ds)) →
    Rp K F O G (L2.wipe σ vs) H r' → (∀ v ∈ vs, O v = none) → Rp K F O G σ H (restE r0 r' vs)
  | [], _, _, _, R, _ => R
  | v :: vs, r', h1, h2, R, o => by
    have ov := o v (List.mem_cons_self ..)
    have R1 : Rp K F O G (L2.wipe σ vs) H (r'.set v .un) := Rp.forget R ov
    refine (Rp.rest (fun w hw => h1 w (List.mem_cons_of_mem _ hw)) (fun w hw => h2 w (List.mem_cons_of_mem _ hw)) R1 fun w hw => o w (List.mem_cons_of_mem _ hw)).tell ov ?_
    cases e : r0[v]? with
    | none => exact .inl rfl
    | some c =>
      cases c with
      | un => exact .inl rfl
      | pl d =>
        obtain ⟨x, hx, hd⟩ := h1 v (List.mem_cons_self ..) d e
        exact .inr ⟨d, x, rfl, hx, hd⟩
      | ow ds => exact absurd e (h2 v (List.mem_cons_self ..) ds).1
      | io ds => exact absurd e (h2 v (List.mem_cons_self ..) ds).2
/-- an object that nobody sees is written -/
theorem Rp.wr (R : Rp K F O G σ H r) {D : Addr} {o : HO} (g : G D = none) (h0 : F.H0 D = none) (ho : ∀ i, O i ≠ some D) : Rp K F O G σ (upd H D o) r where
  sub := fun c x e => by
    rw [upd_ne (ne_of_none e g)]
    exact R.sub _ _ e
  len := R.len
  pl := R.pl
  ow := fun i ds e => by
    obtain ⟨p, xs, h1, h2, h3, h4, h5⟩ := R.ow i ds e
    exact ⟨p, xs, h1, h2, h3, by rw [upd_ne fun z => ho i (by rw [h1, z])]; exact h4, h5⟩
  io := fun i ds e => by
    obtain ⟨p, xs, h0, h1, h2, h4, h5⟩ := R.io i ds e
    exact ⟨p, xs, h0, h1, h2, by rw [upd_ne fun z => ho i (by rw [h1, z])]; exact h4, h5⟩
  on := fun i p e => by
    obtain ⟨h1, h2, h3, h4⟩ := R.on i p e
    exact ⟨h1, h2, by rw [upd_ne fun z => ho i (by rw [e, z])]; exact h3, h4⟩
  inj := R.inj
  old := fun c x e n => by
    rw [upd_ne (ne_of_none e h0)]
    exact R.old c x e n
  nf := fun c e => by
    by_cases z : c = D
    · rw [z]
      exact h0
    · rw [upd_ne z] at e
      exact R.nf c e
  g0 := R.g0
  gn := R.gn
theorem Go.wr {G1 H1 : Hp} (g : Go O G1 H1 G H) {D : Addr} {o : HO} (n : H1 D = none) : Go O G1 H1 G (upd H D o) := by
  refine ⟨g.gg, fun c x e no => ?_, g.gn, fun c e => ?_⟩
  · rw [upd_ne (ne_of_none e n)]
    exact g.keep c x e no
  · by_cases z : c = D
    · rw [z]
      exact n
    · rw [upd_ne z] at e
      exact g.nf c e
end
/-! ## targets -/
def gN (i : Nat) : PyData → En → Option En := fun d r => match r[i]? with
  | some c => if c.own then none else some (r.set i (.pl d))
  | none => none
def tG (K : PySem.W.Frag) (ts : List Nat) (g : PyData → En → Option En) : TG := fun x σ H Q => ∃ F O G r r' d, Rp K F O G σ H r ∧ Dq K G x d ∧ g d r = some r' ∧
  ∀ σ', Rp K F O G σ' H r' → σ'.length = σ.length → (∀ j, j ∉ ts → σ'[j]? = σ[j]?) → Q σ' H
structure DG (K : PySem.W.Frag) (X : Cx) (tg : Expr) (ts : List Nat) (g : PyData → En → Option En) : Prop where
  pg : X.K = K → PG X tg (tG K ts g)
theorem PG.imp {X : Cx} {tg : Expr} {t t' : TG} (h : PG X tg t) (i : ∀ v σ H Q, t' v σ H Q → t v σ H Q) : PG X tg t' := ⟨fun pins s σ H v u Q I r q => h.run pins s σ H v u Q I r (i _ _ _ _ q)⟩
theorem PGs.imp {X : Cx} {tg : List Expr} {t t' : TGs} (h : PGs X tg t) (i : ∀ v σ H Q, t' v σ H Q → t v σ H Q) : PGs X tg t' := ⟨fun pins s σ H v u Q I r q => h.run pins s σ H v u Q I r (i _ _ _ _ q)⟩
def gNilD : List PyData → En → Option En := fun ds r => if ds.isEmpty then some r else none
def gConsD (g : PyData → En → Option En) (h : List PyData → En → Option En) : List PyData → En → Option En := fun ds r => match ds with
  | [] => none
  | d :: ds => (g d r).bind (h ds)
def tGs (K : PySem.W.Frag) (ts : List Nat) (g : List PyData → En → Option En) : TGs := fun xs σ H Q => ∃ F O G r r' ds, Rp K F O G σ H r ∧ DqAll K G xs ds ∧ g ds r = some r' ∧
  ∀ σ', Rp K F O G σ' H r' → σ'.length = σ.length → (∀ j, j ∉ ts → σ'[j]? = σ[j]?) → Q σ' H
structure DGs (K : PySem.W.Frag) (X : Cx) (tg : List Expr) (ts : List Nat) (g : List PyData → En → Option En) : Prop where
  pg : X.K = K → PGs X tg (tGs K ts g)
def gTupD (n : Nat) (g : List PyData → En → Option En) : PyData → En → Option En := fun d r => match d with
  | .tuple ds => if ds.length = n then g ds r else none
  | _ => none
section
variable {K : PySem.W.Frag} {X : Cx} {pos : Pos}
theorem Rp.not_own {F : Fm} {O : Ow} {G H : Hp} {σ : L2.St} {r : En} (R : Rp K F O G σ H r) {i : Nat} {c : Cel} (e : r[i]? = some c) (n : ¬ c.own = true) : O i = none := by
  cases q : O i with
  | none => rfl
  | some p =>
    obtain ⟨⟨c', h1, h2⟩, _⟩ := R.on i p q
    rw [e] at h1
    cases h1
    exact absurd h2 n
theorem dg_name (i : Nat) {x : Str} (hN : X.N.Nodup) (hi : X.N[i]? = some x) (hx : Loc X.env.scope x) (hf : X.fn x = true ∨ X.env.scope.names.lookup x = some .local := by first | exact .inl rfl | exact .inr rfl | assumption) : DG K X (.Name x pos) [i] (gN i) :=
  ⟨fun hK => PG.imp (pg_name hN hi hx hf) fun v σ H Q ⟨F, O, G, r, r', d, P, hd, hg, q⟩ => by
  unfold gN at hg
  split at hg
  · rename_i c e
    split at hg
    · cases hg
    · rename_i n
      cases hg
      refine q _ (P.put (P.not_own e n) (.inr ⟨d, v, rfl, rfl, hd⟩)) (List.length_set ..) fun j hj => ?_
      rw [List.getElem?_set_ne]
      intro z
      exact hj (by rw [z]; exact List.mem_cons_self ..)
  · cases hg⟩
theorem dgs_nil : DGs K X [] [] gNilD := ⟨fun hK => PGs.imp pgs_nil fun v σ H Q ⟨F, O, G, r, r', ds, P, hd, hg, q⟩ => by
  unfold gNilD at hg
  split at hg
  · rename_i he
    cases hg
    cases ds with
    | nil =>
      cases hd
      exact ⟨rfl, q _ P rfl fun _ _ => rfl⟩
    | cons _ _ => cases he
  · cases hg⟩
theorem dgs_cons {e : Expr} {es : List Expr} {ts us : List Nat} {g : PyData → En → Option En} {h : List PyData → En → Option En} (h1 : DG K X e ts g) (h2 : DGs K X es us h)
    (hs : (assignEach (e :: es) X.env).map (·.2) = assign e X.env :: (assignEach es X.env).map (·.2) := by rfl) : DGs K X (e :: es) (ts ++ us) (gConsD g h) := ⟨fun hK => PGs.imp (pgs_cons (h1.pg hK) (h2.pg hK) hs) fun v σ H Q ⟨F, O, G, r, r', ds, P, hd, hg, q⟩ => by
  cases ds with
  | nil => cases hg
  | cons d ds =>
    cases hd with
    | cons hd1 hd2 =>
      obtain ⟨r1, e1, e2⟩ := Option.bind_eq_some_iff.mp hg
      refine ⟨_, _, rfl, F, O, G, r, r1, d, P, hd1, e1, fun σ' P' l' k' => ?_⟩
      exact ⟨F, O, G, r1, r', ds, P', hd2, e2, fun σ2 P2 l2 k2 => q σ2 P2 (l2.trans l') fun j hj => by
        rw [List.mem_append, not_or] at hj
        rw [k2 j hj.2, k' j hj.1]⟩⟩
theorem dg_tup {es : List Expr} {k : Nat} {n : Nat} {ts : List Nat} {g : List PyData → En → Option En} (hc : X.calm = true) (h : DGs K X es ts g)
    (hn : (assignEach es X.env).length = n := by rfl) (hst : (assignEach es X.env).findIdx? (·.1) = none := by rfl) : DG K X (.Tuple es k pos) ts (gTupD n g) := ⟨fun hK => by
  subst hK
  refine PG.imp (pg_tup hc (h.pg rfl) hn hst) fun v σ H Q ⟨F, O, G, r, r', d, P, hd, hg, q⟩ => ?_
  unfold gTupD at hg
  split at hg
  · split at hg
    · rename_i hl
      cases hd with
      | tup hs ha => exact ⟨_, _, rfl, Lk.Same.tup P.sub hs, by rw [ha.length]; exact hl, F, O, G, r, r', _, P, ha, hg, q⟩
    · cases hg
  · cases hg⟩
end
/-! ## comprehensions -/
def lcGo (vs : List Nat) (g : PyData → En → Option En) (mt : M Bool) (me : M PyData) : List PyData → En → Option (List PyData × En)
  | [], r => some ([], wipeE r vs)
  | x :: xs, r => (g x (wipeE r vs)).bind fun r1 => match mt r1 with
    | some (.ok true r2) => (match me r2 with
      | some (.ok d r3) => (lcGo vs g mt me xs r3).map fun z => (d :: z.1, z.2)
      | _ => none)
    | some (.ok false r2) => lcGo vs g mt me xs r2
    | _ => none
def freeAt (r : En) (vs : List Nat) : Bool := vs.all fun v => match r[v]? with
  | some c => !c.own
  | none => true
def mLc (vs : List Nat) (mi : M (List PyData)) (g : PyData → En → Option En) (mt : M Bool) (me : M PyData) : M (List PyData) := mi.bind fun items r =>
  if freeAt r vs && decide (items.length ≤ 1000000) then (lcGo vs g mt me items r).map fun z => .ok z.1 (restE r z.2 vs) else none
abbrev mYes : M Bool := M.ret true
structure DTs (K : PySem.W.Frag) (X : Cx) (ifs : List Expr) (m : M Bool) : Prop where
  pt : X.K = K → PTs X ifs (tM K XN rB m)
theorem PTs.imp {X : Cx} {es : List Expr} {t t' : TT} (h : PTs X es t) (i : ∀ σ H Q, t' σ H Q → t σ H Q) : PTs X es t' := ⟨fun pins s σ H Q I q => h.run pins s σ H Q I (i _ _ _ q)⟩
section
variable {K : PySem.W.Frag} {E : XE} {X : Cx} {pos : Pos}
theorem dts_nil : DTs K X [] mYes := ⟨fun _ => PTs.imp pts_nil fun σ H Q ⟨F, O, G, r, out, P, em, f⟩ => by
  cases em
  exact f.ok (Ps.refl P.sub) P rfl⟩
theorem dts_one {c : Expr} {m : M Bool} (h : DT K XN X c m) : DTs K X [c] m := ⟨fun hK => pts_one (h.pt hK)⟩
theorem free_own {F : Fm} {O : Ow} {G H : Hp} {σ : L2.St} {r : En} {vs : List Nat} (R : Rp K F O G σ H r) (h : freeAt r vs = true) : ∀ v ∈ vs, O v = none := fun v hv => by
  have q := List.all_eq_true.mp h v hv
  cases z : O v with
  | none => rfl
  | some p =>
    obtain ⟨⟨c, h1, h2⟩, _⟩ := R.on v p z
    rw [h1] at q
    simp only [h2] at q
    cases q
theorem wipe_eq {σ σ' : L2.St} (hl : σ'.length = σ.length) : ∀ {vs : List Nat}, (∀ j, j ∉ vs → σ'[j]? = σ[j]?) → L2.wipe σ' vs = L2.wipe σ vs := fun {vs} h => by
  refine List.ext_getElem? fun j => ?_
  by_cases hj : j ∈ vs
  · have w : ∀ {σ : L2.St} {vs : List Nat}, j ∈ vs → (L2.wipe σ vs)[j]? = if j < σ.length then some none else none := fun {σ vs} => by
      induction vs with
      | nil => intro h; cases h
      | cons v vs ih =>
        intro h
        show ((L2.wipe σ vs).set v none)[j]? = _
        by_cases e : v = j
        · subst e
          rw [List.getElem?_set]
          simp only [if_true, wipe_length]
        · rw [List.getElem?_set_ne e]
          rcases List.mem_cons.mp h with z | z
          · exact absurd z.symm e
          · exact ih z
    rw [w hj, w hj, hl]
  · rw [wipe_out hj, wipe_out hj, h j hj]
theorem wipe_wipe {σ : L2.St} {vs : List Nat} : L2.wipe (L2.wipe σ vs) vs = L2.wipe σ vs := wipe_eq (wipe_length _ _) fun j hj => by rw [wipe_out hj]
theorem lc_run {vs ts : List Nat} {mi : M (List PyData)} {g : PyData → En → Option En} {mt : M Bool} {me : M PyData} (hts : ∀ t ∈ ts, t ∈ vs) {σ : L2.St} {H : Hp} {Q : VK} (h : tM K E (rF K) (mLc vs mi g mt me) σ H Q) :
    tLc (tM K E (rIt K) mi) (tG K ts g) (tM K XN rB mt) (tM K XN (rD K) me) vs σ H Q := by
  obtain ⟨F, O, G, r, out, P, em, f⟩ := h
  refine tM.run P f em fun items r1 J G1 H1 P1 g1 q1 e1 f1 => ?_
  split at e1
  · rename_i hcond
    rw [Bool.and_eq_true, decide_eq_true_eq] at hcond
    obtain ⟨hfree, hlen⟩ := hcond
    obtain ⟨⟨ds, r'⟩, hgo, rfl⟩ := Option.map_eq_some_iff.mp e1
    have ov := free_own P1 hfree
    intro D nD
    have hD0 : F.H0 D = none := P1.nf _ nD
    have hDo : ∀ i, O i ≠ some D := fun i z => (P1.on i D z).2.2.1 nD
    have hDG : G1 D = none := P1.sub.free nD
    refine ⟨fun i m H' => m = items.length - i ∧ i ≤ items.length ∧ ∃ G' r2 xs ds0 ds1, Rp K F O G' (L2.wipe σ vs) H' (wipeE r2 vs) ∧ Go O G1 H1 G' H' ∧ G' D = none ∧ H' D = some (.lst xs) ∧ DqAll K G' xs ds0 ∧ xs.length ≤ i ∧ lcGo vs g mt me (items.drop i) r2 = some (ds1, r') ∧ ds = ds0 ++ ds1,
      ⟨items.length, by simp, Nat.zero_le _, G1, r1, [], [], ds, ?_, ?_, hDG, upd_same, .nil, Nat.zero_le _, hgo, rfl⟩, ?_⟩
    · exact (P1.wr hDG hD0 hDo).wipe ov
    · exact Go.refl.wr nD
    rintro i m H' ⟨rfl, hi, G', r2, xs, ds0, ds1, P2, g2, gD, hD, hx, lx, hgo2, rfl⟩
    by_cases hlt : i < items.length
    · refine .inr ?_
      have e3 := List.getElem?_eq_getElem hlt
      rw [List.drop_eq_getElem_cons hlt] at hgo2
      obtain ⟨jgo, jy⟩ := (q1 i H' G' g2.gg P2.sub).1 _ e3
      refine ⟨jgo, _, fun H4 p => ⟨_, (by omega : items.length - (i + 1) < items.length - i), p⟩, fun x H'' y => ?_⟩
      obtain ⟨G2, ps, hd⟩ := jy x H'' y
      obtain ⟨r3, e4, e5⟩ := Option.bind_eq_some_iff.mp hgo2
      have g2D : G2 D = none := by
        cases z : G2 D with
        | none => rfl
        | some o =>
          rcases ps.gn D (some_ne z) with w | w
          · exact absurd gD w
          · rw [hD] at w
            cases w
      refine ⟨F, O, G2, _, r3, _, P2.ps ps, hd, e4, fun σ2 P3 l3 k3 => ⟨?_, ?_⟩⟩
      · have := wipe_eq l3 (vs := vs) fun j hj => k3 j fun z => hj (hts j z)
        rw [this, wipe_wipe]
      have w3 : L2.wipe σ2 vs = L2.wipe σ vs := by
        have := wipe_eq l3 (vs := vs) fun j hj => k3 j fun z => hj (hts j z)
        rw [this, wipe_wipe]
      have gg3 := g2.trans (ps.go (O := O))
      have hD3 := ps.hh _ _ hD
      cases em3 : mt r3 with
      | none => rw [em3] at e5; cases e5
      | some o3 =>
        rw [em3] at e5
        cases o3 with
        | ex c p => cases e5
        | ok b r4 =>
          refine ⟨F, O, G2, r3, _, P3, em3, fun b' G4 H4 P4 g4 hb => ?_⟩
          cases hb
          have hD4 := g4.keep _ _ hD3 hDo
          have gD4 : G4 D = none := by
            cases z : G4 D with
            | none => rfl
            | some o =>
              rcases g4.gn D (some_ne z) with w | w
              · exact absurd g2D w
              · rw [hD3] at w
                cases w
          have gg4 := gg3.trans g4
          cases b with
          | false =>
            refine iteF ⟨rfl, hlt, G4, r4, xs, ds0, ds1, ?_, gg4, gD4, hD4, hx.sm (ps.gg.trans g4.gg), by omega, e5, rfl⟩
            have := P4.wipe ov
            rw [w3] at this
            exact this
          | true =>
            refine iteT ?_
            cases em5 : me r4 with
            | none =>
              simp only [em5] at e5
              cases e5
            | some o5 =>
              cases o5 with
              | ex c p =>
                simp only [em5] at e5
                cases e5
              | ok d r5 =>
                simp only [em5] at e5
                obtain ⟨⟨ds2, r6⟩, hgo6, e6⟩ := Option.map_eq_some_iff.mp e5
                cases e6
                refine ⟨F, O, G4, r4, _, P4, em5, fun y G5 H5 P5 g5 hy => ?_⟩
                have hD5 := g5.keep _ _ hD4 hDo
                have gD5 : G5 D = none := by
                  cases z : G5 D with
                  | none => rfl
                  | some o =>
                    rcases g5.gn D (some_ne z) with w | w
                    · exact absurd gD4 w
                    · rw [hD4] at w
                      cases w
                refine ⟨xs, hD5, line_lt (by omega), rfl, hlt, G5, r5, xs ++ [y], ds0 ++ [d], ds2, ?_, (gg4.trans g5).wr nD, gD5, upd_same, (hx.sm ((ps.gg.trans g4.gg).trans g5.gg)).append (.cons hy .nil), by rw [List.length_append]; simp; omega, hgo6, by rw [List.append_assoc]; rfl⟩
                have := (P5.wr (o := .lst (xs ++ [y])) gD5 hD0 hDo).wipe ov
                rw [w3] at this
                exact this
    · refine .inl ?_
      have e3 : i = items.length := by omega
      subst e3
      rw [List.drop_length] at hgo2
      cases hgo2
      rw [List.append_nil] at f1
      refine ⟨(q1 _ H' G' g2.gg P2.sub).2 (Nat.le_refl _), f1 _ G' H' (Rp.rest (fun v hv d e => ?_) (fun v hv ds => ?_) P2 ov) g2 ⟨D, xs, rfl, nD, gD, hD0, hDo, hD, hx⟩⟩
      · obtain ⟨x, h1, h2⟩ := P1.pl v d e
        exact ⟨x, h1, h2.sm g2.gg⟩
      · have q := List.all_eq_true.mp hfree v hv
        refine ⟨fun e => ?_, fun e => ?_⟩
        · rw [e] at q
          cases q
        · rw [e] at q
          cases q
  · cases e1
theorem df_lc {elt tg iter : Expr} {ifs : List Expr} {scope : Scope} {own : List (Str × Nat)} {ts : List Nat} {mi : M (List PyData)} {g : PyData → En → Option En} {mt : M Bool} {me : M PyData} (hc : X.calm = true) (hN : X.N.Nodup) (hi : DI K E X tg iter mi) (ok : BlkOk X.N X.env.scope scope own)
    (hg : ∀ (s : Shared) (H : Hp) (C : Addr) (cl : List (Str × Addr)) (fp : List Addr), DG K (X.blk s H scope (compEnvC scope cl C X.env) fp) tg ts g) (ht : ∀ (s : Shared) (H : Hp) (C : Addr) (cl : List (Str × Addr)) (fp : List Addr), DTs K (X.blk s H scope (compEnvC scope cl C X.env) fp) ifs mt)
    (he : ∀ (s : Shared) (H : Hp) (C : Addr) (cl : List (Str × Addr)) (fp : List Addr), DE K XN (X.blk s H scope (compEnvC scope cl C X.env) fp) elt me) (hts : ∀ t ∈ ts, t ∈ own.map (·.2) := by decide) (hs : ∀ x, foldedSetIterable iter X.env x = pure x := by intro _; rfl) :
    DF K E X (.ListComp elt [⟨tg, iter, ifs, 0⟩] scope pos) (mLc (own.map (·.2)) mi g mt me) :=
  ⟨fun hK => PE.imp (pe_lc hc hN (hi.pi hK) ok (fun s H C cl fp => (hg s H C cl fp).pg hK) (fun s H C cl fp => (ht s H C cl fp).pt hK) (fun s H C cl fp => (he s H C cl fp).pe hK) hs) fun _ _ _ h => lc_run hts h⟩
end
end DL
namespace DL
open PySem PySem.Spec PyProof.Rows L2 Lk
/-! ## statements -/
inductive Fl where
  | nx (r : En) | rt (d : PyData) (r : En) | bk (r : En) | ct (r : En) | ex (c : Str) (p : List PyData) | rf (ds : List PyData) (r : En)
abbrev SM := En → Option Fl
def FinS (K : PySem.W.Frag) (E : XE) (F : Fm) (G : Hp) (D : Ends) : Fl → Prop
  | .nx r' => ∀ O' G' σ' H', Rp K F O' G' σ' H' r' → Same G G' → D.nx σ' H'
  | .bk r' => ∀ O' G' σ' H', Rp K F O' G' σ' H' r' → Same G G' → D.bk σ' H'
  | .ct r' => ∀ O' G' σ' H', Rp K F O' G' σ' H' r' → Same G G' → D.ct σ' H'
  | .rt d r' => ∀ O' G' σ' H' v, Rp K F O' G' σ' H' r' → Same G G' → Dq K G' v d → D.rt v H'
  | .ex c p => ∀ H', (∀ c o, F.H0 c = some o → (∀ i, F.ios i ≠ some c) → H' c = some o) → E c p H'
  | .rf ds r' => ∀ O' G' σ' H' p xs, Rp K F O' G' σ' H' r' → Same G G' → G' p = none → F.H0 p = none → H' p = some (.lst xs) → DqAll K G' xs ds → D.rt (.ref p) H'
def tS (K : PySem.W.Frag) (E : XE) (m : SM) : TS := fun D σ H => ∃ F O G r fl, Rp K F O G σ H r ∧ m r = some fl ∧ FinS K E F G D fl
structure DS (K : PySem.W.Frag) (E : XE) (X : Cx) (st : Stmt) (m : SM) : Prop where
  ps : X.K = K → PS X st (tS K E m)
structure DSs (K : PySem.W.Frag) (E : XE) (X : Cx) (st : List Stmt) (m : SM) : Prop where
  ps : X.K = K → PSs X st (tS K E m)
def sBind {α : Type} (m : M α) (k : α → SM) : SM := fun r => match m r with
  | some (.ok a r') => k a r'
  | some (.ex c p) => some (.ex c p)
  | none => none
def sNil : SM := fun r => some (.nx r)
def sSeq (a b : SM) : SM := fun r => match a r with
  | some (.nx r') => b r'
  | o => o
section
variable {X : Cx} {st : Stmt} {sts : List Stmt}
theorem PS.imp {t t' : TS} (h : PS X st t) (i : ∀ D σ H, t' D σ H → t D σ H) : PS X st t' := ⟨fun pins s σ H D I q => h.run pins s σ H D I (i _ _ _ q)⟩
theorem PSs.imp {t t' : TS} (h : PSs X sts t) (i : ∀ D σ H, t' D σ H → t D σ H) : PSs X sts t' := ⟨fun pins s σ H D I q => h.run pins s σ H D I (i _ _ _ q)⟩
end
section
variable {K : PySem.W.Frag} {E : XE} {F : Fm} {O : Ow} {G G1 H H1 : Hp} {σ : L2.St} {r : En} {α β : Type} {D : Ends} {fl : Fl}
theorem FinS.via (g : Same G G1) (f : FinS K E F G D fl) : FinS K E F G1 D fl := by
  cases fl with
  | nx r' => exact fun O' G' σ' H' p q => f O' G' σ' H' p (g.trans q)
  | bk r' => exact fun O' G' σ' H' p q => f O' G' σ' H' p (g.trans q)
  | ct r' => exact fun O' G' σ' H' p q => f O' G' σ' H' p (g.trans q)
  | rt d r' => exact fun O' G' σ' H' v p q => f O' G' σ' H' v p (g.trans q)
  | ex c p => exact f
  | rf ds r' => exact fun O' G' σ' H' p xs q s => f O' G' σ' H' p xs q (g.trans s)
theorem tS.run {R1 : RR β α} {Q1 : β → Hp → Prop} {m : M α} {k : α → SM} (P : Rp K F O G σ H r) (f : FinS K E F G D fl) (e : sBind m k r = some fl)
    (h : ∀ a r1 b G1 H1, Rp K F O G1 σ H1 r1 → Go O G H G1 H1 → R1 H O F G1 H1 b a → k a r1 = some fl → FinS K E F G1 D fl → Q1 b H1) : tM K E R1 m σ H Q1 := by
  cases em : m r with
  | none =>
    rw [sBind, em] at e
    cases e
  | some o =>
    cases o with
    | ok a r1 =>
      rw [sBind, em] at e
      exact ⟨F, O, G, r, _, P, em, fun b G1 H1 P1 g1 q => h a r1 b G1 H1 P1 g1 q e (f.via g1.gg)⟩
    | ex c p =>
      rw [sBind, em] at e
      cases e
      exact ⟨F, O, G, r, _, P, em, f⟩
end
def sExpr (m : M PyData) : SM := sBind m fun _ => sNil
def sRet (m : M PyData) : SM := sBind m fun d r => some (.rt d r)
def sRetN : SM := fun r => some (.rt .none r)
def sIf (c : M Bool) (a b : SM) : SM := sBind c fun k => if k then a else b
/-- slot i holds d from now on -/
def sPut (i : Nat) (d : PyData) : SM := fun r => match r[i]? with
  | some (.io _) => none
  | some _ => some (.nx (r.set i (.pl d)))
  | none => none
def sSet (i : Nat) (m : M PyData) : SM := sBind m (sPut i)
def sPutO (i : Nat) (ds : List PyData) : SM := fun r => match r[i]? with
  | some (.io _) => none
  | some _ => some (.nx (r.set i (.ow ds)))
  | none => none
/-- slot i owns a new list -/
def sOwn (i : Nat) (m : M (List PyData)) : SM := sBind m (sPutO i)
/-- the list in slot i is never changed again -/
def sFrz (i : Nat) (m : SM) : SM := fun r => match r[i]? with
  | some (.ow ds) => m (r.set i (.pl (.list ds)))
  | _ => m r
def ownOf : Option Cel → Option (List PyData)
  | some (.ow ds) => some ds
  | some (.io ds) => some ds
  | _ => none
def reOwn (ds : List PyData) : Cel → Cel
  | .io _ => .io ds
  | _ => .ow ds
/-- what is in the list in slot i -/
def upO (i : Nat) (ds : List PyData) (r : En) : En := match r[i]? with
  | some c => r.set i (reOwn ds c)
  | none => r
section
variable {K : PySem.W.Frag} {F : Fm} {O : Ow} {G H : Hp} {σ : L2.St} {r : En}
theorem dropO (R : Rp K F O G σ H r) {i : Nat} (hio : ∀ ds, r[i]? ≠ some (Cel.io ds)) : Rp K F (fun j => if j = i then none else O j) G σ H (r.set i .un) := by
  have ne : ∀ (j : Nat) (c : Cel), (r.set i .un)[j]? = some c → c ≠ .un → j ≠ i ∧ r[j]? = some c := fun j c e n => by
    by_cases z : i = j
    · subst z
      rw [List.getElem?_set] at e
      simp only [if_true] at e
      split at e
      · exact absurd (Option.some.inj e).symm n
      · cases e
    · rw [List.getElem?_set_ne z] at e
      exact ⟨Ne.symm z, e⟩
  refine ⟨R.sub, by rw [List.length_set]; exact R.len, fun j d e => ?_, fun j ds e => ?_, fun j ds e => ?_, fun j p e => ?_, fun a b p e1 e2 => ?_, R.old, R.nf, R.g0, R.gn⟩
  · exact R.pl j d (ne j _ e fun z => Cel.noConfusion z).2
  · obtain ⟨z, e'⟩ := ne j _ e fun z => Cel.noConfusion z
    obtain ⟨p, xs, h1, h2⟩ := R.ow j ds e'
    exact ⟨p, xs, by rw [if_neg z]; exact h1, h2⟩
  · obtain ⟨z, e'⟩ := ne j _ e fun z => Cel.noConfusion z
    obtain ⟨p, xs, h0, h1, h2⟩ := R.io j ds e'
    exact ⟨p, xs, h0, by rw [if_neg z]; exact h1, h2⟩
  · split at e
    · cases e
    · rename_i z
      obtain ⟨⟨c, h1, h2⟩, h3⟩ := R.on j p e
      exact ⟨⟨c, by rw [List.getElem?_set_ne (Ne.symm z)]; exact h1, h2⟩, h3⟩
  · split at e1
    · cases e1
    · split at e2
      · cases e2
      · exact R.inj a b p e1 e2
theorem Rp.put0 (R : Rp K F O G σ H r) {i : Nat} (hio : ∀ ds, r[i]? ≠ some (Cel.io ds)) {v : V} {d : PyData} (hd : Dq K G v d) : Rp K F (fun j => if j = i then none else O j) G (σ.set i (some v)) H (r.set i (.pl d)) := by
  have P := (dropO R hio).put (i := i) (by show (if i = i then none else O i) = none; rw [if_pos rfl]) (v := some v) (c := .pl d) (.inr ⟨d, v, rfl, rfl, hd⟩)
  rw [List.set_set] at P
  exact P
theorem Rp.own0 (R : Rp K F O G σ H r) {i : Nat} (hi : i < r.length) (hio : ∀ ds, r[i]? ≠ some (Cel.io ds)) {p : Addr} {xs : List V} {ds : List PyData} (g : G p = none) (h0 : F.H0 p = none) (ho : ∀ j, O j ≠ some p) (hp : H p = some (.lst xs)) (ha : DqAll K G xs ds) :
    Rp K F (fun j => if j = i then some p else O j) G (σ.set i (some (.ref p))) H (r.set i (.ow ds)) := by
  have P := dropO R hio
  have ne : ∀ (j : Nat) (c : Cel), (r.set i (.ow ds))[j]? = some c → j ≠ i → (r.set i .un)[j]? = some c := fun j c e z => by
    rw [List.getElem?_set_ne (Ne.symm z)] at e ⊢
    exact e
  have li : i < σ.length := by rw [R.len]; exact hi
  refine ⟨P.sub, by rw [List.length_set, List.length_set]; exact R.len, fun j d e => ?_, fun j ds' e => ?_, fun j ds' e => ?_, fun j q e => ?_, fun a b q e1 e2 => ?_, R.old, R.nf, R.g0, R.gn⟩
  · by_cases z : j = i
    · subst z
      rw [List.getElem?_set_self hi] at e
      cases e
    · obtain ⟨v, h1, h2⟩ := P.pl j d (ne j _ e z)
      exact ⟨v, by rw [List.getElem?_set_ne (Ne.symm z)]; exact h1, h2⟩
  · by_cases z : j = i
    · subst z
      rw [List.getElem?_set_self hi] at e
      cases e
      exact ⟨p, xs, by rw [if_pos rfl], by rw [List.getElem?_set_self li], h0, hp, ha⟩
    · obtain ⟨q, ys, h1, h2, h3⟩ := P.ow j ds' (ne j _ e z)
      rw [if_neg z] at h1
      exact ⟨q, ys, by rw [if_neg z]; exact h1, by rw [List.getElem?_set_ne (Ne.symm z)]; exact h2, h3⟩
  · by_cases z : j = i
    · subst z
      rw [List.getElem?_set_self hi] at e
      cases e
    · obtain ⟨q, ys, h0, h1, h2, h3⟩ := P.io j ds' (ne j _ e z)
      rw [if_neg z] at h1
      exact ⟨q, ys, h0, by rw [if_neg z]; exact h1, by rw [List.getElem?_set_ne (Ne.symm z)]; exact h2, h3⟩
  · split at e
    · rename_i z
      subst z
      cases e
      exact ⟨⟨_, List.getElem?_set_self hi, rfl⟩, g, some_ne hp, .inl h0⟩
    · rename_i z
      obtain ⟨⟨c, h1, h2⟩, h3⟩ := R.on j q e
      exact ⟨⟨c, by rw [List.getElem?_set_ne (Ne.symm z)]; exact h1, h2⟩, h3⟩
  · split at e1
    · rename_i z1
      split at e2
      · rename_i z2
        rw [z1, z2]
      · cases e1
        exact absurd e2 (ho b)
    · split at e2
      · cases e2
        exact absurd e1 (ho a)
      · exact R.inj a b q e1 e2
theorem Rp.frz (R : Rp K F O G σ H r) {i : Nat} {ds : List PyData} (e : r[i]? = some (Cel.ow ds)) : ∃ O' G', Same G G' ∧ Rp K F O' G' σ H (r.set i (.pl (.list ds))) := by
  obtain ⟨p, xs, h1, h2, h0, h3, h4⟩ := R.ow i ds e
  have hio : ∀ ds', r[i]? ≠ some (Cel.io ds') := fun ds' z => by rw [e] at z; cases z
  have gp : G p = none := (R.on i p h1).2.1
  have P := dropO R hio
  have no : ∀ j, (fun j => if j = i then none else O j) j ≠ some p := fun j z => by
    dsimp only at z
    split at z
    · cases z
    · rename_i n
      exact n (R.inj j i p z h1)
  have Q := P.see h3 gp h0 no
  have S := Q.tell (i := i) (c := .pl (.list ds)) (by show (if i = i then none else O i) = none; rw [if_pos rfl]) (.inr ⟨_, .ref p, rfl, h2, .lst (.inl (.inl upd_same)) (h4.sm (same_new gp))⟩)
  rw [List.set_set] at S
  exact ⟨_, _, same_new gp, S⟩
/-- the list of slot i -/
theorem Rp.own_at (R : Rp K F O G σ H r) {i : Nat} {ds : List PyData} (e : ownOf r[i]? = some ds) : ∃ p xs, O i = some p ∧ σ[i]? = some (some (.ref p)) ∧ H p = some (.lst xs) ∧ DqAll K G xs ds := by
  cases h : r[i]? with
  | none => rw [h] at e; cases e
  | some c =>
    rw [h] at e
    cases c with
    | ow ds' =>
      cases e
      obtain ⟨p, xs, h1, h2, _, h3, h4⟩ := R.ow i _ h
      exact ⟨p, xs, h1, h2, h3, h4⟩
    | io ds' =>
      cases e
      obtain ⟨p, xs, _, h1, h2, h3, h4⟩ := R.io i _ h
      exact ⟨p, xs, h1, h2, h3, h4⟩
    | _ => cases e
/-- the list of slot i changes -/
theorem Rp.chg (R : Rp K F O G σ H r) {i : Nat} {ds ds' : List PyData} (e : ownOf r[i]? = some ds) {p : Addr} (hp : O i = some p) {H' G' : Hp} {xs : List V} (gg : Same G G') (gh : Same G' H') (gp : G' p = none) (k : ∀ c o, c ≠ p → H c = some o → H' c = some o) (gn : ∀ c, G' c ≠ none → G c ≠ none ∨ H c = none)
    (hx : H' p = some (.lst xs)) (ha : DqAll K G' xs ds') : Rp K F O G' σ H' (upO i ds' r) ∧ Go O G H G' H' := by
  obtain ⟨c, hc, hown⟩ : ∃ c, r[i]? = some c ∧ c.own = true := by
    obtain ⟨h1, _⟩ := R.on i p hp
    exact h1
  have li := (List.getElem?_eq_some_iff.mp hc).1
  have eu : upO i ds' r = r.set i (reOwn ds' c) := by unfold upO; rw [hc]
  have hpn : H p ≠ none := (R.on i p hp).2.2.1
  have nf : ∀ c, H' c = none → H c = none := fun c e => by
    by_cases z : c = p
    · rw [z, hx] at e
      cases e
    · cases q : H c with
      | none => rfl
      | some o => rw [k c o z q] at e; cases e
  refine ⟨?_, gg, fun c o e n => k c o (fun z => n i (by rw [z]; exact hp)) e, gn, nf⟩
  rw [eu]
  have ne : ∀ (j : Nat) (c' : Cel), (r.set i (reOwn ds' c))[j]? = some c' → j ≠ i → r[j]? = some c' := fun j c' e z => by
    rw [List.getElem?_set_ne (Ne.symm z)] at e
    exact e
  refine ⟨gh, by rw [List.length_set]; exact R.len, fun j d e => ?_, fun j es e => ?_, fun j es e => ?_, fun j q e => ?_, R.inj, fun c o e n => ?_, fun c e => R.nf c (nf c e), R.g0.trans gg, fun c e => ?_⟩
  · by_cases z : j = i
    · subst z
      rw [List.getElem?_set_self li] at e
      cases c <;> cases e
    · obtain ⟨v, h1, h2⟩ := R.pl j d (ne j _ e z)
      exact ⟨v, h1, h2.sm gg⟩
  · by_cases z : j = i
    · subst z
      rw [List.getElem?_set_self li] at e
      cases c with
      | ow es' =>
        cases e
        obtain ⟨q, ys, h1, h2, h3, _⟩ := R.ow j es' hc
        rw [hp] at h1
        cases h1
        exact ⟨p, xs, hp, h2, h3, hx, ha⟩
      | io _ => cases e
      | _ => cases hown
    · obtain ⟨q, ys, h1, h2, h3, h4, h5⟩ := R.ow j es (ne j _ e z)
      exact ⟨q, ys, h1, h2, h3, k q _ (fun w => z (R.inj j i p (by rw [h1, w]) hp)) h4, h5.sm gg⟩
  · by_cases z : j = i
    · subst z
      rw [List.getElem?_set_self li] at e
      cases c with
      | io es' =>
        cases e
        obtain ⟨q, ys, h0, h1, h2, _⟩ := R.io j es' hc
        rw [hp] at h1
        cases h1
        exact ⟨p, xs, h0, hp, h2, hx, ha⟩
      | ow _ => cases e
      | _ => cases hown
    · obtain ⟨q, ys, h0, h1, h2, h4, h5⟩ := R.io j es (ne j _ e z)
      exact ⟨q, ys, h0, h1, h2, k q _ (fun w => z (R.inj j i p (by rw [h1, w]) hp)) h4, h5.sm gg⟩
  · obtain ⟨⟨c', h1, h2⟩, h3, h4, h5⟩ := R.on j q e
    refine ⟨?_, ?_, ?_, h5⟩
    · by_cases z : j = i
      · subst z
        refine ⟨_, List.getElem?_set_self li, ?_⟩
        cases c <;> first | rfl | cases hown
      · exact ⟨c', by rw [List.getElem?_set_ne (Ne.symm z)]; exact h1, h2⟩
    · cases w : G' q with
      | none => rfl
      | some o =>
        rcases gn q (some_ne w) with y | y
        · exact absurd h3 y
        · exact absurd y h4
    · intro w
      exact h4 (nf q w)
  · refine k c o (fun z => ?_) (R.old c o e n)
    subst z
    rcases (R.on i _ hp).2.2.2 with w | ⟨j, w⟩
    · rw [w] at e
      cases e
    · exact n j w
  · rcases gn c e with z | z
    · exact R.gn c z
    · exact .inr (R.nf c z)
end
section
variable {K : PySem.W.Frag} {E : XE} {X : Cx} {st : Stmt} {sts : List Stmt} {a b : SM} {m : M PyData} {mc : M Bool} {ml : M (List PyData)} {e c : Expr} {pos : Pos}
theorem dss_nil : DSs K E X [] sNil := ⟨fun _ => PSs.imp pss_nil fun D σ H ⟨F, O, G, r, fl, P, em, f⟩ => by
  cases em
  exact f O G σ H P (Same.refl _)⟩
theorem dss_cons (h1 : DS K E X st a) (h2 : DSs K E X sts b) : DSs K E X (st :: sts) (sSeq a b) := ⟨fun hK => PSs.imp (pss_cons (h1.ps hK) (h2.ps hK)) fun D σ H ⟨F, O, G, r, fl, P, em, f⟩ => by
  unfold sSeq at em
  cases ea : a r with
  | none => rw [ea] at em; cases em
  | some fa =>
    rw [ea] at em
    refine ⟨F, O, G, r, fa, P, ea, ?_⟩
    cases fa with
    | nx r' => exact fun O' G' σ' H' P' g => ⟨F, O', G', r', fl, P', em, f.via g⟩
    | rt d r' => cases em; exact f
    | bk r' => cases em; exact f
    | ct r' => cases em; exact f
    | ex c p => cases em; exact f
    | rf ds r' => cases em; exact f⟩
theorem dss_one (h : DS K E X st a) : DSs K E X [st] a := ⟨fun hK => pss_one (h.ps hK)⟩
theorem ds_expr (he : DE K E X e m) (hs : swapsWith e none pos.line X.env = pure false := by rfl) : DS K E X (.Expr e pos) (sExpr m) := ⟨fun hK => PS.imp (ps_expr (he.pe hK) hs) fun D σ H ⟨F, O, G, r, fl, P, em, f⟩ => by
  refine tS.run P f em fun d r1 x G1 H1 P1 g1 q1 e1 f1 => ?_
  cases e1
  exact f1 O G1 σ H1 P1 (Same.refl _)⟩
theorem ds_ret (he : DE K E X e m) : DS K E X (.Return (some e) pos) (sRet m) := ⟨fun hK => PS.imp (ps_ret (he.pe hK)) fun D σ H ⟨F, O, G, r, fl, P, em, f⟩ => by
  refine tS.run P f em fun d r1 x G1 H1 P1 g1 q1 e1 f1 => ?_
  cases e1
  exact f1 O G1 σ H1 x P1 (Same.refl _) q1⟩
theorem ds_retN : DS K E X (.Return none pos) sRetN := ⟨fun _ => PS.imp ps_retN fun D σ H ⟨F, O, G, r, fl, P, em, f⟩ => by
  cases em
  exact f O G σ H .non P (Same.refl _) .non⟩
theorem ds_if {sa sb : List Stmt} (hc : DT K E X c mc) (ha : DSs K E X sa a) (hb : DSs K E X sb b) : DS K E X (.If c sa sb pos) (sIf mc a b) := ⟨fun hK => PS.imp (ps_if (hc.pt hK) (ha.ps hK) (hb.ps hK)) fun D σ H ⟨F, O, G, r, fl, P, em, f⟩ => by
  refine tS.run P f em fun d r1 x G1 H1 P1 g1 q1 e1 f1 => ?_
  cases q1
  cases d with
  | true => exact iteT ⟨F, O, G1, r1, fl, P1, e1, f1⟩
  | false => exact iteF ⟨F, O, G1, r1, fl, P1, e1, f1⟩⟩
theorem ds_pass : DS K E X (.Pass pos) sNil := ⟨fun _ => PS.imp ps_pass fun D σ H ⟨F, O, G, r, fl, P, em, f⟩ => by
  cases em
  exact f O G σ H P (Same.refl _)⟩
theorem ds_break : DS K E X (.Break pos) (fun r => some (.bk r)) := ⟨fun _ => PS.imp ps_break fun D σ H ⟨F, O, G, r, fl, P, em, f⟩ => by
  cases em
  exact f O G σ H P (Same.refl _)⟩
theorem ds_continue : DS K E X (.Continue pos) (fun r => some (.ct r)) := ⟨fun _ => PS.imp ps_continue fun D σ H ⟨F, O, G, r, fl, P, em, f⟩ => by
  cases em
  exact f O G σ H P (Same.refl _)⟩
theorem ds_never : DS K E X st (fun _ => none) := ⟨fun _ => PS.imp ps_never fun D σ H ⟨F, O, G, r, fl, P, em, f⟩ => by cases em⟩
/-- name = e, the name from now on a datum -/
theorem ds_set_t {te : TE} {i : Nat} (h : PS X st (tAsg te (gName i))) (ht : ∀ σ H Q, tM K E (rD K) m σ H Q → te σ H Q) : PS X st (tS K E (sSet i m)) := PS.imp h fun D σ H ⟨F, O, G, r, fl, P, em, f⟩ => by
  refine ht _ _ _ (tS.run P f em fun d r1 x G1 H1 P1 g1 q1 e1 f1 => ?_)
  unfold sPut at e1
  split at e1
  · cases e1
  · rename_i cel hne hc
    cases e1
    exact f1 _ G1 _ H1 (P1.put0 (fun ds z => hne ds (Option.some.inj (hc.symm.trans z))) q1) (Same.refl _)
  · cases e1
theorem ds_own_t {te : TE} {i : Nat} (h : PS X st (tAsg te (gName i))) (ht : ∀ σ H Q, tM K E (rF K) ml σ H Q → te σ H Q) : PS X st (tS K E (sOwn i ml)) := PS.imp h fun D σ H ⟨F, O, G, r, fl, P, em, f⟩ => by
  refine ht _ _ _ (tS.run P f em fun ds r1 x G1 H1 P1 g1 q1 e1 f1 => ?_)
  obtain ⟨p, xs, rfl, _, hg, h0, ho, hp, ha⟩ := q1
  unfold sPutO at e1
  split at e1
  · cases e1
  · rename_i cel hne hc
    cases e1
    exact f1 _ G1 _ H1 (P1.own0 (List.getElem?_eq_some_iff.mp hc).1 (fun ds z => hne ds (Option.some.inj (hc.symm.trans z))) hg h0 ho hp ha) (Same.refl _)
  · cases e1
theorem ds_set {i : Nat} {x : Str} {pos' : Pos} (hN : X.N.Nodup) (hi : X.N[i]? = some x) (hx : Loc X.env.scope x) (he : DE K E X e m) (hs : swapsWith e (some (.Name x pos')) pos.line X.env = pure false := by rfl) (hf : X.fn x = true ∨ X.env.scope.names.lookup x = some .local := by first | exact .inl rfl | exact .inr rfl | assumption) :
    DS K E X (.Assign [.Name x pos'] e pos) (sSet i m) := ⟨fun hK => ds_set_t (ps_set hN hi hx (he.pe hK) hs hf) fun _ _ _ h => h⟩
theorem ds_own {i : Nat} {x : Str} {pos' : Pos} (hN : X.N.Nodup) (hi : X.N[i]? = some x) (hx : Loc X.env.scope x) (he : DF K E X e ml) (hs : swapsWith e (some (.Name x pos')) pos.line X.env = pure false := by rfl) (hf : X.fn x = true ∨ X.env.scope.names.lookup x = some .local := by first | exact .inl rfl | exact .inr rfl | assumption) :
    DS K E X (.Assign [.Name x pos'] e pos) (sOwn i ml) := ⟨fun hK => ds_own_t (ps_set hN hi hx (he.pe hK) hs hf) fun _ _ _ h => h⟩
/-- what a new list gives as a datum -/
theorem fr_t {σ : L2.St} {H : Hp} {Q : VK} (h : tM K E (rD K) (ml.map PyData.list) σ H Q) : tM K E (rF K) ml σ H Q := by
  obtain ⟨F, O, G, r, out, P, em, f⟩ := h
  refine tM.run P f em fun ds r1 v G1 H1 P1 g1 q1 e1 f1 => ?_
  cases e1
  obtain ⟨p, xs, rfl, hs, hg, h0, ho, hp, ha⟩ := q1
  cases em2 : ml r with
  | none =>
    rw [M.map, M.bind, em2] at em
    cases em
  | some o =>
    cases o with
    | ex c z =>
      rw [M.map, M.bind, em2] at em
      cases em
    | ok ds' r' =>
      rw [M.map, M.bind, em2] at em
      cases em
      refine f _ _ _ (P1.see hp hg h0 ho) ?_ (.lst (.inl (.inl upd_same)) (ha.sm (same_new hg)))
      refine ⟨g1.gg.trans (same_new hg), g1.keep, fun c e => ?_, g1.nf⟩
      by_cases z : c = p
      · rw [z]
        exact .inr hs
      · rw [upd_ne z] at e
        exact g1.gn c e
section
variable {i : Nat} {y : Str} {py : Pos} {elt tg iter : Expr} {ifs : List Expr} {scope : Scope} {own : List (Str × Nat)} {ts : List Nat} {spos : Pos} {mi : M (List PyData)} {g : PyData → En → Option En} {mt : M Bool} {me : M PyData}
/-- name = [..] on one line -/
theorem ds_setLc (hc : X.calm = true) (hN : X.N.Nodup) (hy : X.N[i]? = some y) (hyl : X.env.scope.names.lookup y = some .local)
    (hsw : swapsWith (.ListComp elt [⟨tg, iter, ifs, 0⟩] scope pos) (some (.Name y py)) spos.line X.env = pure true) (hi : DI K E X tg iter mi) (ok : BlkOk X.N X.env.scope scope own)
    (hg : ∀ (s : Shared) (H : Hp) (C : Addr) (cl : List (Str × Addr)) (fp : List Addr), DG K (X.blk s H scope (compEnvC scope cl C X.env) fp) tg ts g) (ht : ∀ (s : Shared) (H : Hp) (C : Addr) (cl : List (Str × Addr)) (fp : List Addr), DTs K (X.blk s H scope (compEnvC scope cl C X.env) fp) ifs mt)
    (he : ∀ (s : Shared) (H : Hp) (C : Addr) (cl : List (Str × Addr)) (fp : List Addr), DE K XN (X.blk s H scope (compEnvC scope cl C X.env) fp) elt me) (hts : ∀ t ∈ ts, t ∈ own.map (·.2) := by decide) (hs : ∀ x, foldedSetIterable iter X.env x = pure x := by intro _; rfl) :
    DS K E X (.Assign [.Name y py] (.ListComp elt [⟨tg, iter, ifs, 0⟩] scope pos) spos) (sSet i ((mLc (own.map (·.2)) mi g mt me).map PyData.list)) :=
  ⟨fun hK => ds_set_t (ps_setLc hc hN hy hyl hsw (hi.pi hK) ok (fun s H C cl fp => (hg s H C cl fp).pg hK) (fun s H C cl fp => (ht s H C cl fp).pt hK) (fun s H C cl fp => (he s H C cl fp).pe hK) hs) fun _ _ _ h => lc_run hts (fr_t h)⟩
theorem ds_ownLc (hc : X.calm = true) (hN : X.N.Nodup) (hy : X.N[i]? = some y) (hyl : X.env.scope.names.lookup y = some .local)
    (hsw : swapsWith (.ListComp elt [⟨tg, iter, ifs, 0⟩] scope pos) (some (.Name y py)) spos.line X.env = pure true) (hi : DI K E X tg iter mi) (ok : BlkOk X.N X.env.scope scope own)
    (hg : ∀ (s : Shared) (H : Hp) (C : Addr) (cl : List (Str × Addr)) (fp : List Addr), DG K (X.blk s H scope (compEnvC scope cl C X.env) fp) tg ts g) (ht : ∀ (s : Shared) (H : Hp) (C : Addr) (cl : List (Str × Addr)) (fp : List Addr), DTs K (X.blk s H scope (compEnvC scope cl C X.env) fp) ifs mt)
    (he : ∀ (s : Shared) (H : Hp) (C : Addr) (cl : List (Str × Addr)) (fp : List Addr), DE K XN (X.blk s H scope (compEnvC scope cl C X.env) fp) elt me) (hts : ∀ t ∈ ts, t ∈ own.map (·.2) := by decide) (hs : ∀ x, foldedSetIterable iter X.env x = pure x := by intro _; rfl) :
    DS K E X (.Assign [.Name y py] (.ListComp elt [⟨tg, iter, ifs, 0⟩] scope pos) spos) (sOwn i (mLc (own.map (·.2)) mi g mt me)) :=
  ⟨fun hK => ds_own_t (ps_setLc hc hN hy hyl hsw (hi.pi hK) ok (fun s H C cl fp => (hg s H C cl fp).pg hK) (fun s H C cl fp => (ht s H C cl fp).pt hK) (fun s H C cl fp => (he s H C cl fp).pe hK) hs) fun _ _ _ h => lc_run hts h⟩
end
theorem ds_frz (i : Nat) (h : DS K E X st a) : DS K E X st (sFrz i a) := ⟨fun hK => PS.imp (h.ps hK) fun D σ H ⟨F, O, G, r, fl, P, em, f⟩ => by
  unfold sFrz at em
  split at em
  · rename_i ds e
    obtain ⟨O', G', g, P'⟩ := P.frz e
    exact ⟨F, O', G', _, fl, P', em, f.via g⟩
  · exact ⟨F, O, G, r, fl, P, em, f⟩⟩
theorem dss_frz (i : Nat) (h : DSs K E X sts a) : DSs K E X sts (sFrz i a) := ⟨fun hK => PSs.imp (h.ps hK) fun D σ H ⟨F, O, G, r, fl, P, em, f⟩ => by
  unfold sFrz at em
  split at em
  · rename_i ds e
    obtain ⟨O', G', g, P'⟩ := P.frz e
    exact ⟨F, O', G', _, fl, P', em, f.via g⟩
  · exact ⟨F, O, G, r, fl, P, em, f⟩⟩
/-- any target -/
theorem ds_asg {tg : Expr} {ts : List Nat} {g : PyData → En → Option En} (he : DE K E X e m) (hg : DG K X tg ts g) (hs : swapsWithSole [tg] e pos.line X.env = pure false := by rfl) (hw : swappedStores [tg] e X.env = pure none := by rfl)
    (h1 : (assignEach [tg] X.env).map (·.2) = [assign tg X.env] := by rfl) : DS K E X (.Assign [tg] e pos) (sBind m fun d r => (g d r).map .nx) := ⟨fun hK => PS.imp (ps_asg (he.pe hK) (hg.pg hK) hs hw h1) fun D σ H ⟨F, O, G, r, fl, P, em, f⟩ => by
  refine tS.run P f em fun d r1 x G1 H1 P1 g1 q1 e1 f1 => ?_
  obtain ⟨r2, e2, rfl⟩ := Option.map_eq_some_iff.mp e1
  exact ⟨F, O, G1, r1, r2, d, P1, q1, e2, fun σ' P' _ _ => f1 O G1 σ' H1 P' (Same.refl _)⟩⟩
/-- x += e, whole numbers -/
def sAug (i : Nat) (g : PyData → PyData → Option PyData) (m : M PyData) : SM := fun r => match r[i]? with
  | some (.pl d) => sBind m (fun e r => match g d e with
    | some z => sPut i z r
    | none => none) r
  | _ => none
def intG (f : Int → Int → Int) : PyData → PyData → Option PyData
  | .int a, .int b => some (.int (f a b))
  | _, _ => none
theorem ds_aug {i : Nat} {x : Str} {op : Operator} {f : Int → Int → Int} {pos' : Pos} (hN : X.N.Nodup) (hi : X.N[i]? = some x) (hx : Loc X.env.scope x) (he : DE K E X e m) (ho : PIp X op (ipI f)) (hf : X.fn x = true ∨ X.env.scope.names.lookup x = some .local := by first | exact .inl rfl | exact .inr rfl | assumption) :
    DS K E X (.AugAssign (.Name x pos') op e pos) (sAug i (intG f) m) := ⟨fun hK => PS.imp (ps_aug hN hi hx (he.pe hK) ho hf) fun D σ H ⟨F, O, G, r, fl, P, em, ff⟩ => by
  unfold sAug at em
  split at em
  · rename_i d hd
    obtain ⟨v, h1, h2⟩ := P.pl i d hd
    refine ⟨v, h1, tS.run (R1 := rD K) P ff em fun d2 r1 y G1 H1 P1 g1 q1 e1 f1 => ?_⟩
    split at e1
    · rename_i z hz
      unfold intG at hz
      split at hz
      · cases hz
        cases h2; cases q1
        refine ⟨_, _, rfl, rfl, ?_⟩
        unfold sPut at e1
        split at e1
        · cases e1
        · rename_i cel hne hc
          cases e1
          exact f1 _ G1 _ H1 (P1.put0 (fun ds z => hne ds (Option.some.inj (hc.symm.trans z))) (.int _)) (Same.refl _)
        · cases e1
      · cases hz
    · cases e1
  · cases em⟩
end
/-! ## loops -/
def forGo (g : PyData → En → Option En) (b : SM) : List PyData → SM
  | [] => sNil
  | x :: xs => fun r => (g x r).bind fun r1 => match b r1 with
    | some (.nx r2) => forGo g b xs r2
    | some (.ct r2) => forGo g b xs r2
    | some (.bk r2) => some (.nx r2)
    | o => o
def sFor (mi : M (List PyData)) (g : PyData → En → Option En) (b : SM) : SM := sBind mi fun items => forGo g b items
def whGo (c : M Bool) (b : SM) : Nat → SM
  | 0 => fun _ => none
  | n + 1 => sBind c fun k => if k then fun r1 => (match b r1 with
    | some (.nx r2) => whGo c b n r2
    | some (.ct r2) => whGo c b n r2
    | some (.bk r2) => some (.nx r2)
    | o => o) else sNil
section
variable {K : PySem.W.Frag} {E : XE} {X : Cx} {st : Stmt} {body : List Stmt} {b : SM} {mc : M Bool} {c iter tg : Expr} {pos : Pos}
theorem ds_for {mi : M (List PyData)} {ts : List Nat} {g : PyData → En → Option En} (hp : PassesOwn (model X.prog X.w) X.A X.env X.xe) (hc : X.calm = true) (hi : DI K E X tg iter mi) (hg : DG K X tg ts g) (hb : DSs K E X body b)
    (hs : ∀ x, foldedSetIterable iter X.env x = pure x := by intro _; rfl) : DS K E X (.For tg iter body [] pos) (sFor mi g b) := ⟨fun hK => PS.imp (ps_for hp hc (hi.pi hK) (hg.pg hK) (hb.ps hK) hs) fun D σ H ⟨F, O, G, r, fl, P, em, f⟩ => by
  refine tS.run P f em fun items r1 J G1 H1 P1 g1 q1 e1 f1 => ?_
  refine ⟨fun i n σ H => n = items.length - i ∧ i ≤ items.length ∧ ∃ O' G' r', Rp K F O' G' σ H r' ∧ Same G1 G' ∧ forGo g b (items.drop i) r' = some fl, ⟨items.length, by simp, Nat.zero_le _, O, G1, r1, P1, Same.refl _, e1⟩, ?_⟩
  rintro i n σ H ⟨rfl, hi, O', G', r', P2, g2, e2⟩
  by_cases hlt : i < items.length
  · have e3 := List.getElem?_eq_getElem hlt
    obtain ⟨jgo, jy⟩ := (q1 i H G' g2 P2.sub).1 _ e3
    rw [List.drop_eq_getElem_cons hlt] at e2
    refine .inr ⟨jgo, _, fun σ' H' p => ⟨_, (by omega : items.length - (i + 1) < items.length - i), p⟩, fun x H' y => ?_⟩
    obtain ⟨G2, ps, hd⟩ := jy x H' y
    obtain ⟨r3, e4, e5⟩ := Option.bind_eq_some_iff.mp e2
    refine ⟨F, O', G2, r', r3, _, P2.ps ps, hd, e4, fun σ2 P3 _ _ => ?_⟩
    have g3 := g2.trans ps.gg
    cases eb : b r3 with
    | none => rw [eb] at e5; cases e5
    | some fb =>
      rw [eb] at e5
      refine ⟨F, O', G2, r3, fb, P3, eb, ?_⟩
      cases fb with
      | nx r4 => exact fun O4 G4 σ4 H4 P4 g4 => ⟨rfl, hlt, O4, G4, r4, P4, g3.trans g4, e5⟩
      | ct r4 => exact fun O4 G4 σ4 H4 P4 g4 => ⟨rfl, hlt, O4, G4, r4, P4, g3.trans g4, e5⟩
      | bk r4 =>
        cases e5
        exact fun O4 G4 σ4 H4 P4 g4 => f1 O4 G4 σ4 H4 P4 (g3.trans g4)
      | rt d r4 =>
        cases e5
        exact fun O4 G4 σ4 H4 v P4 g4 => f1 O4 G4 σ4 H4 v P4 (g3.trans g4)
      | ex c p =>
        cases e5
        exact f1
      | rf ds r4 =>
        cases e5
        exact fun O4 G4 σ4 H4 p ys P4 g4 => f1 O4 G4 σ4 H4 p ys P4 (g3.trans g4)
  · have e3 : i = items.length := by omega
    subst e3
    rw [List.drop_length] at e2
    cases e2
    exact .inl ⟨(q1 _ H G' g2 P2.sub).2 (Nat.le_refl _), f1 O' G' σ H P2 g2⟩⟩
theorem ds_while (n : Nat) (hp : PassesOwn (model X.prog X.w) X.A X.env X.xe) (hc : DT K E X c mc) (hb : DSs K E X body b) : DS K E X (.While c body [] pos) (whGo mc b n) := ⟨fun hK => PS.imp (ps_while hp (hc.pt hK) (hb.ps hK)) fun D σ H ⟨F, O, G, r, fl, P, em, f⟩ => by
  refine ⟨fun n σ H => ∃ O' G' r', Rp K F O' G' σ H r' ∧ Same G G' ∧ whGo mc b n r' = some fl, ⟨n, O, G, r, P, Same.refl _, em⟩, ?_⟩
  rintro n σ H ⟨O', G', r', P2, g2, e2⟩
  cases n with
  | zero => cases e2
  | succ n =>
    refine tS.run P2 (f.via g2) e2 fun k r1 x G1 H1 P1 g1 q1 e1 f1 => ?_
    cases q1
    cases k with
    | false =>
      cases e1
      exact iteF (f1 O' G1 σ H1 P1 (Same.refl _))
    | true =>
      refine iteT ⟨_, fun σ' H' p => ⟨n, Nat.lt_succ_self n, p⟩, ?_⟩
      simp only [if_true] at e1
      have g3 := g2.trans g1.gg
      cases eb : b r1 with
      | none => rw [eb] at e1; cases e1
      | some fb =>
        rw [eb] at e1
        refine ⟨F, O', G1, r1, fb, P1, eb, ?_⟩
        cases fb with
        | nx r4 => exact fun O4 G4 σ4 H4 P4 g4 => ⟨O4, G4, r4, P4, g3.trans g4, e1⟩
        | ct r4 => exact fun O4 G4 σ4 H4 P4 g4 => ⟨O4, G4, r4, P4, g3.trans g4, e1⟩
        | bk r4 =>
          cases e1
          exact fun O4 G4 σ4 H4 P4 g4 => f1 O4 G4 σ4 H4 P4 g4
        | rt d r4 =>
          cases e1
          exact fun O4 G4 σ4 H4 v P4 g4 => f1 O4 G4 σ4 H4 v P4 g4
        | ex c p =>
          cases e1
          exact f1
        | rf ds r4 =>
          cases e1
          exact fun O4 G4 σ4 H4 p ys P4 g4 => f1 O4 G4 σ4 H4 p ys P4 g4⟩
/-- return a new list, return the list that a slot owns -/
def sRetF (m : M (List PyData)) : SM := sBind m fun ds r => some (.rf ds r)
theorem ds_retF (he : DF K E X e ml) : DS K E X (.Return (some e) pos) (sRetF ml) := ⟨fun hK => PS.imp (ps_ret (he.pe hK)) fun D σ H ⟨F, O, G, r, fl, P, em, f⟩ => by
  refine tS.run P f em fun d r1 x G1 H1 P1 g1 q1 e1 f1 => ?_
  cases e1
  obtain ⟨p, xs, rfl, hs, hg, h0, ho, hp, ha⟩ := q1
  exact f1 O G1 σ H1 p xs P1 (Same.refl _) hg h0 hp ha⟩
end
end DL
namespace DL
open PySem PySem.Spec PyProof.Rows L2 Lk
/-! ## a def that may be called -/
def Has (P : Program) (w : World) (K : PySem.W.Frag) (mg : Str → Option Value) (base : Heap) (k : Nat) (x : Str) (ps : List Str) (sp : Sp) : Prop :=
  ∃ (f : Addr) (fd : FuncData), FnOk P w K mg base CX0 k f fd ps sp ∧ Binds K fd ps [] ∧ mg x = some (.ref f) ∧ PySem.W.keepIn K (.ref f) = true
theorem Has.mono {P : Program} {w : World} {K : PySem.W.Frag} {mg : Str → Option Value} {base : Heap} {k j : Nat} {x : Str} {ps : List Str} {sp : Sp} (h : Has P w K mg base k x ps sp) (l : k ≤ j) : Has P w K mg base j x ps sp := by
  obtain ⟨f, fd, F, r⟩ := h
  exact ⟨f, fd, F.mono l, r⟩
section
variable {K : PySem.W.Frag} {E : XE} {X : Cx} {e : Expr} {es : List Expr} {m : M (List PyData)} {pos : Pos}
theorem dc {x : Str} {p : Pos} {k : Nat} {ps : List Str} {g : List PyData → Option PyData} (G : Has X.prog X.w K X.mg X.base k x ps (spD K g)) (hr : Room k X.A) (hg : Gl X x)
    (ha : DA K E X (e :: es) m) (hdb : (x == ("__debug__" : Str)) = false := by decide) (he : starEach (e :: es) X.env = (false, eval e X.env) :: starEach es X.env := by rfl)
    (hpl : (backTo pos (starEach es X.env)).any (·.1) = false := by rfl) : DE K E X (.Call (.Name x p) (e :: es) [] pos) (m.bind fun ds => M.lift (g ds)) := by
  obtain ⟨f, fd, F, b, gm, kp⟩ := G
  exact de_call F b gm kp hr hg ha hdb he hpl
theorem dcF {x : Str} {p : Pos} {k : Nat} {ps : List Str} {g : List PyData → Option (List PyData)} (G : Has X.prog X.w K X.mg X.base k x ps (spF K g)) (hr : Room k X.A) (hg : Gl X x)
    (ha : DA K E X (e :: es) m) (hdb : (x == ("__debug__" : Str)) = false := by decide) (he : starEach (e :: es) X.env = (false, eval e X.env) :: starEach es X.env := by rfl)
    (hpl : (backTo pos (starEach es X.env)).any (·.1) = false := by rfl) : DF K E X (.Call (.Name x p) (e :: es) [] pos) (m.bind fun ds => M.lift (g ds)) := by
  obtain ⟨f, fd, F, b, gm, kp⟩ := G
  exact df_call F b gm kp hr hg ha hdb he hpl
/-- f(xs, ..), f changes the list of slot i -/
def mCallM (i : Nat) (m : M (List PyData)) (g : List PyData → List PyData → Option (PyData × List PyData)) : M PyData := fun r0 => if (ownOf r0[i]?).isSome then (m.bind fun ds r => match ownOf r[i]? with
  | some bs => (g bs ds).map fun z => .ok z.1 (upO i z.2 r)
  | none => none) r0 else none
theorem isSome_ex {α : Type} {o : Option α} (h : o.isSome = true) : ∃ a, o = some a := by
  cases o with
  | none => cases h
  | some a => exact ⟨a, rfl⟩
theorem dcM (i : Nat) {x y : Str} {p p2 : Pos} {k : Nat} {ps : List Str} {g : List PyData → List PyData → Option (PyData × List PyData)} (G : Has X.prog X.w K X.mg X.base k x ps (spM K g)) (hr : Room k X.A) (hg : Gl X x)
    (ha : DA K E X es m) (hN : X.N[i]? = some y := by rfl) (hv : Vis X.env.scope y := by first | exact Or.inl rfl | exact Or.inr (Or.inl rfl) | exact Or.inr (Or.inr rfl)) (hd : (y == ("__debug__" : Str)) = false := by decide) (hcd : (y == ("__classdict__" : Str)) = false := by decide)
    (hdb : (x == ("__debug__" : Str)) = false := by decide) (he : starEach (.Name y p2 :: es) X.env = (false, eval (.Name y p2) X.env) :: starEach es X.env := by rfl)
    (hpl : (backTo pos (starEach es X.env)).any (·.1) = false := by rfl) : DE K E X (.Call (.Name x p) (.Name y p2 :: es) [] pos) (mCallM i m g) := ⟨fun hK => by
  subst hK
  obtain ⟨f, fd, Fk, b, gm, kp⟩ := G
  refine PE.imp (pe_call (E := E0) Fk hr hg gm kp b .nil pass0 (pa_cons (pe_var hN hv hd hcd) (ha.pa rfl) he) hdb he hpl) fun σ H Q ⟨F, O, G, r, out, P, em, ff⟩ => ?_
  unfold mCallM at em
  split at em
  · rename_i hs
    obtain ⟨bs0, e0⟩ := isSome_ex hs
    obtain ⟨q, xs0, hq, hσ, _, _⟩ := P.own_at e0
    refine ⟨_, hσ, ?_⟩
    refine tM.run P ff em fun ds r1 xs G1 H1 P1 g1 q1 e1 f1 => ?_
    show spM X.K g ((.ref q :: xs) ++ []) H1 Q E0
    rw [List.append_nil]
    split at e1
    · rename_i bs e2
      obtain ⟨z, hz, rfl⟩ := Option.map_eq_some_iff.mp e1
      obtain ⟨q', xs1, hq', hσ', hx, hb⟩ := P1.own_at e2
      rw [hq] at hq'
      cases hq'
      refine ⟨G1, q, xs1, xs, bs, ds, z.1, z.2, rfl, P1.sub, (P1.on i q hq).2.1, hx, hb, q1, hz, fun v G' H' xs' gg gh gp kp gn hx' hb' hv' => ?_⟩
      obtain ⟨P2, g2⟩ := P1.chg e2 hq gg gh gp kp gn hx' hb'
      exact f1 v G' H' P2 g2 hv'
    · cases e1
  · cases em⟩
/-! ## the list of a slot is read -/
theorem Rp.own_dp {F : Fm} {O : Ow} {G H : Hp} {σ : L2.St} {r : En} (R : Rp K F O G σ H r) {i : Nat} {ds : List PyData} (e : ownOf r[i]? = some ds) : ∃ p xs, σ[i]? = some (some (.ref p)) ∧ H p = some (.lst xs) ∧ DqAll K G xs ds ∧ Dp K H (.ref p) (.list ds) := by
  obtain ⟨p, xs, h1, h2, h3, h4⟩ := R.own_at e
  exact ⟨p, xs, h2, h3, h4, .lst (.inl (.inl h3)) (h4.sm R.sub).dp⟩
def mLenO (i : Nat) : M PyData := fun r => match ownOf r[i]? with
  | some ds => some (.ok (.int ds.length) r)
  | none => none
theorem de_lenO (i : Nat) {y : Str} {p p2 : Pos} (hg : Gl X "len") (hm : X.mg "len" = none) (hN : X.N[i]? = some y := by rfl) (hv : Vis X.env.scope y := by first | exact Or.inl rfl | exact Or.inr (Or.inl rfl) | exact Or.inr (Or.inr rfl)) (hd : (y == ("__debug__" : Str)) = false := by decide) (hcd : (y == ("__classdict__" : Str)) = false := by decide)
    (he : starEach [.Name y p2] X.env = (false, eval (.Name y p2) X.env) :: starEach [] X.env := by rfl) : DE K E X (.Call (.Name "len" p) [.Name y p2] [] pos) (mLenO i) := ⟨fun hK => by
  subst hK
  refine PE.imp (pe_callB call_len_seq hg hm PySem.boot_len (pa_cons (pe_var hN hv hd hcd) pa_nil he) (by decide) (by decide) he (by rfl)) fun σ H Q ⟨F, O, G, r, out, P, em, ff⟩ => ?_
  unfold mLenO at em
  split at em
  · rename_i ds e0
    cases em
    obtain ⟨q, xs, h1, h2, h3, h4⟩ := P.own_dp e0
    exact ⟨_, h1, q, xs, rfl, .inl (.inl (.inl h2)), by rw [h3.length]; exact ff.ok (Ps.refl P.sub) P (.int _)⟩
  · cases em⟩
def mIxO (i : Nat) (m : M PyData) : M PyData := fun r0 => if (ownOf r0[i]?).isSome then (m.bind fun d r => match ownOf r[i]?, asInt d with
  | some ds, some j => (atI ds j).map fun z => .ok z r
  | _, _ => none) r0 else none
theorem de_ixO (i : Nat) {y : Str} {p2 : Pos} {ma : M PyData} (ha : DE K E X e ma) (hs : PlainIx e) (hN : X.N[i]? = some y := by rfl) (hv : Vis X.env.scope y := by first | exact Or.inl rfl | exact Or.inr (Or.inl rfl) | exact Or.inr (Or.inr rfl)) (hd : (y == ("__debug__" : Str)) = false := by decide) (hcd : (y == ("__classdict__" : Str)) = false := by decide) :
    DE K E X (.Subscript (.Name y p2) e pos) (mIxO i ma) := ⟨fun hK => by
  subst hK
  refine PE.imp (pe_ix ix_list (pe_var hN hv hd hcd) (ha.pe rfl) hs) fun σ H Q ⟨F, O, G, r, out, P, em, ff⟩ => ?_
  unfold mIxO at em
  split at em
  · rename_i hs
    obtain ⟨bs0, e0⟩ := isSome_ex hs
    obtain ⟨q, xs0, hq, hσ, _, _⟩ := P.own_at e0
    refine ⟨_, hσ, ?_⟩
    refine tM.run P ff em fun d r1 x G1 H1 P1 g1 q1 e1 f1 => ?_
    split at e1
    · rename_i ds j e2 hj
      cases asInt_some hj
      cases q1
      obtain ⟨z, hz, rfl⟩ := Option.map_eq_some_iff.mp e1
      obtain ⟨q', xs1, hq', hσ', hx, hb⟩ := P1.own_at e2
      rw [hq] at hq'
      cases hq'
      obtain ⟨v, h1, h2⟩ := atI_dq hb hz
      exact ⟨q, xs1, j, v, rfl, rfl, .inl (.inl hx), h1, f1.ok (Ps.refl P1.sub) P1 h2⟩
    · cases e1
  · cases em⟩
def mTruO (i : Nat) : M Bool := fun r => match ownOf r[i]? with
  | some ds => some (.ok (!ds.isEmpty) r)
  | none => none
theorem dt_truO (i : Nat) {y : Str} {p2 : Pos} (hN : X.N[i]? = some y := by rfl) (hv : Vis X.env.scope y := by first | exact Or.inl rfl | exact Or.inr (Or.inl rfl) | exact Or.inr (Or.inr rfl)) (hd : (y == ("__debug__" : Str)) = false := by decide) (hcd : (y == ("__classdict__" : Str)) = false := by decide) :
    DT K E X (.Name y p2) (mTruO i) := ⟨fun hK => by
  subst hK
  refine PT.imp (pt_truth (pe_var hN hv hd hcd) (by intro _; rfl)) fun σ H Q ⟨F, O, G, r, out, P, em, ff⟩ => ?_
  unfold mTruO at em
  split at em
  · rename_i ds e0
    cases em
    obtain ⟨q, xs, h1, h2, h3, h4⟩ := P.own_dp e0
    refine ⟨_, h1, _, .inl ⟨xs, .inl (.inl h2), rfl⟩, ?_⟩
    have e : xs.isEmpty = ds.isEmpty := by
      have := h3.length
      cases xs <;> cases ds <;> first | rfl | (cases this)
    rw [e]
    exact ff.ok (Ps.refl P.sub) P rfl
  · cases em⟩
/-- a datum as a test: a list, a tuple, a text, a whole number, a bool, None -/
def truD : PyData → Option Bool
  | .none => some false
  | .bool b => some b
  | .int i => some (i != 0)
  | .str x => if x.length ≤ 1000000 then some ((x.length : Int) != 0) else none
  | .list ds => some (!ds.isEmpty)
  | .tuple ds => some (!ds.isEmpty)
  | .dict _ => none
theorem dq_empty {G : Hp} {xs : List V} {ds : List PyData} (h : DqAll K G xs ds) : xs.isEmpty = ds.isEmpty := by
  cases h <;> rfl
theorem dt_tru {ma : M PyData} (ha : DE K E X e ma) (he : ∀ whole, isTrue e X.env whole = (do let v ← whole; standAt e.pos; holding [v] (truthy v)) := by intro _; rfl) : DT K E X e (ma.bind fun d => M.lift (truD d)) := ⟨fun hK => by
  subst hK
  refine PT.imp (pt_truth (ha.pe rfl) he) fun σ H Q ⟨F, O, G, r, out, P, em, f⟩ => ?_
  refine tM.run P f em fun d r1 x G1 H1 P1 g1 q1 e1 f1 => ?_
  obtain ⟨b, hb, rfl⟩ := lift_ok e1
  have fin : Q b H1 := f1.ok (Ps.refl P1.sub) P1 rfl
  refine ⟨b, ?_, fin⟩
  cases q1 with
  | non => cases hb; rfl
  | bl b => cases hb; rfl
  | int i => cases hb; rfl
  | str x =>
    simp only [truD] at hb
    split at hb
    · rename_i hl
      cases hb
      exact ⟨line_le hl, rfl⟩
    · cases hb
  | lst hs ha =>
    cases hb
    exact .inl ⟨_, (P1.sub.seq hs), by rw [dq_empty ha]⟩
  | tup hs ha =>
    cases hb
    exact .inr (.inl ⟨_, Lk.Same.tup P1.sub hs, by rw [dq_empty ha]⟩)⟩
/-- xs.pop() -/
def mPop (i : Nat) : M PyData := fun r => match ownOf r[i]? with
  | some ds => (ds[ds.length - 1]?).map fun z => .ok z (upO i ds.dropLast r)
  | none => none
theorem de_pop (i : Nat) {y : Str} {p2 ap : Pos} (hN : X.N[i]? = some y := by rfl) (hv : Vis X.env.scope y := by first | exact Or.inl rfl | exact Or.inr (Or.inl rfl) | exact Or.inr (Or.inr rfl)) (hd : (y == ("__debug__" : Str)) = false := by decide) (hcd : (y == ("__classdict__" : Str)) = false := by decide)
    (hb : attributeBase (.Name y p2) "pop" X.env (eval (.Name y p2) X.env) = eval (.Name y p2) X.env := by rfl) (hpe : PE X (.Call (.Attribute (.Name y p2) "pop" ap) [] [] pos) (tBM0 X.K "list" rPop (tVar i))) :
    DE K E X (.Call (.Attribute (.Name y p2) "pop" ap) [] [] pos) (mPop i) := ⟨fun hK => by
  subst hK
  refine PE.imp hpe fun σ H Q ⟨F, O, G, r, out, P, em, ff⟩ => ?_
  unfold mPop at em
  split at em
  · rename_i ds e0
    obtain ⟨z, hz, rfl⟩ := Option.map_eq_some_iff.mp em
    obtain ⟨p, xs, h1, h2, h3, h4⟩ := P.own_at e0
    obtain ⟨v, h5, h6⟩ := h4.get hz
    refine ⟨_, h2, .inl ⟨rfl, _, .inl (.inl h3)⟩, p, xs, v, rfl, rfl, h3, by rw [h4.length]; exact h5, ?_⟩
    have gp := (P.on i p h1).2.1
    obtain ⟨P2, g2⟩ := P.chg e0 h1 (Same.refl G) (fun c o e => by rw [upd_ne (ne_of_none e gp)]; exact P.sub _ _ e) gp (fun c o n e => by rw [upd_ne n]; exact e) (fun c e => .inl e) (upd_same (o := .lst xs.dropLast)) (h4.dropLast)
    exact ff _ _ _ P2 g2 h6
  · cases em⟩
/-- xs.append(e) as a statement -/
def sApp (i : Nat) (m : M PyData) : SM := fun r0 => if (ownOf r0[i]?).isSome then sBind m (fun d r => match ownOf r[i]? with
  | some ds => if ds.length ≤ 1000000 then some (.nx (upO i (ds ++ [d]) r)) else none
  | none => none) r0 else none
theorem ds_app (i : Nat) {st : Stmt} {te : TE} {ma : M PyData} (ha : X.K = K → ∀ σ H Q, tM K E (rD K) ma σ H Q → te σ H Q) (hp : PS X st (tDrop (tBM X.K "list" rAppend (tVar i) (tCons te tNil)))) : DS K E X st (sApp i ma) := ⟨fun hK => by
  subst hK
  refine PS.imp hp fun D σ H ⟨F, O, G, r, fl, P, em, ff⟩ => ?_
  unfold sApp at em
  split at em
  · rename_i hs
    obtain ⟨bs0, e0⟩ := isSome_ex hs
    obtain ⟨q, xs0, hq, hσ, hx0, _⟩ := P.own_at e0
    refine ⟨_, hσ, .inl ⟨rfl, _, .inl (.inl hx0)⟩, ha rfl _ _ _ (tS.run P ff em fun d r1 x G1 H1 P1 g1 q1 e1 f1 => ?_)⟩
    split at e1
    · rename_i ds e2
      split at e1
      · rename_i hl
        cases e1
        obtain ⟨q', xs1, hq', hσ', hx, hb⟩ := P1.own_at e2
        rw [hq] at hq'
        cases hq'
        refine ⟨q, xs1, x, rfl, rfl, hx, line_lt (by rw [hb.length]; exact hl), ?_⟩
        have gp := (P1.on i q hq).2.1
        obtain ⟨P2, g2⟩ := P1.chg e2 hq (Same.refl G1) (fun c o e => by rw [upd_ne (ne_of_none e gp)]; exact P1.sub _ _ e) gp (fun c o n e => by rw [upd_ne n]; exact e) (fun c e => .inl e) (upd_same (o := .lst (xs1 ++ [x]))) (hb.append (.cons q1 .nil))
        exact f1 O G1 σ _ P2 (Same.refl _)
      · cases e1
    · cases e1
  · cases em⟩
/-- xs[a] = b -/
def sPutIx (i : Nat) (ma mb : M PyData) : SM := sBind mb fun d r1 => if (ownOf r1[i]?).isSome then sBind ma (fun j r => match ownOf r[i]?, asInt j with
  | some ds, some j => (ixN ds.length j).map fun n => .nx (upO i (ds.set n d) r)
  | _, _ => none) r1 else none
theorem ds_putIx (i : Nat) {y : Str} {p2 tp : Pos} {a b : Expr} {ma mb : M PyData} (hb : DE K E X b mb) (ha : DE K E X a ma) (hN : X.N[i]? = some y := by rfl) (hv : Vis X.env.scope y := by first | exact Or.inl rfl | exact Or.inr (Or.inl rfl) | exact Or.inr (Or.inr rfl)) (hd : (y == ("__debug__" : Str)) = false := by decide) (hcd : (y == ("__classdict__" : Str)) = false := by decide)
    (hs : swapsWithSole [.Subscript (.Name y p2) a tp] b pos.line X.env = pure false := by rfl) (hw : swappedStores [.Subscript (.Name y p2) a tp] b X.env = pure none := by rfl)
    (h1 : (assignEach [.Subscript (.Name y p2) a tp] X.env).map (·.2) = [assign (.Subscript (.Name y p2) a tp) X.env] := by rfl)
    (h2 : ∀ v, assign (.Subscript (.Name y p2) a tp) X.env v = (do
      let ov ← holding [v] (eval (.Name y p2) X.env)
      let iv ← holding [v, ov] (eval a X.env)
      standAt tp
      holding [v, ov, iv] (setItem ov iv v)
      release [v, ov, iv] []) := by intro _; rfl) : DS K E X (.Assign [.Subscript (.Name y p2) a tp] b pos) (sPutIx i ma mb) := ⟨fun hK => by
  subst hK
  refine PS.imp (ps_asg (hb.pe rfl) (pg_sub (pe_var hN hv hd hcd) (ha.pe rfl) set_list h2) hs hw h1) fun D σ H ⟨F, O, G, r, fl, P, em, ff⟩ => ?_
  refine tS.run P ff em fun d r1 x G1 H1 P1 g1 q1 e1 f1 => ?_
  split at e1
  · rename_i hs
    obtain ⟨bs0, e0⟩ := isSome_ex hs
    obtain ⟨q, xs0, hq, hσ, hx0, _⟩ := P1.own_at e0
    refine ⟨_, hσ, ?_⟩
    refine tS.run P1 f1 e1 fun j r2 y2 G2 H2 P2 g2 q2 e2 f2 => ?_
    split at e2
    · rename_i ds j' e3 hj
      cases asInt_some hj
      cases q2
      obtain ⟨n, hn, rfl⟩ := Option.map_eq_some_iff.mp e2
      obtain ⟨q', xs1, hq', hσ', hx, hbs⟩ := P2.own_at e3
      rw [hq] at hq'
      cases hq'
      refine ⟨q, xs1, j', n, rfl, rfl, hx, by rw [hbs.length]; exact hn, ?_⟩
      have gp := (P2.on i q hq).2.1
      obtain ⟨P3, g3⟩ := P2.chg e3 hq (Same.refl G2) (fun c o e => by rw [upd_ne (ne_of_none e gp)]; exact P2.sub _ _ e) gp (fun c o n e => by rw [upd_ne n]; exact e) (fun c e => .inl e) (upd_same (o := .lst (xs1.set n x))) (hbs.set (q1.sm g2.gg) n)
      exact f2 O G2 σ _ P3 (Same.refl _)
    · cases e2
  · cases e1⟩
end
/-! ## defs -/
def ini (N : List Str) (ds : List PyData) : En := ds.map Cel.pl ++ List.replicate (N.length - ds.length) .un
section
variable {P : Program} {w : World} {K : PySem.W.Frag} {mg : Str → Option Value} {base : Heap}
theorem start_rp {N : List Str} {G H : Hp} {vs : List V} {ds : List PyData} (sg : Same G H) (hd : DqAll K G vs ds) : Rp K ⟨H, G, fun _ => none⟩ (fun _ => none) G (L2.start N vs) H (ini N ds) := by
  have hl := hd.length
  refine ⟨sg, by simp [L2.start, ini, hl], fun i d e => ?_, fun i ds' e => ?_, fun i ds' e => ?_, fun i p e => (by cases e), fun i j p e => (by cases e), fun c o e _ => e, fun c e => e, Same.refl _, fun c e => .inl e⟩
  all_goals
    unfold ini at e
    rw [List.getElem?_append] at e
    split at e
    · rename_i hi
      rw [List.length_map] at hi
      rw [List.getElem?_map] at e
      obtain ⟨d', h1, h2⟩ := Option.map_eq_some_iff.mp e
      first
      | (cases h2
         obtain ⟨v, h3, h4⟩ := hd.get h1
         refine ⟨v, ?_, h4⟩
         unfold L2.start
         rw [List.getElem?_append_left (by rw [List.length_map, hl]; exact hi), List.getElem?_map, h3]
         rfl)
      | cases h2
    · rw [List.getElem?_replicate] at e
      split at e
      · cases e
      · cases e
theorem def_D {x qual : Str} {st : Stmt} {f : Addr} {fd : FuncData} {N ps : List Str} {k : Nat} {g : List PyData → Option PyData} {sv : SM} (F : Fun K x qual st f fd) (S : FnScope N ps (defScope st))
    (h : ∀ (cdv : Value) (A : Around) (outer : List Env) (s : Shared) (H : Hp) (E : XK), Room k (A.deeper (envOfC qual (defScope st) s.heap.objs.size f cdv)) → DSs K XN (cxOf CX0 P w K mg base N qual (defScope st) f cdv A outer s H E).nox (defBody st) sv)
    (sp : ∀ ds z, g ds = some z → ds.length = ps.length ∧ ∃ r', sv (ini N ds) = some (.rt z r') ∨ z = .none ∧ sv (ini N ds) = some (.nx r')) : FnOk P w K mg base CX0 (k + 1) f fd ps (spD K g) := by
  refine F.ok S (fun vs H Q E ⟨G, ds, z, sg, hd, hz, q⟩ => by rw [hd.length]; exact (sp ds z hz).1) fun cdv A outer s H vs Q E hr ⟨G, ds, z, sg, hd, hz, q⟩ => ?_
  refine ⟨_, (h cdv A outer s H E hr).ps rfl, ?_⟩
  obtain ⟨_, r', e | ⟨rfl, e⟩⟩ := sp ds z hz
  · exact ⟨_, _, G, _, _, start_rp sg hd, e, fun O' G' σ' H' v R g hv => q v G' H' ⟨R.g0, R.sub, fun c o e => R.old c o e fun i z => (nomatch z), R.gn⟩ hv⟩
  · exact ⟨_, _, G, _, _, start_rp sg hd, e, fun O' G' σ' H' R g => q .non G' H' ⟨R.g0, R.sub, fun c o e => R.old c o e fun i z => (nomatch z), R.gn⟩ .non⟩
theorem def_F {x qual : Str} {st : Stmt} {f : Addr} {fd : FuncData} {N ps : List Str} {k : Nat} {g : List PyData → Option (List PyData)} {sv : SM} (F : Fun K x qual st f fd) (S : FnScope N ps (defScope st))
    (h : ∀ (cdv : Value) (A : Around) (outer : List Env) (s : Shared) (H : Hp) (E : XK), Room k (A.deeper (envOfC qual (defScope st) s.heap.objs.size f cdv)) → DSs K XN (cxOf CX0 P w K mg base N qual (defScope st) f cdv A outer s H E).nox (defBody st) sv)
    (sp : ∀ ds z, g ds = some z → ds.length = ps.length ∧ ∃ r', sv (ini N ds) = some (.rf z r')) : FnOk P w K mg base CX0 (k + 1) f fd ps (spF K g) := by
  refine F.ok S (fun vs H Q E ⟨G, ds, z, sg, hd, hz, q⟩ => by rw [hd.length]; exact (sp ds z hz).1) fun cdv A outer s H vs Q E hr ⟨G, ds, z, sg, hd, hz, q⟩ => ?_
  refine ⟨_, (h cdv A outer s H E hr).ps rfl, ?_⟩
  obtain ⟨_, r', e⟩ := sp ds z hz
  exact ⟨_, _, G, _, _, start_rp sg hd, e, fun O' G' σ' H' p xs R g gp h0 hp ha => q p xs G' H' ⟨R.g0, R.sub, fun c o e => R.old c o e fun i z => (nomatch z), R.gn⟩ gp h0 hp ha⟩
def iniM (N : List Str) (bs ds : List PyData) : En := .io bs :: (ds.map Cel.pl ++ List.replicate (N.length - (ds.length + 1)) .un)
theorem start_rpM {N : List Str} {G H : Hp} {p : Addr} {xs : List V} {vs : List V} {bs ds : List PyData} (sg : Same G H) (gp : G p = none) (hp : H p = some (.lst xs)) (hb : DqAll K G xs bs) (hd : DqAll K G vs ds) :
    Rp K ⟨H, G, fun i => if i = 0 then some p else none⟩ (fun i => if i = 0 then some p else none) G (L2.start N (.ref p :: vs)) H (iniM N bs ds) := by
  have hl := hd.length
  have no : ∀ {i : Nat} {q : Addr}, (if i = 0 then some p else none) = some q → i = 0 ∧ q = p := fun {i q} e => by
    split at e
    · cases e
      exact ⟨by assumption, rfl⟩
    · cases e
  have tail : ∀ (i : Nat) (c : Cel), (iniM N bs ds)[i + 1]? = some c → c = .un ∨ ∃ d, ds[i]? = some d ∧ c = .pl d := fun i c e => by
    have e' : (ds.map Cel.pl ++ List.replicate (N.length - (ds.length + 1)) .un)[i]? = some c := e
    rw [List.getElem?_append] at e'
    split at e'
    · rw [List.getElem?_map] at e'
      obtain ⟨d', h1, h2⟩ := Option.map_eq_some_iff.mp e'
      exact .inr ⟨d', h1, h2.symm⟩
    · rw [List.getElem?_replicate] at e'
      split at e'
      · exact .inl (Option.some.inj e').symm
      · cases e'
  refine ⟨sg, by simp [L2.start, iniM, hl], fun i d e => ?_, fun i ds' e => ?_, fun i ds' e => ?_, fun i q e => ?_, fun i j q e1 e2 => ?_, fun c o e _ => e, fun c e => e, Same.refl _, fun c e => .inl e⟩
  · cases i with
    | zero => cases e
    | succ i =>
      rcases tail i _ e with z | ⟨d', h1, h2⟩
      · cases z
      · cases h2
        obtain ⟨v, h3, h4⟩ := hd.get h1
        refine ⟨v, ?_, h4⟩
        have li := (List.getElem?_eq_some_iff.mp h3).1
        show (vs.map some ++ List.replicate _ none)[i]? = _
        rw [List.getElem?_append_left (by rw [List.length_map]; exact li), List.getElem?_map, h3]
        rfl
  · cases i with
    | zero => cases e
    | succ i =>
      rcases tail i _ e with z | ⟨d', h1, h2⟩
      · cases z
      · cases h2
  · cases i with
    | zero =>
      cases e
      exact ⟨p, xs, rfl, rfl, rfl, hp, hb⟩
    | succ i =>
      rcases tail i _ e with z | ⟨d', h1, h2⟩
      · cases z
      · cases h2
  · obtain ⟨rfl, rfl⟩ := no e
    exact ⟨⟨.io bs, rfl, rfl⟩, gp, some_ne hp, .inr ⟨0, rfl⟩⟩
  · obtain ⟨rfl, rfl⟩ := no e1
    exact (no e2).1.symm
theorem def_M {x qual : Str} {st : Stmt} {f : Addr} {fd : FuncData} {N ps : List Str} {k : Nat} {g : List PyData → List PyData → Option (PyData × List PyData)} {sv : SM} (F : Fun K x qual st f fd) (S : FnScope N ps (defScope st))
    (h : ∀ (cdv : Value) (A : Around) (outer : List Env) (s : Shared) (H : Hp) (E : XK), Room k (A.deeper (envOfC qual (defScope st) s.heap.objs.size f cdv)) → DSs K XN (cxOf CX0 P w K mg base N qual (defScope st) f cdv A outer s H E).nox (defBody st) sv)
    (sp : ∀ bs ds z, g bs ds = some z → ds.length + 1 = ps.length ∧ ∃ r', r'[0]? = some (Cel.io z.2) ∧ (sv (iniM N bs ds) = some (.rt z.1 r') ∨ z.1 = .none ∧ sv (iniM N bs ds) = some (.nx r'))) : FnOk P w K mg base CX0 (k + 1) f fd ps (spM K g) := by
  refine F.ok S (fun vs H Q E ⟨G, p, xs, ws, bs, ds, z, bs', e, sg, gp, hp, hb, hd, hz, q⟩ => by rw [e, List.length_cons, hd.length]; exact (sp bs ds _ hz).1) fun cdv A outer s H vs Q E hr ⟨G, p, xs, ws, bs, ds, z, bs', e, sg, gp, hp, hb, hd, hz, q⟩ => ?_
  subst e
  refine ⟨_, (h cdv A outer s H E hr).ps rfl, ?_⟩
  obtain ⟨_, r', hr0, e⟩ := sp bs ds _ hz
  have fin : ∀ (O' : Ow) (G' : Hp) (σ' : L2.St) (H' : Hp) (v : V), Rp K ⟨H, G, fun i => if i = 0 then some p else none⟩ O' G' σ' H' r' → Dq K G' v z → Q v H' := fun O' G' σ' H' v R hv => by
    obtain ⟨p', xs', h0, h1, h2, h3, h4⟩ := R.io 0 _ hr0
    cases h0
    exact q v G' H' xs' R.g0 R.sub (R.on 0 p h1).2.1 (fun c o n e => R.old c o e fun i z => by
      dsimp only at z
      split at z
      · cases z
        exact n rfl
      · cases z) R.gn h3 h4 hv
  rcases e with e | ⟨hz0, e⟩
  · exact ⟨_, _, G, _, _, start_rpM sg gp hp hb hd, e, fun O' G' σ' H' v R g hv => fin O' G' σ' H' v R hv⟩
  · refine ⟨_, _, G, _, _, start_rpM sg gp hp hb hd, e, fun O' G' σ' H' R g => fin O' G' σ' H' .non R ?_⟩
    rw [show z = .none from hz0]
    exact .non
end
end DL
namespace DL
open PySem PySem.Spec PyProof.Rows L2 Lk
/-! ## the readings by name -/
def mOp2 (g : PyData → PyData → Option PyData) (ma mb : M PyData) : M PyData := ma.bind fun d => mb.bind fun e => M.lift (g d e)
def mOpT (g : PyData → PyData → Option PyData) (ma mb : M PyData) : M Bool := ma.bind fun d => mb.bind fun e => M.lift ((g d e).bind asBool)
def mCons (ma : M PyData) (m : M (List PyData)) : M (List PyData) := ma.bind fun d => m.bind fun ds => M.ret (d :: ds)
def mNil : M (List PyData) := M.ret []
def mCall (g : List PyData → Option PyData) (m : M (List PyData)) : M PyData := m.bind fun ds => M.lift (g ds)
def mCallF (g : List PyData → Option (List PyData)) (m : M (List PyData)) : M (List PyData) := m.bind fun ds => M.lift (g ds)
def mTup (m : M (List PyData)) : M PyData := m.bind fun ds => M.lift (tupM ds)
def mLst (m : M (List PyData)) : M (List PyData) := m.bind fun ds => M.lift (lstM ds)
def mNew (m : M (List PyData)) : M PyData := m.map PyData.list
def mVal (m : M PyData) : M Bool := m.bind fun d => M.lift (asBool d)
def mTru (m : M PyData) : M Bool := m.bind fun d => M.lift (truD d)
def mNotT (m : M Bool) : M Bool := m.bind fun b => M.ret (!b)
def mNotV (m : M PyData) : M PyData := m.bind fun d => (M.lift (asBool d)).bind fun b => M.ret (.bool (!b))
def mIsi (n : String) (m : M PyData) : M PyData := m.bind fun d => M.ret (.bool (isTy n d))
def mNeg (m : M PyData) : M PyData := m.bind fun d => M.lift (negM d)
def mSeq (m : M PyData) : M (List PyData) := m.bind fun d => M.lift (asSeq d)
def mRng1 (m : M (List PyData)) : M (List PyData) := m.bind fun ds => M.lift (if ds.length = 1 then rngM ds else none)
def mRng2 (m : M (List PyData)) : M (List PyData) := m.bind fun ds => M.lift (if ds.length = 2 then rngM ds else none)
def mPart (m : M PyData) : M (Option Int) := m.bind fun d => M.lift ((asInt d).map some)
def mNoPart : M (Option Int) := M.ret none
def mSlice (m : M PyData) (ml mh : M (Option Int)) : M (List PyData) := m.bind fun d => ml.bind fun l => mh.bind fun h => M.lift ((asList d).map fun ds => cutD ds l h)
def mSliceT (m : M PyData) (ml mh : M (Option Int)) : M PyData := m.bind fun d => ml.bind fun l => mh.bind fun h => M.lift ((asTup d).bind fun ds => if HT.sIx ds.length 0 l = 0 ∧ HT.sIx ds.length ds.length h = ds.length then none else some (.tuple (cutD ds l h)))
def sAsg (m : M PyData) (g : PyData → En → Option En) : SM := sBind m fun d r => (g d r).map .nx
def sBrk : SM := fun r => some (.bk r)
def sCont : SM := fun r => some (.ct r)
def sNo : SM := fun _ => none
def outD : Option Fl → Option PyData
  | some (.rt z _) => some z
  | some (.nx _) => some .none
  | _ => none
def runD (N : List Str) (n : Nat) (sv : SM) (ds : List PyData) : Option PyData := if ds.length = n then outD (sv (ini N ds)) else none
def outF : Option Fl → Option (List PyData)
  | some (.rf z _) => some z
  | _ => none
def runF (N : List Str) (n : Nat) (sv : SM) (ds : List PyData) : Option (List PyData) := if ds.length = n then outF (sv (ini N ds)) else none
def ioAt (r : En) : Option (List PyData) := match r[0]? with
  | some (Cel.io bs) => some bs
  | _ => none
theorem ioAt_some {r : En} {bs : List PyData} (h : ioAt r = some bs) : r[0]? = some (Cel.io bs) := by
  unfold ioAt at h
  split at h
  · rename_i e
    cases h
    exact e
  · cases h
def outM : Option Fl → Option (PyData × List PyData)
  | some (.rt z r) => (ioAt r).map fun bs => (z, bs)
  | some (.nx r) => (ioAt r).map fun bs => (.none, bs)
  | _ => none
def runM (N : List Str) (n : Nat) (sv : SM) (bs ds : List PyData) : Option (PyData × List PyData) := if ds.length + 1 = n then outM (sv (iniM N bs ds)) else none
section
variable {P : Program} {w : World} {K : PySem.W.Frag} {mg : Str → Option Value} {base : Heap}
theorem def_d {x qual : Str} {st : Stmt} {f : Addr} {fd : FuncData} {N ps : List Str} {k n : Nat} {sv : SM} (F : Fun K x qual st f fd) (S : FnScope N ps (defScope st)) (hb : Binds K fd ps []) (hm : mg x = some (.ref f))
    (h : ∀ (cdv : Value) (A : Around) (outer : List Env) (s : Shared) (H : Hp) (E : XK), Room k (A.deeper (envOfC qual (defScope st) s.heap.objs.size f cdv)) → DSs K XN (cxOf CX0 P w K mg base N qual (defScope st) f cdv A outer s H E).nox (defBody st) sv)
    (hn : ps.length = n := by rfl) : Has P w K mg base (k + 1) x ps (spD K (runD N n sv)) := by
  refine ⟨f, fd, def_D F S h fun ds z e => ?_, hb, hm, F.kp⟩
  unfold runD at e
  split at e
  · rename_i hl
    refine ⟨hl.trans hn.symm, ?_⟩
    cases q : sv (ini N ds) with
    | none => rw [q] at e; cases e
    | some fl =>
      rw [q] at e
      cases fl with
      | rt d r => cases e; exact ⟨r, .inl rfl⟩
      | nx r => cases e; exact ⟨r, .inr ⟨rfl, rfl⟩⟩
      | _ => cases e
  · cases e
theorem def_f {x qual : Str} {st : Stmt} {f : Addr} {fd : FuncData} {N ps : List Str} {k n : Nat} {sv : SM} (F : Fun K x qual st f fd) (S : FnScope N ps (defScope st)) (hb : Binds K fd ps []) (hm : mg x = some (.ref f))
    (h : ∀ (cdv : Value) (A : Around) (outer : List Env) (s : Shared) (H : Hp) (E : XK), Room k (A.deeper (envOfC qual (defScope st) s.heap.objs.size f cdv)) → DSs K XN (cxOf CX0 P w K mg base N qual (defScope st) f cdv A outer s H E).nox (defBody st) sv)
    (hn : ps.length = n := by rfl) : Has P w K mg base (k + 1) x ps (spF K (runF N n sv)) := by
  refine ⟨f, fd, def_F F S h fun ds z e => ?_, hb, hm, F.kp⟩
  unfold runF at e
  split at e
  · rename_i hl
    refine ⟨hl.trans hn.symm, ?_⟩
    cases q : sv (ini N ds) with
    | none => rw [q] at e; cases e
    | some fl =>
      rw [q] at e
      cases fl with
      | rf d r => cases e; exact ⟨r, rfl⟩
      | _ => cases e
  · cases e
theorem def_m {x qual : Str} {st : Stmt} {f : Addr} {fd : FuncData} {N ps : List Str} {k n : Nat} {sv : SM} (F : Fun K x qual st f fd) (S : FnScope N ps (defScope st)) (hb : Binds K fd ps []) (hm : mg x = some (.ref f))
    (h : ∀ (cdv : Value) (A : Around) (outer : List Env) (s : Shared) (H : Hp) (E : XK), Room k (A.deeper (envOfC qual (defScope st) s.heap.objs.size f cdv)) → DSs K XN (cxOf CX0 P w K mg base N qual (defScope st) f cdv A outer s H E).nox (defBody st) sv)
    (hn : ps.length = n := by rfl) : Has P w K mg base (k + 1) x ps (spM K (runM N n sv)) := by
  refine ⟨f, fd, def_M F S h fun bs ds z e => ?_, hb, hm, F.kp⟩
  unfold runM at e
  split at e
  · rename_i hl
    refine ⟨hl.trans hn.symm, ?_⟩
    cases q : sv (iniM N bs ds) with
    | none => rw [q] at e; cases e
    | some fl =>
      rw [q] at e
      cases fl with
      | rt d r =>
        simp only [outM] at e
        obtain ⟨bs', h0, rfl⟩ := Option.map_eq_some_iff.mp e
        exact ⟨r, ioAt_some h0, .inl rfl⟩
      | nx r =>
        simp only [outM] at e
        obtain ⟨bs', h0, rfl⟩ := Option.map_eq_some_iff.mp e
        exact ⟨r, ioAt_some h0, .inr ⟨rfl, rfl⟩⟩
      | _ => cases e
  · cases e
end
end DL
namespace DL
open PySem PySem.Spec PyProof.Rows L2 Lk
/-! ## more operators -/
def shrM : PyData → PyData → Option PyData
  | .int a, .int b => if 0 ≤ b then some (.int (a / 2 ^ b.toNat)) else none
  | _, _ => none
section
variable {K : PySem.W.Frag} {E : XE} {X : Cx} {a b e : Expr} {es : List Expr} {ma mb : M PyData} {m : M (List PyData)} {pos : Pos}
theorem opd_shr : OpD K X (binaryOp .RShift) shrM := fun hK => by
  intro pins s σ H x y v u Q I rx ry h
  obtain ⟨G, d, e, z, sg, hd, he, hz, q⟩ := h
  unfold shrM at hz
  split at hz
  · split at hz
    · rename_i hl
      cases hz; cases hd; cases he
      exact op_shr pins s σ H _ _ v u Q I rx ry ⟨_, _, rfl, rfl, hl, q _ G H (Ps.refl sg) (.int _)⟩
    · cases hz
  · cases hz
/-- [*xs, a, ..] -/
def mStar (ma : M PyData) (m : M (List PyData)) : M (List PyData) := ma.bind fun d => (M.lift (asSeq d)).bind fun xs => m.bind fun ds => M.ret (xs ++ ds)
theorem da_star {p : Pos} (ha : DE K E X e ma) (hr : DA K E X es m) (hs : starEach (.Starred e p :: es) X.env = (true, eval e X.env) :: starEach es X.env := by rfl) : DA K E X (.Starred e p :: es) (mStar ma m) := ⟨fun hK => by
  subst hK
  refine PA.imp (StX.pa_star (ha.pe rfl) (hr.pa rfl) hs) fun σ H Q ⟨F, O, G, r, out, P, em, f⟩ => ?_
  refine tM.run P f em fun d r1 x G1 H1 P1 g1 q1 e1 f1 => ?_
  obtain ⟨xs, hx, e2⟩ := bind_lift_ok e1
  have go : ∀ (ys : List V), DqAll X.K G1 ys xs → tM X.K E (rA X.K) m σ H1 fun zs H2 => Q (ys ++ zs) H2 := fun ys hy => tM.run P1 f1 e2 fun ds r2 zs G2 H2 P2 g2 q2 e3 f2 => by
    cases e3
    exact f2.ok (Ps.refl P2.sub) P2 ((hy.sm g2.gg).append q2)
  cases d <;> first | cases hx | skip
  · cases q1 with
    | lst hs ha => exact ⟨_, _, rfl, .inr ((P1.sub.seq hs)), go _ ha⟩
  · cases q1 with
    | tup hs ha => exact ⟨_, _, rfl, .inl (Lk.Same.tup P1.sub hs), go _ ha⟩⟩
/-- list(range(n)) -/
def mLRng1 (ma : M PyData) : M (List PyData) := ma.bind fun d => M.lift ((asInt d).bind fun n => if n.natAbs ≤ 1000000 then some (rngL 0 n.toNat) else none)
theorem dq_rng {G : Hp} {a b : Int} : DqAll K G (rgV a b) (rngL a (b - a).toNat) := by
  have key : ∀ l : List Nat, DqAll K G (l.map fun i => V.int (a + (i : Nat))) (l.map fun i => PyData.int (a + (i : Nat))) := fun l => by
    induction l with
    | nil => exact .nil
    | cons i l ih => exact .cons (.int _) ih
  exact key _
theorem df_lrng1 {p p2 pos2 : Pos} (hc : X.calm = true) (hg : Gl X "list") (hm : X.mg "list" = none) (hg2 : Gl X "range") (hm2 : X.mg "range" = none) (ha : DE K E X a ma) (na : starEach [a] X.env = (false, eval a X.env) :: starEach [] X.env := by rfl)
    (na2 : starEach [.Call (.Name "range" p2) [a] [] pos2] X.env = (false, eval (.Call (.Name "range" p2) [a] [] pos2) X.env) :: starEach [] X.env := by rfl) : DF K E X (.Call (.Name "list" p) [.Call (.Name "range" p2) [a] [] pos2] [] pos) (mLRng1 ma) := ⟨fun hK => by
  refine PE.imp (pe_listRg hc hg hm (prg_1 hg2 hm2 (ha.pe hK) na) na2) fun σ H Q ⟨F, O, G, r, out, P, em, f⟩ => ?_
  refine tM.run P f em fun d r1 x G1 H1 P1 g1 q1 e1 f1 => ?_
  obtain ⟨z, hz, rfl⟩ := lift_ok e1
  obtain ⟨n, hn, hz2⟩ := Option.bind_eq_some_iff.mp hz
  cases asInt_some hn
  cases q1
  split at hz2
  · rename_i hl
    cases hz2
    refine ⟨n, rfl, ⟨by omega, by omega, by omega, by omega, by omega⟩, fun q nq => f1.ok (Ps.of_same P1.sub (same_new nq)) P1 ⟨q, _, rfl, nq, P1.sub.free nq, P1.nf _ nq, fun i z => (P1.on i q z).2.2.1 nq, upd_same, ?_⟩⟩
    have := dq_rng (K := K) (G := G1) (a := 0) (b := n)
    rw [Int.sub_zero] at this
    exact this
  · cases hz2⟩
/-- a, b = x, y -/
def sPar (i j : Nat) (m : M (List PyData)) : SM := sBind m fun ds r => match ds with
  | [d, e] => sSeq (sPut i d) (sPut j e) r
  | _ => none
theorem ds_par {i j : Nat} {x y : Str} {px py pt : Pos} {kt k2 pt2} (hc : X.calm = true) (hN : X.N.Nodup) (hi : X.N[i]? = some x) (hj : X.N[j]? = some y) (hij : i ≠ j)
    (hx : X.env.scope.names.lookup x = some .local) (hy : X.env.scope.names.lookup y = some .local) (ha : DA K E X [a, b] m)
    (hw : swappedStores [.Tuple [.Name x px, .Name y py] kt pt] (.Tuple [a, b] k2 pt2) X.env = pure (some [x, y]))
    (hs : swapsWithSole [.Tuple [.Name x px, .Name y py] kt pt] (.Tuple [a, b] k2 pt2) pos.line X.env = pure false := by rfl) :
    DS K E X (.Assign [.Tuple [.Name x px, .Name y py] kt pt] (.Tuple [a, b] k2 pt2) pos) (sPar i j m) := ⟨fun hK => by
  refine PS.imp (ps_par hc hN hi hj hij hx hy (ha.pa hK) hw hs) fun D σ H ⟨F, O, G, r, fl, P, em, f⟩ => ?_
  refine tS.run P f em fun ds r1 vs G1 H1 P1 g1 q1 e1 f1 => ?_
  split at e1
  · obtain ⟨v, w, rfl, hv, hw⟩ := two_of q1
    refine ⟨v, w, rfl, ?_⟩
    unfold sSeq at e1
    cases e2 : sPut i _ r1 with
    | none => rw [e2] at e1; cases e1
    | some fl2 =>
      rw [e2] at e1
      unfold sPut at e2
      split at e2
      · cases e2
      · rename_i cel hne hc
        cases e2
        simp only at e1
        unfold sPut at e1
        split at e1
        · cases e1
        · rename_i cel2 hne2 hc2
          cases e1
          have P2 := P1.put0 (fun ds z => hne ds (Option.some.inj (hc.symm.trans z))) hv
          exact f1 _ G1 _ H1 (P2.put0 (fun ds z => hne2 ds (Option.some.inj (hc2.symm.trans z))) hw) (Same.refl _)
        · cases e1
      · cases e2
  · cases e1⟩
/-! ## methods -/
def rMt (K : PySem.W.Frag) (g : PyData → List PyData → Option PyData) : V → List V → Hp → VK → Prop := fun x xs H Q => ∃ G d ds z, Same G H ∧ Dq K G x d ∧ DqAll K G xs ds ∧ g d ds = some z ∧ ∀ v G' H', Ps G H G' H' → Dq K G' v z → Q v H'
def MtD (K : PySem.W.Frag) (X : Cx) (id : String) (g : PyData → List PyData → Option PyData) : Prop := X.K = K → MtR X id (rMt K g)
/-- of that built-in type, one that bears methods here -/
def hasT (T : String) : PyData → Bool
  | .str _ => T == "str"
  | .int _ => T == "int"
  | .list _ => T == "list"
  | _ => false
def mMt (T : String) (g : PyData → List PyData → Option PyData) (ma : M PyData) (m : M (List PyData)) : M PyData := ma.bind fun d => if hasT T d then m.bind fun ds => M.lift (g d ds) else fun _ => none
theorem dq_ty {G H : Hp} {x : V} {d : PyData} {T : String} (h : Dq K G x d) (s : Same G H) (t : hasT T d = true) : tyV K T x H := by
  cases h with
  | str x => exact eq_of_beq t
  | int i => exact eq_of_beq t
  | lst hs ha => exact .inl ⟨eq_of_beq t, _, (s.seq hs)⟩
  | _ => cases t
theorem de_bm {T id : String} {name : Str} {ap : Pos} {g : PyData → List PyData → Option PyData} (pa : PlainAttrs T) (slot : Slot T name id) (hty : typeOf (.builtin id) = pure (.type "method_descriptor")) (hm : MtD K X id g) (ho : DE K E X a ma) (ha : DA K E X (e :: es) m)
    (hbase : attributeBase a name X.env (eval a X.env) = eval a X.env := by rfl)
    (hfew : ((backTo pos (starEach (e :: es) X.env)).all (fun x => !x.1) && (backToKw pos (keywordEach [] X.env)).all (fun x => x.1.isSome)
      && decide ((e :: es).length + ([] : List Keyword).length + (if ([] : List Keyword).isEmpty then 0 else 1) < 30)) = true := by rfl)
    (hline : (ap.endLine == pos.line) = true := by rfl) (hs : starEach (e :: es) X.env = (false, eval e X.env) :: starEach es X.env := by rfl) (hplain : (backTo pos (starEach es X.env)).any (·.1) = false := by rfl) :
    DE K E X (.Call (.Attribute a name ap) (e :: es) [] pos) (mMt T g ma m) := ⟨fun hK => by
  subst hK
  refine PE.imp (pe_bm pa slot hty (hm rfl) (ho.pe rfl) (ha.pa rfl) hbase hfew hline hs hplain) fun σ H Q ⟨F, O, G, r, out, P, em, f⟩ => ?_
  refine tM.run P f em fun d r1 x G1 H1 P1 g1 q1 e1 f1 => ?_
  split at e1
  · rename_i ht
    refine ⟨dq_ty q1 P1.sub ht, tM.run P1 f1 e1 fun ds r2 xs G2 H2 P2 g2 q2 e2 f2 => ?_⟩
    obtain ⟨z, hz, rfl⟩ := lift_ok e2
    exact ⟨G2, d, ds, z, P2.sub, q1.sm g2.gg, q2, hz, fun v G' H' p q => f2.ok p P2 q⟩
  · cases e1⟩
def countM : PyData → List PyData → Option PyData
  | .list ds, [d] => if flatD d && ds.all flatD then some (.int ((ds.countP fun z => PyData.eqv z d : Nat) : Int)) else none
  | _, _ => none
theorem countP_eqU {x : V} : ∀ {xs : List V} {us : List Value}, Vals xs us → xs.all flatV = true → us.countP (eqU x) = xs.countP fun y => eqV y x
  | [], [], .nil, _ => rfl
  | y :: xs, u :: us, .cons r t, f => by
    rw [List.all_cons, Bool.and_eq_true] at f
    rw [List.countP_cons, List.countP_cons, eqU_of r f.1, countP_eqU t f.2]
theorem dq_countV {G : Hp} {x : V} {d : PyData} (hx : Dq K G x d) (f : flatD d = true) : ∀ {vs : List V} {ds : List PyData}, DqAll K G vs ds → ds.all flatD = true → (vs.countP fun y => eqV y x) = ds.countP fun z => PyData.eqv z d
  | _, _, .nil, _ => rfl
  | _, _, .cons h1 h2, g => by
    rw [List.all_cons, Bool.and_eq_true] at g
    rw [List.countP_cons, List.countP_cons, dq_countV hx f h2 g.2, dq_eqV h1 hx g.1 f]
theorem mtd_count : MtD K X "list.count" countM := fun hK => by
  subst hK
  intro pins s σ H x xs v us Q I rx rxs h
  obtain ⟨G, d, ds, z, sg, hd, hds, hz, q⟩ := h
  unfold countM at hz
  split at hz
  · split at hz
    · rename_i hfl
      rw [Bool.and_eq_true] at hfl
      cases hz
      cases hd with
      | lst hs ha =>
        cases rx
        obtain ⟨w, rfl, hw⟩ := one_of hds
        obtain ⟨u, rfl, ru⟩ := rxs.one
        obtain ⟨its, rv, ⟨⟨cls, dd, data, sl⟩, n, ho, hc, hdn, hdt⟩, hlen⟩ := I.list ((sg.seq hs))
        simp only at hc hdt
        subst hc hdt
        have fw := dq_flat hw hfl.1
        have fx := dq_flats ha hfl.2
        refine call_meets PySem.F.slot_list_count ⟨_, ho, rfl⟩ PySem.F.entry_list_count (PySem.F.args_list_count_2 _ _)
          (SeqAt.list_countAt _ its.toArray n dd sl u (eqU w)) ⟨ho, fun y hy => mem_eqAt ru fw rv fx y (by simpa using hy), ?_⟩
        have ec : its.toArray.toList.countP (eqU w) = _ := (countP_eqU rv fx).trans (dq_countV hw hfl.1 ha hfl.2)
        refine ⟨.int _, H, I.tok _, ⟨s.toks, ?_⟩, q _ G H (Ps.refl sg) (.int _)⟩
        show Value.int ((its.toArray.toList.countP (eqU w) : Nat) : Int) s.toks = _
        rw [ec]
    · cases hz
  · cases hz
/-! ## xs.extend(e) -/
open PySem.AutoSeq1 in
theorem list_extend_tupA (l : Addr) (items : Array Value) (n : Nat) (b : Addr) (items2 : Array Value) (n2 : Nat) (od : Option Addr) (sl : Array (Option Value)) (hs0 : ¬(!items.isEmpty && Builtin.List.listTooLong (items.size + items2.size)) = true) (hs1 : items.size ≤ sizeLine) (hs2 : items.size + items2.size ≤ sizeLine + 1 := by seq_fits) :
    Meets (Builtin.«list.extend» ⟨[.ref l, .ref b], []⟩) (fun _ R s => s.heap.get? l = some { cls := .type "list", dict := none, data := .seq items n, slots := #[] } ∧ s.heap.get? b = some { cls := .type "tuple", dict := od, data := .seq items2 n2, slots := sl } ∧ R (.ok (.ret Value.none)) { s with heap := s.heap.update l (Obj.mapSeq fun x => x ++ items2), toks := s.toks }) :=
  .of_wp fun prog w A R s h => by
    obtain ⟨hp, g, d, tk, os⟩ := s; obtain ⟨hl, hb, h⟩ := h; have f1 := idx_int; have f2 := AutoSeq1.sub_tuple_tuple; have f3 := AutoSeq1.sub_list_list; have f4 := AutoSeq1.sub_tuple_list; have f5 := AutoSeq1.sub_list_tuple;
    have hz' : (items ++ items2).size ≤ sizeLine + 1 := by rw [Array.size_append]; exact hs2
    wp_walk using (wpAny_updateSeq hl rfl (hz := hs1) (_hz' := hz')), wpAny_loadPart' hl, wpAny_loadPart' hb; exact ⟨_, rfl, h⟩
def rExtendA (K : PySem.W.Frag) : V → List V → Hp → VK → Prop := fun x vs H Q => ∃ l b xs zs, x = .ref l ∧ vs = [.ref b] ∧ H l = some (.lst xs) ∧ SqT K H b zs ∧ xs.length + zs.length ≤ sizeLine ∧ Q .non (upd H l (.lst (xs ++ zs)))
theorem mt_extendA : MtM X "list.extend" (rExtendA X.K) := by
  intro pins s σ H x vs v us Q I rx rv h
  obtain ⟨l, b, xs, zs, rfl, rfl, hH, hB, hz, q⟩ := h
  cases rx
  obtain ⟨u, rfl, ru⟩ := rv.one
  cases ru
  obtain ⟨z, its, n, r, hl, e⟩ := I.lstM hH
  obtain ⟨its2, r2, ⟨⟨oc, od, odata, osl⟩, e2, hc, n2, hdata⟩, z2⟩ := I.tuple hB
  have hl2 : zs.length = its2.length := r2.length
  cases hc
  cases hdata
  have hsz : its.toArray.size + its2.toArray.size ≤ sizeLine := by rw [List.size_toArray, List.size_toArray]; omega
  have hlong : ¬ (!its.toArray.isEmpty && Builtin.List.listTooLong (its.toArray.size + its2.toArray.size)) = true := by
    rw [notLongL hsz, Bool.and_false]
    exact Bool.false_ne_true
  refine call_meets F.slot_list_extend ⟨_, e, rfl⟩ F.entry_list_extend (F.args_list_extend_2 _ _)
    (list_extend_tupA l its.toArray n b its2.toArray n2 od osl hlong (by rw [List.size_toArray]; omega) (by omega)) ⟨e, e2, ?_⟩
  refine ⟨.non, _, I.lset (its' := its ++ its2) hH e (by simp) (r.append r2) ?_, rfl, q⟩
  rw [List.length_append]
  omega
def sExt (i : Nat) (m : M PyData) : SM := fun r0 => if (ownOf r0[i]?).isSome then sBind m (fun d r => match ownOf r[i]?, asTup d with
  | some ds, some es => if ds.length + es.length ≤ 1000000 then some (.nx (upO i (ds ++ es) r)) else none
  | _, _ => none) r0 else none
theorem ds_ext (i : Nat) {st : Stmt} {te : TE} (ha : X.K = K → ∀ σ H Q, tM K E (rD K) ma σ H Q → te σ H Q) (hp : PS X st (tDrop (tBM X.K "list" (rExtendA X.K) (tVar i) (tCons te tNil)))) : DS K E X st (sExt i ma) := ⟨fun hK => by
  subst hK
  refine PS.imp hp fun D σ H ⟨F, O, G, r, fl, P, em, ff⟩ => ?_
  unfold sExt at em
  split at em
  · rename_i hs
    obtain ⟨bs0, e0⟩ := isSome_ex hs
    obtain ⟨q, xs0, hq, hσ, hx0, _⟩ := P.own_at e0
    refine ⟨_, hσ, .inl ⟨rfl, _, .inl (.inl hx0)⟩, ha rfl _ _ _ (tS.run P ff em fun d r1 x G1 H1 P1 g1 q1 e1 f1 => ?_)⟩
    split at e1
    · rename_i ds es e2 hes
      split at e1
      · rename_i hl
        cases e1
        obtain ⟨q', xs1, hq', hσ', hx, hb⟩ := P1.own_at e2
        rw [hq] at hq'
        cases hq'
        have gp := (P1.on i q hq).2.1
        have fin : ∀ (ys : List V), DqAll X.K G1 ys es → D.nx σ (upd H1 q (.lst (xs1 ++ ys))) := fun ys hy => by
          obtain ⟨P2, g2⟩ := P1.chg e2 hq (Same.refl G1) (fun c o e => by rw [upd_ne (ne_of_none e gp)]; exact P1.sub _ _ e) gp (fun c o n e => by rw [upd_ne n]; exact e) (fun c e => .inl e) (upd_same (o := .lst (xs1 ++ ys))) (hb.append hy)
          exact f1 O G1 σ _ P2 (Same.refl _)
        cases asTup_some hes
        cases q1 with
        | tup hs ha => exact ⟨q, _, xs1, _, rfl, rfl, hx, Lk.Same.tup P1.sub hs, line_le (by rw [hb.length, ha.length]; exact hl), fin _ ha⟩
      · cases e1
    · cases e1
  · cases em⟩
end
end DL
namespace DL
open PySem PySem.Spec PyProof.Rows L2 Lk
/-! ## comprehensions of two clauses -/
/-- the inner clause: vs1 its names -/
def lcIn (vs1 : List Nat) (g : PyData → En → Option En) (mt : M Bool) (me : M PyData) : List PyData → En → Option (List PyData × En) := lcGo vs1 g mt me
def lc2Go (vs vs1 : List Nat) (g : PyData → En → Option En) (mt : M Bool) (mi1 : M (List PyData)) (g1 : PyData → En → Option En) (mt1 : M Bool) (me : M PyData) : List PyData → En → Option (List PyData × En)
  | [], r => some ([], wipeE r vs)
  | x :: xs, r => (g x (wipeE r vs)).bind fun r1 => match mt r1 with
    | some (.ok true r2) => (match mi1 r2 with
      | some (.ok items r3) => (lcGo vs1 g1 mt1 me items r3).bind fun z => (lc2Go vs vs1 g mt mi1 g1 mt1 me xs z.2).map fun y => (z.1 ++ y.1, y.2)
      | _ => none)
    | some (.ok false r2) => lc2Go vs vs1 g mt mi1 g1 mt1 me xs r2
    | _ => none
def mLc2 (vs vs1 : List Nat) (mi : M (List PyData)) (g : PyData → En → Option En) (mt : M Bool) (mi1 : M (List PyData)) (g1 : PyData → En → Option En) (mt1 : M Bool) (me : M PyData) : M (List PyData) := mi.bind fun items r =>
  if freeAt r vs then (lc2Go vs vs1 g mt mi1 g1 mt1 me items r).bind fun z => if z.1.length ≤ 1000000 then some (.ok z.1 (restE r z.2 vs)) else none else none
section
variable {K : PySem.W.Frag} {E : XE} {X : Cx} {pos : Pos} {F : Fm} {O : Ow} {G H : Hp} {σ : L2.St} {r : En}
theorem own_none {vs : List Nat} (R : Rp K F O G σ H r) (o : ∀ v ∈ vs, O v = none) : ∀ v ∈ vs, ∀ ds, r[v]? ≠ some (Cel.ow ds) ∧ r[v]? ≠ some (Cel.io ds) := fun v hv ds => by
  refine ⟨fun e => ?_, fun e => ?_⟩
  · obtain ⟨p, xs, h1, _⟩ := R.ow v ds e
    rw [o v hv] at h1
    cases h1
  · obtain ⟨p, xs, _, h1, _⟩ := R.io v ds e
    rw [o v hv] at h1
    cases h1
theorem set_comm_wipe {v w : Nat} (σ : L2.St) : (σ.set v none).set w none = (σ.set w none).set v none := by
  by_cases h : v = w
  · subst h; rfl
  · exact List.set_comm _ _ h
theorem wipe_set {σ : L2.St} {v : Nat} : ∀ {vs : List Nat}, (L2.wipe σ vs).set v none = L2.wipe (σ.set v none) vs
  | [] => rfl
  | w :: vs => by
    show ((L2.wipe σ vs).set w none).set v none = (L2.wipe (σ.set v none) vs).set w none
    rw [set_comm_wipe, wipe_set (vs := vs)]
theorem wipe_sub {σ σ' : L2.St} {vs us : List Nat} (hs : ∀ u ∈ us, u ∈ vs) (h : L2.wipe σ us = L2.wipe σ' us) : L2.wipe σ vs = L2.wipe σ' vs := by
  have hl : σ.length = σ'.length := by rw [← wipe_length σ us, h, wipe_length]
  refine wipe_eq hl fun j hj => ?_
  have hj' : j ∉ us := fun z => hj (hs j z)
  rw [← wipe_out hj', h, wipe_out hj']
theorem wipeE_wipe : ∀ {vs : List Nat} {r : En}, (∀ v ∈ vs, r[v]? = some .un ∨ r[v]? = none) → wipeE r vs = r
  | [], _, _ => rfl
  | v :: vs, r, h => by
    show (wipeE r vs).set v .un = r
    rw [wipeE_wipe fun w hw => h w (List.mem_cons_of_mem _ hw)]
    rcases h v (List.mem_cons_self ..) with e | e
    · obtain ⟨h1, h2⟩ := List.getElem?_eq_some_iff.mp e
      rw [← h2, List.set_getElem_self]
    · rw [List.set_eq_of_length_le]
      exact List.getElem?_eq_none_iff.mp e
/-- the new list at D, unseen, so far -/
structure Acc (K : PySem.W.Frag) (F : Fm) (O : Ow) (G1 H1 : Hp) (D : Addr) (σ : L2.St) (G H : Hp) (r : En) (xs : List V) (ds : List PyData) : Prop where
  rp : Rp K F O G σ H r
  go : Go O G1 H1 G H
  gD : G D = none
  hD : H D = some (.lst xs)
  hx : DqAll K G xs ds
theorem Acc.step {G1 H1 G2 H2 : Hp} {D : Addr} {xs : List V} {ds : List PyData} {r2 : En} {σ2 : L2.St} (A : Acc K F O G1 H1 D σ G H r xs ds) (hDo : ∀ i, O i ≠ some D) (g : Go O G H G2 H2) (P : Rp K F O G2 σ2 H2 r2) : Acc K F O G1 H1 D σ2 G2 H2 r2 xs ds := by
  have hD2 := g.keep _ _ A.hD hDo
  refine ⟨P, A.go.trans g, ?_, hD2, A.hx.sm g.gg⟩
  cases z : G2 D with
  | none => rfl
  | some o =>
    rcases g.gn D (some_ne z) with w | w
    · exact absurd A.gD w
    · rw [A.hD] at w
      cases w
theorem Acc.app {G1 H1 : Hp} {D : Addr} {xs : List V} {ds : List PyData} {y : V} {d : PyData} (A : Acc K F O G1 H1 D σ G H r xs ds) (nD : H1 D = none) (hD0 : F.H0 D = none) (hDo : ∀ i, O i ≠ some D) (hy : Dq K G y d) : Acc K F O G1 H1 D σ G (upd H D (.lst (xs ++ [y]))) r (xs ++ [y]) (ds ++ [d]) :=
  ⟨A.rp.wr A.gD hD0 hDo, A.go.wr nD, A.gD, upd_same, A.hx.append (.cons hy .nil)⟩
theorem lc2_run {vs vs1 ts ts1 : List Nat} {mi : M (List PyData)} {g : PyData → En → Option En} {mt : M Bool} {mi1 : M (List PyData)} {g1 : PyData → En → Option En} {mt1 : M Bool} {me : M PyData} (hts : ∀ t ∈ ts, t ∈ vs) (hts1 : ∀ t ∈ ts1, t ∈ vs1) (hvs : ∀ t ∈ vs1, t ∈ vs) {Q : VK} (h : tM K E (rF K) (mLc2 vs vs1 mi g mt mi1 g1 mt1 me) σ H Q) :
    tLc2 (tM K E (rIt K) mi) (tG K ts g) (tM K XN rB mt) (tM K XN (rIt K) mi1) (tG K ts1 g1) (tM K XN rB mt1) (tM K XN (rD K) me) vs vs1 σ H Q := by
  obtain ⟨F, O, G, r, out, P, em, f⟩ := h
  refine tM.run P f em fun items r1 J G1 H1 P1 gg1 q1 e1 f1 => ?_
  split at e1
  · rename_i hfree
    obtain ⟨⟨ds, r'⟩, hgo, e1⟩ := Option.bind_eq_some_iff.mp e1
    split at e1
    · rename_i hlen
      cases e1
      dsimp only at hlen
      have ov := free_own P1 hfree
      have ov1 : ∀ v ∈ vs1, O v = none := fun v hv => ov v (hvs v hv)
      intro D nD
      have hD0 : F.H0 D = none := P1.nf _ nD
      have hDo : ∀ i, O i ≠ some D := fun i z => (P1.on i D z).2.2.1 nD
      have hDG : G1 D = none := P1.sub.free nD
      have A0 : Acc K F O G1 H1 D σ G1 (upd H1 D (.lst [])) r1 [] [] := ⟨P1.wr hDG hD0 hDo, Go.refl.wr nD, hDG, upd_same, .nil⟩
      refine ⟨fun i m H' => m = items.length - i ∧ i ≤ items.length ∧ ∃ G' r2 xs ds0 ds1, Acc K F O G1 H1 D (L2.wipe σ vs) G' H' (wipeE r2 vs) xs ds0 ∧ lc2Go vs vs1 g mt mi1 g1 mt1 me (items.drop i) r2 = some (ds1, r') ∧ ds = ds0 ++ ds1,
        ⟨items.length, by simp, Nat.zero_le _, G1, r1, [], [], ds, ⟨A0.rp.wipe ov, A0.go, A0.gD, A0.hD, A0.hx⟩, hgo, rfl⟩, ?_⟩
      rintro i m H' ⟨rfl, hi, G', r2, xs, ds0, ds1, A, hgo2, rfl⟩
      by_cases hlt : i < items.length
      · refine .inr ?_
        have e3 := List.getElem?_eq_getElem hlt
        rw [List.drop_eq_getElem_cons hlt] at hgo2
        obtain ⟨jgo, jy⟩ := (q1 i H' G' A.go.gg A.rp.sub).1 _ e3
        refine ⟨jgo, _, fun H4 p => ⟨_, (by omega : items.length - (i + 1) < items.length - i), p⟩, fun x H'' y => ?_⟩
        obtain ⟨G2, ps, hd⟩ := jy x H'' y
        obtain ⟨r3, e4, e5⟩ := Option.bind_eq_some_iff.mp hgo2
        have A2 := A.step hDo (ps.go (O := O)) (A.rp.ps ps)
        refine ⟨F, O, G2, _, r3, _, A2.rp, hd, e4, fun σ2 P3 l3 k3 => ?_⟩
        have w3 : L2.wipe σ2 vs = L2.wipe σ vs := by
          have := wipe_eq l3 (vs := vs) fun j hj => k3 j fun z => hj (hts j z)
          rw [this, wipe_wipe]
        refine ⟨w3, ?_⟩
        have A3 := A2.step hDo Go.refl P3
        cases em3 : mt r3 with
        | none => rw [em3] at e5; cases e5
        | some o3 =>
          rw [em3] at e5
          cases o3 with
          | ex c p => cases e5
          | ok b r4 =>
            refine ⟨F, O, G2, r3, _, P3, em3, fun b' G4 H4 P4 g4 hb => ?_⟩
            cases hb
            have A4 := A3.step hDo g4 P4
            cases b with
            | false =>
              refine iteF ⟨rfl, hlt, G4, r4, xs, ds0, ds1, ?_, e5, rfl⟩
              have := P4.wipe ov
              rw [w3] at this
              exact ⟨this, A4.go, A4.gD, A4.hD, A4.hx⟩
            | true =>
              refine iteT ?_
              cases em5 : mi1 r4 with
              | none =>
                simp only [em5] at e5
                cases e5
              | some o5 =>
                cases o5 with
                | ex c p =>
                  simp only [em5] at e5
                  cases e5
                | ok items1 r5 =>
                  simp only [em5] at e5
                  obtain ⟨⟨es, r6⟩, hgo6, e6⟩ := Option.bind_eq_some_iff.mp e5
                  obtain ⟨⟨fs, r7⟩, hgo7, e7⟩ := Option.map_eq_some_iff.mp e6
                  cases e7
                  refine ⟨F, O, G4, r4, _, P4, em5, fun J1 G5 H5 P5 g5 q5 => ?_⟩
                  have A5 := A4.step hDo g5 P5
                  refine ⟨fun j k H' => k = items1.length - j ∧ j ≤ items1.length ∧ ∃ G' r8 xs es0 es1, Acc K F O G1 H1 D (L2.wipe σ2 vs1) G' H' (wipeE r8 vs1) xs (ds0 ++ es0) ∧ Same G5 G' ∧ lcGo vs1 g1 mt1 me (items1.drop j) r8 = some (es1, r6) ∧ es = es0 ++ es1,
                    ⟨items1.length, by simp, Nat.zero_le _, G5, r5, xs, [], es, ⟨A5.rp.wipe ov1, A5.go, A5.gD, A5.hD, by rw [List.append_nil]; exact A5.hx⟩, Same.refl _, hgo6, rfl⟩, ?_⟩
                  rintro j k H6 ⟨rfl, hj, G6, r8, xs6, es0, es1, A6, gg6, hgo8, rfl⟩
                  by_cases hlt1 : j < items1.length
                  · refine .inr ?_
                    have e9 := List.getElem?_eq_getElem hlt1
                    rw [List.drop_eq_getElem_cons hlt1] at hgo8
                    obtain ⟨jgo1, jy1⟩ := (q5 j H6 G6 gg6 A6.rp.sub).1 _ e9
                    refine ⟨jgo1, _, fun H4 p => ⟨_, (by omega : items1.length - (j + 1) < items1.length - j), p⟩, fun x1 H7 y1 => ?_⟩
                    obtain ⟨G7, ps7, hd7⟩ := jy1 x1 H7 y1
                    obtain ⟨r9, e10, e11⟩ := Option.bind_eq_some_iff.mp hgo8
                    have A7 := A6.step hDo (ps7.go (O := O)) (A6.rp.ps ps7)
                    refine ⟨F, O, G7, _, r9, _, A7.rp, hd7, e10, fun σ3 P8 l8 k8 => ?_⟩
                    have w8 : L2.wipe σ3 vs1 = L2.wipe σ2 vs1 := by
                      have := wipe_eq l8 (vs := vs1) fun j hj => k8 j fun z => hj (hts1 j z)
                      rw [this, wipe_wipe]
                    refine ⟨w8, ?_⟩
                    have A8 := A7.step hDo Go.refl P8
                    cases em12 : mt1 r9 with
                    | none => rw [em12] at e11; cases e11
                    | some o12 =>
                      rw [em12] at e11
                      cases o12 with
                      | ex c p => cases e11
                      | ok b r10 =>
                        refine ⟨F, O, G7, r9, _, P8, em12, fun b' G9 H9 P9 g9 hb => ?_⟩
                        cases hb
                        have A9 := A8.step hDo g9 P9
                        cases b with
                        | false =>
                          refine iteF ⟨rfl, hlt1, G9, r10, xs6, es0, es1, ?_, (gg6.trans ps7.gg).trans g9.gg, e11, rfl⟩
                          have := P9.wipe ov1
                          rw [w8] at this
                          exact ⟨this, A9.go, A9.gD, A9.hD, A9.hx⟩
                        | true =>
                          refine iteT ?_
                          cases em13 : me r10 with
                          | none =>
                            simp only [em13] at e11
                            cases e11
                          | some o13 =>
                            cases o13 with
                            | ex c p =>
                              simp only [em13] at e11
                              cases e11
                            | ok d r11 =>
                              simp only [em13] at e11
                              obtain ⟨⟨es2, r12⟩, hgo14, e14⟩ := Option.map_eq_some_iff.mp e11
                              cases e14
                              refine ⟨F, O, G9, r10, _, P9, em13, fun y G10 H10 P10 g10 hy => ?_⟩
                              have A10 := A9.step hDo g10 P10
                              have ly : xs6.length = (ds0 ++ es0).length := A10.hx.length
                              have lx : xs6.length ≤ 1000000 := by
                                rw [ly]
                                simp only [List.length_append, List.length_cons] at hlen ⊢
                                omega
                              have A11 := A10.app nD hD0 hDo hy
                              refine ⟨xs6, A10.hD, line_lt lx, rfl, hlt1, G10, r11, xs6 ++ [y], es0 ++ [d], es2, ?_, ((gg6.trans ps7.gg).trans g9.gg).trans g10.gg, hgo14, by rw [List.append_assoc]; rfl⟩
                              have := A11.rp.wipe ov1
                              rw [w8] at this
                              exact ⟨this, A11.go, A11.gD, A11.hD, by rw [← List.append_assoc]; exact A11.hx⟩
                  · refine .inl ?_
                    have e9 : j = items1.length := by omega
                    subst e9
                    rw [List.drop_length] at hgo8
                    cases hgo8
                    refine ⟨(q5 _ H6 G6 gg6 A6.rp.sub).2 (Nat.le_refl _), rfl, hlt, G6, wipeE r8 vs1, xs6, ds0 ++ es0, fs, ?_, hgo7, by rw [List.append_nil, List.append_assoc]⟩
                    have := A6.rp.wipe ov
                    rw [wipe_sub hvs (wipe_wipe (σ := σ2) (vs := vs1)), w3] at this
                    exact ⟨this, A6.go, A6.gD, A6.hD, A6.hx⟩
      · refine .inl ?_
        have e3 : i = items.length := by omega
        subst e3
        rw [List.drop_length] at hgo2
        cases hgo2
        rw [List.append_nil] at f1
        refine ⟨(q1 _ H' G' A.go.gg A.rp.sub).2 (Nat.le_refl _), f1 _ G' H' (Rp.rest (fun v hv d e => ?_) (own_none P1 ov) A.rp ov) A.go ⟨D, xs, rfl, nD, A.gD, hD0, hDo, A.hD, A.hx⟩⟩
        obtain ⟨x, h1, h2⟩ := P1.pl v d e
        exact ⟨x, h1, h2.sm A.go.gg⟩
    · cases e1
  · cases e1
section
variable {elt tg iter tg1 iter1 : Expr} {ifs ifs1 : List Expr} {scope : Scope} {own : List (Str × Nat)} {vs1 ts ts1 : List Nat} {mi mi1 : M (List PyData)} {g g1 : PyData → En → Option En} {mt mt1 : M Bool} {me : M PyData}
theorem df_lc2 (hc : X.calm = true) (hN : X.N.Nodup) (hi : DI K E X tg iter mi) (ok : BlkOk X.N X.env.scope scope own) (hv : ∀ i ∈ vs1, i ∈ own.map (·.2))
    (hg : ∀ (s : Shared) (H : Hp) (C : Addr) (cl : List (Str × Addr)) (fp : List Addr), DG K (X.blk s H scope (compEnvC scope cl C X.env) fp) tg ts g) (ht : ∀ (s : Shared) (H : Hp) (C : Addr) (cl : List (Str × Addr)) (fp : List Addr), DTs K (X.blk s H scope (compEnvC scope cl C X.env) fp) ifs mt)
    (hi1 : ∀ (s : Shared) (H : Hp) (C : Addr) (cl : List (Str × Addr)) (fp : List Addr), DI K XN (X.blk s H scope (compEnvC scope cl C X.env) fp) tg1 iter1 mi1)
    (hg1 : ∀ (s : Shared) (H : Hp) (C : Addr) (cl : List (Str × Addr)) (fp : List Addr), DG K (X.blk s H scope (compEnvC scope cl C X.env) fp) tg1 ts1 g1) (ht1 : ∀ (s : Shared) (H : Hp) (C : Addr) (cl : List (Str × Addr)) (fp : List Addr), DTs K (X.blk s H scope (compEnvC scope cl C X.env) fp) ifs1 mt1)
    (he : ∀ (s : Shared) (H : Hp) (C : Addr) (cl : List (Str × Addr)) (fp : List Addr), DE K XN (X.blk s H scope (compEnvC scope cl C X.env) fp) elt me) (hts : ∀ t ∈ ts, t ∈ own.map (·.2) := by decide) (hts1 : ∀ t ∈ ts1, t ∈ vs1 := by decide) (hs : ∀ x, foldedSetIterable iter X.env x = pure x := by intro _; rfl) (hs1 : ∀ env x, foldedSetIterable iter1 env x = pure x := by intro _ _; rfl) :
    DF K E X (.ListComp elt [⟨tg, iter, ifs, 0⟩, ⟨tg1, iter1, ifs1, 0⟩] scope pos) (mLc2 (own.map (·.2)) vs1 mi g mt mi1 g1 mt1 me) :=
  ⟨fun hK => PE.imp (pe_lc2 hc hN (hi.pi hK) ok hv (fun s H C cl fp => (hg s H C cl fp).pg hK) (fun s H C cl fp => (ht s H C cl fp).pt hK) (fun s H C cl fp => (hi1 s H C cl fp).pi hK) (fun s H C cl fp => (hg1 s H C cl fp).pg hK) (fun s H C cl fp => (ht1 s H C cl fp).pt hK) (fun s H C cl fp => (he s H C cl fp).pe hK) hs hs1) fun _ _ _ h => lc2_run hts hts1 hv h⟩
variable {i : Nat} {y : Str} {py spos : Pos}
theorem ds_setLc2 (hc : X.calm = true) (hN : X.N.Nodup) (hy : X.N[i]? = some y) (hyl : X.env.scope.names.lookup y = some .local)
    (hsw : swapsWith (.ListComp elt [⟨tg, iter, ifs, 0⟩, ⟨tg1, iter1, ifs1, 0⟩] scope pos) (some (.Name y py)) spos.line X.env = pure true) (hi : DI K E X tg iter mi) (ok : BlkOk X.N X.env.scope scope own) (hv : ∀ i ∈ vs1, i ∈ own.map (·.2))
    (hg : ∀ (s : Shared) (H : Hp) (C : Addr) (cl : List (Str × Addr)) (fp : List Addr), DG K (X.blk s H scope (compEnvC scope cl C X.env) fp) tg ts g) (ht : ∀ (s : Shared) (H : Hp) (C : Addr) (cl : List (Str × Addr)) (fp : List Addr), DTs K (X.blk s H scope (compEnvC scope cl C X.env) fp) ifs mt)
    (hi1 : ∀ (s : Shared) (H : Hp) (C : Addr) (cl : List (Str × Addr)) (fp : List Addr), DI K XN (X.blk s H scope (compEnvC scope cl C X.env) fp) tg1 iter1 mi1)
    (hg1 : ∀ (s : Shared) (H : Hp) (C : Addr) (cl : List (Str × Addr)) (fp : List Addr), DG K (X.blk s H scope (compEnvC scope cl C X.env) fp) tg1 ts1 g1) (ht1 : ∀ (s : Shared) (H : Hp) (C : Addr) (cl : List (Str × Addr)) (fp : List Addr), DTs K (X.blk s H scope (compEnvC scope cl C X.env) fp) ifs1 mt1)
    (he : ∀ (s : Shared) (H : Hp) (C : Addr) (cl : List (Str × Addr)) (fp : List Addr), DE K XN (X.blk s H scope (compEnvC scope cl C X.env) fp) elt me) (hts : ∀ t ∈ ts, t ∈ own.map (·.2) := by decide) (hts1 : ∀ t ∈ ts1, t ∈ vs1 := by decide) (hs : ∀ x, foldedSetIterable iter X.env x = pure x := by intro _; rfl) (hs1 : ∀ env x, foldedSetIterable iter1 env x = pure x := by intro _ _; rfl) :
    DS K E X (.Assign [.Name y py] (.ListComp elt [⟨tg, iter, ifs, 0⟩, ⟨tg1, iter1, ifs1, 0⟩] scope pos) spos) (sSet i ((mLc2 (own.map (·.2)) vs1 mi g mt mi1 g1 mt1 me).map PyData.list)) :=
  ⟨fun hK => ds_set_t (ps_setLc2 hc hN hy hyl hsw (hi.pi hK) ok hv (fun s H C cl fp => (hg s H C cl fp).pg hK) (fun s H C cl fp => (ht s H C cl fp).pt hK) (fun s H C cl fp => (hi1 s H C cl fp).pi hK) (fun s H C cl fp => (hg1 s H C cl fp).pg hK) (fun s H C cl fp => (ht1 s H C cl fp).pt hK) (fun s H C cl fp => (he s H C cl fp).pe hK) hs hs1) fun _ _ _ h => lc2_run hts hts1 hv (fr_t h)⟩
end
end
end DL
namespace DL
open PySem PySem.Spec PyProof.Rows L2 Lk
/-! ## the names of the readings, as rules -/
section
variable {K : PySem.W.Frag} {E : XE} {X : Cx} {a b c e : Expr} {es : List Expr} {ma mb mc : M PyData} {m : M (List PyData)} {mt : M Bool} {pos : Pos}
theorem xe_op {op : Operator} {g : PyData → PyData → Option PyData} (ho : OpD K X (binaryOp op) g) (ha : DE K E X a ma) (hb : DE K E X b mb) : DE K E X (.BinOp a op b pos) (mOp2 g ma mb) := de_op ho ha hb
theorem xe_cmp {op : CmpOp} {g : PyData → PyData → Option PyData} (ho : OpD K X (compareOp op) g) (ha : DE K E X a ma) (hb : DE K E X b mb) (hm : behindInMarks op b = false) : DE K E X (.Compare a [op] [b] pos) (mOp2 g ma mb) := de_cmp ho ha hb hm
theorem xt_cmp {op : CmpOp} {g : PyData → PyData → Option PyData} (ho : OpD K X (compareOp op) g) (ha : DE K E X a ma) (hb : DE K E X b mb) (hm : behindInMarks op b = false) : DT K E X (.Compare a [op] [b] pos) (mOpT g ma mb) := dt_cmp ho ha hb hm
theorem xa_nil : DA K E X [] mNil := da_nil
theorem xa_cons (ha : DE K E X e ma) (hr : DA K E X es m) (hs : starEach (e :: es) X.env = (false, eval e X.env) :: starEach es X.env := by rfl) : DA K E X (e :: es) (mCons ma m) := da_cons ha hr hs
theorem xe_tup {x1} (h : DA K E X es m) : DE K E X (.Tuple es x1 pos) (mTup m) := de_tup h
theorem xf_lst (h : DA K E X es m) : DF K E X (.List es pos) (mLst m) := df_lst h
theorem xe_fr (h : DF K E X e m) : DE K E X e (mNew m) := de_fr h
theorem xt_val (ha : DE K E X e ma) (he : ∀ whole, isTrue e X.env whole = (do let v ← whole; standAt e.pos; holding [v] (truthy v)) := by intro _; rfl) : DT K E X e (mVal ma) := dt_val ha he
theorem xt_tru (ha : DE K E X e ma) (he : ∀ whole, isTrue e X.env whole = (do let v ← whole; standAt e.pos; holding [v] (truthy v)) := by intro _; rfl) : DT K E X e (mTru ma) := dt_tru ha he
theorem xt_not (ha : DT K E X a mt) : DT K E X (.UnaryOp .Not a pos) (mNotT mt) := dt_not ha
theorem xe_not (ha : DE K E X a ma) : DE K E X (.UnaryOp .Not a pos) (mNotV ma) := de_not ha
theorem xe_neg (ha : DE K E X a ma) : DE K E X (.UnaryOp .USub a pos) (mNeg ma) := de_neg ha
theorem xe_isi {T : Str} {n : String} {p p2 : Pos} (hT : n ∈ ["int", "bool", "list", "tuple", "str"]) (hg : Gl X "isinstance") (hm : X.mg "isinstance" = none) (hgT : Gl X T) (hmT : X.mg T = none) (hvT : bootBuiltins T = some (.type n)) (ha : DE K E X e ma) (hn : T ≠ "__name__" := by decide) (hdb : (T == ("__debug__" : Str)) = false := by decide)
    (hs1 : starEach [e, .Name T p2] X.env = (false, eval e X.env) :: starEach [.Name T p2] X.env := by rfl) (hs2 : starEach [.Name T p2] X.env = (false, eval (.Name T p2) X.env) :: starEach [] X.env := by rfl) (hpl : (backTo pos (starEach [.Name T p2] X.env)).any (·.1) = false := by rfl) :
    DE K E X (.Call (.Name "isinstance" p) [e, .Name T p2] [] pos) (mIsi n ma) := de_isi hT hg hm hgT hmT hvT ha hn hdb hs1 hs2 hpl
theorem xi_seq {tg : Expr} (hl : DE K E X e ma) : DI K E X tg e (mSeq ma) := di_seq hl
theorem xi_range1 {tg : Expr} {p : Pos} (hg : Gl X "range") (hm : X.mg "range" = none) (ha : DA K E X [a] m) (hs : starEach [a] X.env = [(false, eval a X.env)] := by rfl) : DI K E X tg (.Call (.Name "range" p) [a] [] pos) (mRng1 m) := di_range1 hg hm ha hs
theorem xi_range2 {tg : Expr} {p : Pos} (hg : Gl X "range") (hm : X.mg "range" = none) (ha : DA K E X [a, b] m) (hs : starEach [a, b] X.env = [(false, eval a X.env), (false, eval b X.env)] := by rfl) (hs2 : starEach [b] X.env = [(false, eval b X.env)] := by rfl) :
    DI K E X tg (.Call (.Name "range" p) [a, b] [] pos) (mRng2 m) := di_range2 hg hm ha hs hs2
theorem xo_some (ha : DE K E X e ma) : DO K E X (some e) (mPart ma) := do_some ha
theorem xo_none : DO K E X none mNoPart := do_none
theorem xf_slice {lo hi : Option Expr} {ml mh : M (Option Int)} {p2 : Pos} (ha : DE K E X e ma) (hl : DO K E X lo ml) (hh : DO K E X hi mh) : DF K E X (.Subscript e (.Slice lo hi none p2) pos) (mSlice ma ml mh) := df_slice ha hl hh
theorem xe_sliceT {lo hi : Option Expr} {ml mh : M (Option Int)} {p2 : Pos} (ha : DE K E X e ma) (hl : DO K E X lo ml) (hh : DO K E X hi mh) : DE K E X (.Subscript e (.Slice lo hi none p2) pos) (mSliceT ma ml mh) := de_sliceT ha hl hh
theorem xe_ix (ha : DE K E X a ma) (hb : DE K E X b mb) (hs : PlainIx b) : DE K E X (.Subscript a b pos) (mOp2 ixM ma mb) := de_ix ixd ha hb hs
def mRep (ml : M (List PyData)) (mb : M PyData) : M (List PyData) := ml.bind fun xs => mb.bind fun d => M.lift (repM xs d)
theorem xf_rep {ml : M (List PyData)} (ha : DF K E X a ml) (hb : DE K E X b mb) : DF K E X (.BinOp a .Mult b pos) (mRep ml mb) := df_rep ha hb
theorem xc {x : Str} {p : Pos} {k : Nat} {ps : List Str} {g : List PyData → Option PyData} (G : Has X.prog X.w K X.mg X.base k x ps (spD K g)) (hr : Room k X.A) (hg : Gl X x)
    (ha : DA K E X (e :: es) m) (hdb : (x == ("__debug__" : Str)) = false := by decide) (he : starEach (e :: es) X.env = (false, eval e X.env) :: starEach es X.env := by rfl)
    (hpl : (backTo pos (starEach es X.env)).any (·.1) = false := by rfl) : DE K E X (.Call (.Name x p) (e :: es) [] pos) (mCall g m) := dc G hr hg ha hdb he hpl
theorem xcB {x : Str} {p : Pos} {id : String} {g : List PyData → Option PyData} (hc : CallD K X (.builtin id) g) (hg : Gl X x) (hm : X.mg x = none) (hv : bootBuiltins x = some (.builtin id)) (ha : DA K E X (e :: es) m) (hn : x ≠ "__name__" := by decide) (hdb : (x == ("__debug__" : Str)) = false := by decide)
    (he : starEach (e :: es) X.env = (false, eval e X.env) :: starEach es X.env := by rfl) (hpl : (backTo pos (starEach es X.env)).any (·.1) = false := by rfl) : DE K E X (.Call (.Name x p) (e :: es) [] pos) (mCall g m) := de_callB hc hg hm hv ha hn hdb he hpl
theorem xcT {x : Str} {p : Pos} {T : String} {g : List PyData → Option PyData} (hc : CallD K X (.type T) g) (hg : Gl X x) (hm : X.mg x = none) (hv : bootBuiltins x = some (.type T)) (ha : DA K E X (e :: es) m) (hn : x ≠ "__name__" := by decide) (hdb : (x == ("__debug__" : Str)) = false := by decide)
    (he : starEach (e :: es) X.env = (false, eval e X.env) :: starEach es X.env := by rfl) (hpl : (backTo pos (starEach es X.env)).any (·.1) = false := by rfl) : DE K E X (.Call (.Name x p) (e :: es) [] pos) (mCall g m) := de_callTy hc hg hm hv ha hn hdb he hpl
theorem xcBF {x : Str} {p : Pos} {id : String} {g : List PyData → Option (List PyData)} (hc : CallF K X (.builtin id) g) (hg : Gl X x) (hm : X.mg x = none) (hv : bootBuiltins x = some (.builtin id)) (ha : DA K E X (e :: es) m) (hn : x ≠ "__name__" := by decide) (hdb : (x == ("__debug__" : Str)) = false := by decide)
    (he : starEach (e :: es) X.env = (false, eval e X.env) :: starEach es X.env := by rfl) (hpl : (backTo pos (starEach es X.env)).any (·.1) = false := by rfl) : DF K E X (.Call (.Name x p) (e :: es) [] pos) (mCallF g m) := df_callB hc hg hm hv ha hn hdb he hpl
theorem xcTF {x : Str} {p : Pos} {T : String} {g : List PyData → Option (List PyData)} (hc : CallF K X (.type T) g) (hg : Gl X x) (hm : X.mg x = none) (hv : bootBuiltins x = some (.type T)) (ha : DA K E X (e :: es) m) (hn : x ≠ "__name__" := by decide) (hdb : (x == ("__debug__" : Str)) = false := by decide)
    (he : starEach (e :: es) X.env = (false, eval e X.env) :: starEach es X.env := by rfl) (hpl : (backTo pos (starEach es X.env)).any (·.1) = false := by rfl) : DF K E X (.Call (.Name x p) (e :: es) [] pos) (mCallF g m) := df_callTy hc hg hm hv ha hn hdb he hpl
theorem xs_asg {tg : Expr} {ts : List Nat} {g : PyData → En → Option En} (he : DE K E X e ma) (hg : DG K X tg ts g) (hs : swapsWithSole [tg] e pos.line X.env = pure false := by rfl) (hw : swappedStores [tg] e X.env = pure none := by rfl)
    (h1 : (assignEach [tg] X.env).map (·.2) = [assign tg X.env] := by rfl) : DS K E X (.Assign [tg] e pos) (sAsg ma g) := ds_asg he hg hs hw h1
theorem xs_break : DS K E X (.Break pos) sBrk := ds_break
theorem xs_cont : DS K E X (.Continue pos) sCont := ds_continue
theorem xs_no {st : Stmt} : DS K E X st sNo := ds_never
end
/-! ## calls by keywords alone -/
def HasK (P : Program) (w : World) (K : PySem.W.Frag) (mg : Str → Option Value) (base : Heap) (k : Nat) (x : Str) (ps ks : List Str) (gA : List Value → List Value → List Value) (gB : List V → List V → List V) (sp : Sp) : Prop :=
  ∃ (f : Addr) (fd : FuncData), FnOk P w K mg base CX0 k f fd ps sp ∧ KBinds K fd ps ks gA gB ∧ mg x = some (.ref f) ∧ PySem.W.keepIn K (.ref f) = true
/-- the same order of the places, of values and of data -/
structure Perm3 (gB : List V → List V → List V) (gD : List PyData → List PyData) : Prop where
  all : ∀ {K : PySem.W.Frag} {G : Hp} {zs : List V} {ds : List PyData}, DqAll K G zs ds → DqAll K G (gB [] zs) (gD ds)
structure DK (K : PySem.W.Frag) (E : XE) (X : Cx) (kws : List Keyword) (m : M (List PyData)) : Prop where
  pk : X.K = K → PK X kws (tM K E (rA K) m)
section
variable {K : PySem.W.Frag} {E : XE} {X : Cx} {e : Expr} {kws : List Keyword} {ma : M PyData} {m : M (List PyData)} {pos : Pos}
theorem PK.imp {t t' : TA} (h : PK X kws t) (i : ∀ σ H Q, t' σ H Q → t σ H Q) : PK X kws t' := ⟨fun pos pins s σ H Q I q => h.run pos pins s σ H Q I (i _ _ _ q)⟩
theorem xk_nil : DK K E X [] mNil := ⟨fun _ => PK.imp pk_nil fun σ H Q ⟨F, O, G, r, out, P, em, f⟩ => by
  cases em
  exact f.ok (Ps.refl P.sub) P .nil⟩
theorem xk_cons {nm : Option Str} {kp : Pos} (ha : DE K E X e ma) (hr : DK K E X kws m) : DK K E X (⟨nm, e, kp⟩ :: kws) (mCons ma m) := ⟨fun hK => PK.imp (pk_cons (ha.pe hK) (hr.pk hK)) fun σ H Q ⟨F, O, G, r, out, P, em, f⟩ => by
  refine tM.run P f em fun d r1 x G1 H1 P1 g1 q1 e1 f1 => ?_
  refine tM.run P1 f1 e1 fun ds r2 xs G2 H2 P2 g2 q2 e2 f2 => ?_
  cases e2
  exact f2.ok (Ps.refl P2.sub) P2 (.cons (q1.sm g2.gg) q2)⟩
def mCallK (gD : List PyData → List PyData) (g : List PyData → Option PyData) (m : M (List PyData)) : M PyData := m.bind fun ds => M.lift (g (gD ds))
theorem xck {x : Str} {p : Pos} {k : Nat} {ps ks : List Str} {gA : List Value → List Value → List Value} {gB : List V → List V → List V} {gD : List PyData → List PyData} {g : List PyData → Option PyData} (G : HasK X.prog X.w K X.mg X.base k x ps ks gA gB (spD K g)) (hP : Perm3 gB gD) (hr : Room k X.A) (hg : Gl X x)
    (hkw : DK K E X kws m) (hall : (backToKw pos (keywordEach kws X.env)).all (·.1.isSome) = true := by rfl) (hks : (backToKw pos (keywordEach kws X.env)).filterMap (·.1) = ks := by rfl)
    (hdb : (x == ("__debug__" : Str)) = false := by decide)
    (hpl : ((backTo pos (starEach [] X.env)).any (·.1) || (backToKw pos (keywordEach kws X.env)).any (·.1.isNone)) = false := by rfl) : DE K E X (.Call (.Name x p) [] kws pos) (mCallK gD g m) := ⟨fun hK => by
  subst hK
  obtain ⟨f, fd, Fk, b, gm, kp⟩ := G
  refine PE.imp (pe_callK0 (E := E0) Fk hr hg gm kp b pass0 (hkw.pk rfl) hall hks hdb hpl) fun σ H Q ⟨F, O, G, r, out, P, em, f⟩ => ?_
  refine tM.run P f em fun ds r1 zs G1 H1 P1 g1 q1 e1 f1 => ?_
  obtain ⟨z, hz, rfl⟩ := lift_ok e1
  exact ⟨G1, _, z, P1.sub, hP.all q1, hz, fun v G' H' p q => f1.ok p P1 q⟩⟩
end
/-! ## a def without any promise, for recursion -/
theorem has_none {P : Program} {w : World} {K : PySem.W.Frag} {mg : Str → Option Value} {base : Heap} {k : Nat} {x qual : Str} {st : Stmt} {f : Addr} {fd : FuncData} {ps : List Str} (F : Fun K x qual st f fd) (hb : Binds K fd ps []) (hm : mg x = some (.ref f)) : Has P w K mg base k x ps (spD K fun _ => none) :=
  ⟨f, fd, ⟨fun vs H Q E ⟨G, ds, z, _, _, hz, _⟩ => (by cases hz), fun A outer s H args us vs Q E _ _ _ _ ⟨G, ds, z, _, _, hz, _⟩ => (by cases hz)⟩, hb, hm, F.kp⟩
/-! ## the end of a law -/
def spLaw (K : PySem.W.Frag) (g : List PyData → Option PyData) : Sp := fun vs H Q _ => ∃ (a : Addr) (ns : List Int), vs = [.ref a] ∧ SqL K H a (ns.map V.int) ∧ g [.list (ns.map PyData.int)] = some (.bool true) ∧ ∀ H', Q (.bl true) H'
theorem law_fn {P : Program} {w : World} {K : PySem.W.Frag} {mg : Str → Option Value} {base : Heap} {k : Nat} {f : Addr} {fd : FuncData} {ps : List Str} {g : List PyData → Option PyData} (F : FnOk P w K mg base CX0 k f fd ps (spD K g)) : FnOk P w K mg base CX0 k f fd ps (spLaw K g) :=
  F.imp fun vs H Q E ⟨a, ns, e, hs, hg, q⟩ => ⟨H, _, _, Same.refl H, by rw [e]; exact .cons (.lst hs (DqAll.ints ns)) .nil, hg, fun v G' H' _ hv => by
    rw [dp_bool hv]
    exact q H'⟩
end DL
namespace DL
open PySem PySem.Spec PyProof.Rows L2 Lk
def CTup (K : PySem.W.Frag) (mg : Str → Option Value) (x : Str) (c : PyData) : Prop := ∃ a : Addr, mg x = some (.ref a) ∧ ∀ H, Dq K H (.ref a) c
theorem CTup.de {K : PySem.W.Frag} {E : XE} {X : Cx} {x : Str} {c : PyData} {pos : Pos} (h : CTup K X.mg x c) (hg : Gl X x) (hdb : (x == ("__debug__" : Str)) = false := by decide) : DE K E X (.Name x pos) (M.ret c) := by
  obtain ⟨a, h1, h2⟩ := h
  exact de_g hg h1 (v := .ref a) rfl h2 hdb
/-- how deep a def may call itself; how often a while may turn -/
def FU : Nat := 60
def WH : Nat := 1000000
section
variable {P : Program} {w : World} {K : PySem.W.Frag} {mg : Str → Option Value} {base : Heap}
theorem fn_d {x qual : Str} {st : Stmt} {f : Addr} {fd : FuncData} {N ps : List Str} {k n : Nat} {sv : SM} (F : Fun K x qual st f fd) (S : FnScope N ps (defScope st))
    (h : ∀ (cdv : Value) (A : Around) (outer : List Env) (s : Shared) (H : Hp) (E : XK), Room k (A.deeper (envOfC qual (defScope st) s.heap.objs.size f cdv)) → DSs K XN (cxOf CX0 P w K mg base N qual (defScope st) f cdv A outer s H E).nox (defBody st) sv)
    (hn : ps.length = n := by rfl) : FnOk P w K mg base CX0 (k + 1) f fd ps (spD K (runD N n sv)) := by
  refine def_D F S h fun ds z e => ?_
  unfold runD at e
  split at e
  · rename_i hl
    refine ⟨hl.trans hn.symm, ?_⟩
    cases q : sv (ini N ds) with
    | none => rw [q] at e; cases e
    | some fl =>
      rw [q] at e
      cases fl with
      | rt d r => cases e; exact ⟨r, .inl rfl⟩
      | nx r => cases e; exact ⟨r, .inr ⟨rfl, rfl⟩⟩
      | _ => cases e
  · cases e
end
end DL
namespace Lk
open PySem PySem.Spec PyProof.Rows L2
theorem walk_ofGB {l : PySem.W.OpenLaw} {n k : Nat} {q : Program} {loose : List Str} {XP : (Str → Option Value) → Heap → Prop} {YP : World → Heap → Prop} {d : DefRec}
    {K : Params → PySem.W.Frag} {sp : World → Sp} {x : Str} (hn : l.most = some n) (hn2 : n ≤ sizeLine) (hdf : d.params.defaults = []) (hr : Room k callerA)
    (hY : ∀ (w : World) (h : Heap), YP w h → (K w.params).In h)
    (F : ∀ (w : World) (mg : Str → Option Value) (fa : Addr) (h : Heap), (K w.params).In h → h.Ns mainGlobals mg → mg d.name = some (.ref fa) →
      ∃ fd : FuncData, (∀ (s : Shared) (u : Value), BindsTo s fd ⟨[u], []⟩ [(x, u)]) ∧
        ∀ base : Heap, (K w.params).In base → base.Ns mainGlobals mg → FnG l.prog w (K w.params) mg base CX0 k fa fd [x] (sp w))
    (hsp : ∀ (w : World) (H : Hp) (a : Addr) (ns : List Int), ns.length ≤ n → (∀ z ∈ ns, Builtin.Int.intBits z ≤ 1048576) → Only H → SqL (K w.params) H a (ns.map V.int) → sp w [.ref a] H (fun v _ => v = .bl true) fun _ _ _ => False) :
    PySem.W.WalkO q loose XP YP l.row.toRowW d [] (fun f vs => PySem.call f vs) := by
  refine Att.attach_callB hn hdf ?_
  intro w s₀ s₁ mg mb fa o pm cd doc a vs ns G Y _ _ _ hmg hobj hints hlen hbits hg
  have KX := hY w _ Y
  obtain ⟨fd, hb, hF⟩ := F w mg fa _ KX G.T.g hmg
  exact law_callG KX G.T.g G.T.b G.T.builtins G.T.nolimit hg hobj hints (Nat.le_trans hlen hn2) hr hF hb fun H hO hS => hsp w H a ns hlen hbits hO hS
end Lk
/-! D12: reversed(range(n)), list.index -/
namespace DL
open PySem PySem.Spec PyProof.Rows L2 Lk
section
variable {K : PySem.W.Frag} {E : XE} {X : Cx} {tg a : Expr} {ma : M PyData} {pos : Pos}
def mRevR (m : M PyData) : M (List PyData) := m.bind fun d => M.lift ((asInt d).bind fun n => if n.natAbs ≤ 1000000 then some (rngL 0 n.toNat).reverse else none)
theorem gives_rev {G : Hp} {n : Nat} : Gives K (Itc ((n : Int) - 1) (-1) n) (rngL 0 n).reverse G := fun i H' G1 s1 s2 => by
  have len : (rngL 0 n).length = n := by rw [rngL, List.length_map, List.length_range]
  refine ⟨fun d hd => ?_, fun hl => ?_⟩
  · have h0 := (List.getElem?_eq_some_iff.mp hd).1
    rw [List.length_reverse, len] at h0
    rw [List.getElem?_reverse (by rw [len]; exact h0), len] at hd
    obtain ⟨h1, rfl⟩ := rngL_at hd
    refine ⟨h0, fun x H'' y => ?_⟩
    obtain ⟨rfl, rfl⟩ := y
    have e : (n : Int) - 1 + (i : Nat) * (-1) = 0 + ((n - 1 - i : Nat) : Int) := by omega
    rw [e]
    exact ⟨G1, Ps.refl s2, .int _⟩
  · rw [List.length_reverse, len] at hl
    exact hl
theorem xi_rev1 {p p2 pos2 : Pos} (hg : Gl X "reversed") (hm : X.mg "reversed" = none) (hg2 : Gl X "range") (hm2 : X.mg "range" = none) (ha : DE K E X a ma) (na : starEach [a] X.env = (false, eval a X.env) :: starEach [] X.env := by rfl)
    (na2 : starEach [.Call (.Name "range" p2) [a] [] pos2] X.env = (false, eval (.Call (.Name "range" p2) [a] [] pos2) X.env) :: starEach [] X.env := by rfl) : DI K E X tg (.Call (.Name "reversed" p) [.Call (.Name "range" p2) [a] [] pos2] [] pos) (mRevR ma) := ⟨fun hK => by
  refine PI.imp (pi_revR hg hm (prg_1 hg2 hm2 (ha.pe hK) na) na2) fun σ H Q ⟨F, O, G, r, out, P, em, f⟩ => ?_
  refine tM.run P f em fun d r1 x G1 H1 P1 g1 q1 e1 f1 => ?_
  obtain ⟨z, hz, rfl⟩ := lift_ok e1
  obtain ⟨n, hn, hz2⟩ := Option.bind_eq_some_iff.mp hz
  cases asInt_some hn
  cases q1
  split at hz2
  · rename_i hl
    cases hz2
    refine ⟨n, rfl, by omega, by omega, by omega, by omega, f1.ok (Ps.refl P1.sub) P1 ?_⟩
    have e1 : (n - 0).toNat = n.toNat := by omega
    have e2 : (0 : Int) + (((n - 0).toNat : Nat) : Int) - 1 = ((n.toNat : Nat) : Int) - 1 := by omega
    rw [e2, e1]
    exact gives_rev
  · cases hz2⟩
def indexM : PyData → List PyData → Option PyData
  | .list ds, [d] => if SeqAt.shaped d && SeqAt.shaped (.list ds) then (ds.findIdx? fun z => PyData.eqv z d).map fun j => .int (j : Nat) else none
  | _, _ => none
theorem mtd_index {k : Nat} (hr : Room k X.A) : MtD K X "list.index" indexM := fun hK => by
  subst hK
  intro pins s σ H x xs v us Q I rx rxs h
  obtain ⟨G, d, ds, z, sg, hd, hds, hz, q⟩ := h
  have hu : X.A.units + 65 < cLine := by have := hr.un; omega
  unfold indexM at hz
  split at hz
  · rename_i l e
    split at hz
    · rename_i hs
      rw [Bool.and_eq_true] at hs
      obtain ⟨j, hj, rfl⟩ := Option.map_eq_some_iff.mp hz
      obtain ⟨hlt, hp, hno⟩ := List.findIdx?_eq_some_iff_getElem.mp hj
      obtain ⟨w, rfl, hw⟩ := one_of hds
      have hx : ∃ a, x = .ref a := by cases hd; exact ⟨_, rfl⟩
      obtain ⟨a, rfl⟩ := hx
      refine mt_indexD hu pins s σ H _ _ v us Q I rx rxs ⟨a, w, e, l, j, l[j], rfl, rfl, (hd.sm sg).dp, (hw.sm sg).dp, hs.2, hs.1, List.getElem?_eq_getElem hlt, hp, ?_, q _ G H (Ps.refl sg) (.int _)⟩
      intro m z' hm hz'
      obtain ⟨h1, rfl⟩ := List.getElem?_eq_some_iff.mp hz'
      have := hno m hm
      simpa using this
    · cases hz
  · cases hz
end
end DL
/-! D13: own != [], own.insert(a, b) -/
namespace DL
open PySem PySem.Spec PyProof.Rows L2 Lk
section
variable {K : PySem.W.Frag} {E : XE} {X : Cx} {a b e : Expr} {ma mb : M PyData} {pos : Pos}
def mNeO (i : Nat) : M Bool := fun r => match ownOf r[i]? with
  | some ds => if SeqAt.shaped (.list ds) then some (.ok (!ds.isEmpty) r) else none
  | none => none
theorem dt_neNil {k : Nat} (hr : Room k X.A) (i : Nat) {y : Str} {p2 p3 : Pos} (hN : X.N[i]? = some y := by rfl) (hv : Vis X.env.scope y := by first | exact Or.inl rfl | exact Or.inr (Or.inl rfl) | exact Or.inr (Or.inr rfl)) (hd : (y == ("__debug__" : Str)) = false := by decide) (hcd : (y == ("__classdict__" : Str)) = false := by decide)
    (hm : behindInMarks .NotEq (.List [] p3) = false := by first | rfl | exact nomark _) : DT K E X (.Compare (.Name y p2) [.NotEq] [.List [] p3] pos) (mNeO i) := ⟨fun hK => by
  subst hK
  refine PT.imp (pt_cmpR (op_neD hr.units) (pe_var hN hv hd hcd) (pe_lstN pa_nil) hm) fun σ H Q ⟨F, O, G, r, out, P, em, ff⟩ => ?_
  unfold mNeO at em
  split at em
  · rename_i ds e0
    split at em
    · rename_i hs
      cases em
      obtain ⟨q, xs, h1, h2, h3, h4⟩ := P.own_dp e0
      refine ⟨_, h1, by decide, fun p H2 s n e2 => ?_⟩
      have ev : PyData.eqv (.list ds) (.list []) = ds.isEmpty := by cases ds <;> simp [PyData.eqv, PyData.eqvAll]
      refine ⟨.list ds, .list [], .lst (.inl (.inl (s _ _ h2))) ((h3.sm P.sub).sm s).dp, .lst (.inl (.inl e2)) (.nil), hs, by decide +kernel, ?_⟩
      rw [ev]
      exact ⟨_, rfl, ff.ok (Ps.of_same P.sub s) P rfl⟩
    · cases em
  · cases em⟩
def sIns (i : Nat) (ma mb : M PyData) : SM := fun r0 => if (ownOf r0[i]?).isSome then sBind ma (fun j => sBind mb fun d r => match ownOf r[i]?, asInt j with
  | some ds, some j => if 0 ≤ j ∧ j ≤ 1000000 ∧ ds.length ≤ 1000000 then some (.nx (upO i (ds.take j.toNat ++ [d] ++ ds.drop j.toNat) r)) else none
  | _, _ => none) r0 else none
theorem ds_ins (i : Nat) {st : Stmt} {ta tb : TE} (ha : X.K = K → ∀ σ H Q, tM K E (rD K) ma σ H Q → ta σ H Q) (hb : X.K = K → ∀ σ H Q, tM K E (rD K) mb σ H Q → tb σ H Q)
    (hp : PS X st (tDrop (tBM X.K "list" (fun x vs H Q => ∃ (l : Addr) (xs : List V) (i : Int) (y : V), x = .ref l ∧ vs = [.int i, y] ∧ H l = some (.lst xs) ∧ xs.length < sizeLine ∧ 0 ≤ i ∧ i < 2 ^ 63 ∧
    Q .non (upd H l (.lst (xs.take i.toNat ++ [y] ++ xs.drop i.toNat)))) (tVar i) (tCons ta (tCons tb tNil))))) : DS K E X st (sIns i ma mb) := ⟨fun hK => by
  subst hK
  refine PS.imp hp fun D σ H ⟨F, O, G, r, fl, P, em, ff⟩ => ?_
  unfold sIns at em
  split at em
  · rename_i hs
    obtain ⟨bs0, e0⟩ := isSome_ex hs
    obtain ⟨q, xs0, hq, hσ, hx0, _⟩ := P.own_at e0
    refine ⟨_, hσ, .inl ⟨rfl, _, .inl (.inl hx0)⟩, ha rfl _ _ _ (tS.run P ff em fun j r0 x0 G0 H0 P0 g0 q0 em0 f0 => hb rfl _ _ _ (tS.run P0 f0 em0 fun d r1 x G1 H1 P1 g1 q1 e1 f1 => ?_))⟩
    split at e1
    · rename_i ds jj e2 hj
      cases asInt_some hj
      cases q0
      split at e1
      · rename_i hl
        cases e1
        obtain ⟨q', xs1, hq', hσ', hx, hb⟩ := P1.own_at e2
        rw [hq] at hq'
        cases hq'
        refine ⟨q, xs1, jj, x, rfl, rfl, hx, line_lt (by rw [hb.length]; exact hl.2.2), hl.1, by omega, ?_⟩
        have gp := (P1.on i q hq).2.1
        obtain ⟨P2, g2⟩ := P1.chg e2 hq (Same.refl G1) (fun c o e => by rw [upd_ne (ne_of_none e gp)]; exact P1.sub _ _ e) gp (fun c o n e => by rw [upd_ne n]; exact e) (fun c e => .inl e) (upd_same (o := .lst (xs1.take jj.toNat ++ [x] ++ xs1.drop jj.toNat))) (((hb.take _).append (.cons q1 .nil)).append (hb.drop _))
        exact f1 O G1 σ _ P2 (Same.refl _)
      · cases e1
    · cases e1
  · cases em⟩
end
end DL
/-! D14: range with a step, xs[::-1], the bits of whole numbers -/
namespace DL
open PySem PySem.Spec PyProof.Rows L2 Lk
section
variable {K : PySem.W.Frag} {E : XE} {X : Cx} {tg a b c e : Expr} {ma mb : M PyData} {m : M (List PyData)} {pos : Pos}
def rngC (i c : Int) (n : Nat) : List PyData := (List.range n).map fun k => .int (i + (k : Nat) * c)
def rng3M : List PyData → Option (List PyData)
  | [.int i, .int j, .int c] => if c ≠ 0 ∧ c.natAbs < 1000000 ∧ Builtin.Range.small i j c = true ∧ 0 ≤ Builtin.Range.rangeSize i j c then some (rngC i c (Builtin.Range.rangeSize i j c).toNat) else none
  | _ => none
def mRng3 (m : M (List PyData)) : M (List PyData) := m.bind fun ds => M.lift (rng3M ds)
theorem gives_rng3 {G : Hp} {i c : Int} {n : Nat} : Gives K (Itc i c n) (rngC i c n) G := fun k H' G1 s1 s2 => by
  refine ⟨fun d hd => ?_, fun hl => ?_⟩
  · unfold rngC at hd
    rw [List.getElem?_map] at hd
    obtain ⟨q, h1, rfl⟩ := Option.map_eq_some_iff.mp hd
    obtain ⟨h2, h3⟩ := List.getElem?_eq_some_iff.mp h1
    rw [List.length_range] at h2
    rw [List.getElem_range] at h3
    subst h3
    refine ⟨h2, fun x H'' y => ?_⟩
    obtain ⟨rfl, rfl⟩ := y
    exact ⟨G1, Ps.refl s2, .int _⟩
  · rw [rngC, List.length_map, List.length_range] at hl
    exact hl
theorem xi_range3 {p : Pos} (hg : Gl X "range") (hm : X.mg "range" = none) (ha : DA K E X [a, b, c] m) (hs : starEach [a, b, c] X.env = (false, eval a X.env) :: starEach [b, c] X.env := by rfl) (hpl : (backTo pos (starEach [b, c] X.env)).any (·.1) = false := by rfl) :
    DI K E X tg (.Call (.Name "range" p) [a, b, c] [] pos) (mRng3 m) := ⟨fun hK => PI.imp (pi_range3 hg hm (ha.pa hK) hs hpl) fun σ H Q ⟨F, O, G, r, out, P, em, f⟩ => by
  refine tM.run P f em fun ds r1 xs G1 H1 P1 g1 q1 e1 f1 => ?_
  obtain ⟨z, hz, rfl⟩ := lift_ok e1
  unfold rng3M at hz
  split at hz
  · rename_i i j k
    split at hz
    · rename_i hl
      cases hz
      cases q1 with
      | cons h1 t1 =>
        cases t1 with
        | cons h2 t2 =>
          cases t2 with
          | cons h3 t3 =>
            cases t3
            cases h1
            cases h2
            cases h3
            exact ⟨i, j, k, (Builtin.Range.rangeSize i j k).toNat, rfl, ⟨hl.1, by omega, hl.2.2.1, by have := hl.2.2.2; omega⟩, f1.ok (Ps.refl P1.sub) P1 gives_rng3⟩
    · cases hz
  · cases hz⟩
def mRevL (m : M PyData) : M (List PyData) := m.bind fun d => M.lift ((asList d).map List.reverse)
theorem df_revL {k : Nat} {p1 p2 p3 : Pos} (ha : DE K E X e ma) : DF K E X (.Subscript e (.Slice none none (some (.UnaryOp .USub (.Constant (.int 1) k p1) p2)) p3) pos) (mRevL ma) := ⟨fun hK => by
  subst hK
  refine PE.imp (pe_revL (ha.pe rfl)) fun σ H Q ⟨F, O, G, r, out, P, em, f⟩ => ?_
  refine tM.run P f em fun d r1 x G1 H1 P1 g1 q1 e1 f1 => ?_
  obtain ⟨z, hz, rfl⟩ := lift_ok e1
  obtain ⟨ds, hd, rfl⟩ := Option.map_eq_some_iff.mp hz
  cases asList_some hd
  cases q1 with
  | lst hs hq =>
    exact ⟨_, _, rfl, P1.sub.seq hs, fun q nq => f1.ok (Ps.of_same P1.sub (same_new nq)) P1 ⟨q, _, rfl, nq, P1.sub.free nq, P1.nf _ nq, fun i z => (P1.on i q z).2.2.1 nq, upd_same, hq.reverse⟩⟩⟩
def andM : PyData → PyData → Option PyData
  | .int a, .int b => some (.int (Builtin.bitAnd a b))
  | _, _ => none
def orM : PyData → PyData → Option PyData
  | .int a, .int b => some (.int (Builtin.bitOr a b))
  | _, _ => none
def xorM : PyData → PyData → Option PyData
  | .int a, .int b => some (.int (Builtin.bitXor a b))
  | _, _ => none
theorem opd_and : OpD K X (binaryOp .BitAnd) andM := fun hK => by
  intro pins s σ H x y v u Q I rx ry h
  obtain ⟨G, d, e, z, sg, hd, he, hz, q⟩ := h
  unfold andM at hz
  split at hz
  · cases hz; cases hd; cases he
    exact op_and pins s σ H _ _ v u Q I rx ry ⟨_, _, rfl, rfl, q _ G H (Ps.refl sg) (.int _)⟩
  · cases hz
theorem opd_or : OpD K X (binaryOp .BitOr) orM := fun hK => by
  intro pins s σ H x y v u Q I rx ry h
  obtain ⟨G, d, e, z, sg, hd, he, hz, q⟩ := h
  unfold orM at hz
  split at hz
  · cases hz; cases hd; cases he
    exact op_or pins s σ H _ _ v u Q I rx ry ⟨_, _, rfl, rfl, q _ G H (Ps.refl sg) (.int _)⟩
  · cases hz
theorem opd_xor : OpD K X (binaryOp .BitXor) xorM := fun hK => by
  intro pins s σ H x y v u Q I rx ry h
  obtain ⟨G, d, e, z, sg, hd, he, hz, q⟩ := h
  unfold xorM at hz
  split at hz
  · cases hz; cases hd; cases he
    exact op_xor pins s σ H _ _ v u Q I rx ry ⟨_, _, rfl, rfl, q _ G H (Ps.refl sg) (.int _)⟩
  · cases hz
def shlM : PyData → PyData → Option PyData
  | .int a, .int b => if 0 ≤ b ∧ (Builtin.Int.intBits a : Int) + b ≤ 2 ^ 27 then some (.int (a * 2 ^ b.toNat)) else none
  | _, _ => none
theorem opd_shl : OpD K X (binaryOp .LShift) shlM := fun hK => by
  intro pins s σ H x y v u Q I rx ry h
  obtain ⟨G, d, e, z, sg, hd, he, hz, q⟩ := h
  unfold shlM at hz
  split at hz
  · split at hz
    · rename_i hl
      cases hz; cases hd; cases he
      exact op_shlW pins s σ H _ _ v u Q I rx ry ⟨_, _, rfl, rfl, hl, q _ G H (Ps.refl sg) (.int _)⟩
    · cases hz
  · cases hz
/-- n.bit_length() -/
def mBits (m : M PyData) : M PyData := m.bind fun d => M.lift ((asInt d).map fun i => .int (Builtin.Int.intBits i : Nat))
theorem de_bits {apos : Pos} (ha : DE K E X e ma) (h1 : attributeBase e "bit_length" X.env (eval e X.env) = eval e X.env := by rfl) (h2 : (apos.endLine == pos.line) = true := by rfl) : DE K E X (.Call (.Attribute e "bit_length" apos) [] [] pos) (mBits ma) := ⟨fun hK => by
  subst hK
  refine PE.imp (pe_bits (ha.pe rfl) (hbase := h1) (hline := h2)) fun σ H Q ⟨F, O, G, r, out, P, em, f⟩ => ?_
  refine tM.run P f em fun d r1 x G1 H1 P1 g1 q1 e1 f1 => ?_
  obtain ⟨z, hz, rfl⟩ := lift_ok e1
  obtain ⟨i, hi, rfl⟩ := Option.map_eq_some_iff.mp hz
  cases asInt_some hi
  cases q1
  exact ⟨_, rfl, f1.ok (Ps.refl P1.sub) P1 (.int _)⟩⟩
end
end DL
/-! D15: calls that give plain data or a new list -/
namespace DL
open PySem PySem.Spec PyProof.Rows L2 Lk
abbrev PQ := PyData ⊕ List PyData
def rQ (K : PySem.W.Frag) : RR V PQ := fun S O F G H v z => match z with
  | .inl d => rD K S O F G H v d
  | .inr ds => rF K S O F G H v ds
instance {K : PySem.W.Frag} : Anti (rQ K) := ⟨fun {S S' O F G H b a} k h => by
  cases a with
  | inl d => exact h
  | inr ds => exact Anti.anti (R := rF K) (O := O) (F := F) (H := H) k h⟩
def rPQ (K : PySem.W.Frag) (g : List PyData → Option PQ) : List V → Hp → VK → Prop := fun vs H Q => ∃ G ds z, Same G H ∧ DqAll K G vs ds ∧ g ds = some z ∧ (∀ d, z = .inl d → ∀ v G' H', Ps G H G' H' → Dq K G' v d → Q v H') ∧
  ∀ zs, z = .inr zs → ∀ p xs G' H', Ps G H G' H' → G' p = none → H p = none → H' p = some (.lst xs) → DqAll K G' xs zs → Q (.ref p) H'
def spQ (K : PySem.W.Frag) (g : List PyData → Option PQ) : Sp := fun vs H Q _ => rPQ K g vs H Q
structure DQ (K : PySem.W.Frag) (E : XE) (X : Cx) (e : Expr) (m : M PQ) : Prop where
  pe : X.K = K → PE X e (tM K E (rQ K) m)
section
variable {K : PySem.W.Frag} {E : XE} {X : Cx} {a b e : Expr} {es : List Expr} {m : M (List PyData)} {mq : M PQ} {pos : Pos}
def mCallQ (g : List PyData → Option PQ) (m : M (List PyData)) : M PQ := m.bind fun ds => M.lift (g ds)
theorem dcQ {x : Str} {p : Pos} {k : Nat} {ps : List Str} {g : List PyData → Option PQ} (G : Has X.prog X.w K X.mg X.base k x ps (spQ K g)) (hr : Room k X.A) (hg : Gl X x)
    (ha : DA K E X (e :: es) m) (hdb : (x == ("__debug__" : Str)) = false := by decide) (he : starEach (e :: es) X.env = (false, eval e X.env) :: starEach es X.env := by rfl)
    (hpl : (backTo pos (starEach es X.env)).any (·.1) = false := by rfl) : DQ K E X (.Call (.Name x p) (e :: es) [] pos) (mCallQ g m) := by
  obtain ⟨f, fd, Fk, hb, hm, hk⟩ := G
  refine ⟨fun hK => ?_⟩
  subst hK
  refine PE.imp (pe_call (E := E0) Fk hr hg hm hk hb .nil pass0 (ha.pa rfl) hdb he hpl) fun σ H Q ⟨F, O, G, r, out, P, em, f⟩ => ?_
  refine tM.run P f em fun ds r1 xs G1 H1 P1 g1 q1 e1 f1 => ?_
  obtain ⟨z, hz, rfl⟩ := lift_ok e1
  rw [List.append_nil]
  refine ⟨G1, ds, z, P1.sub, q1, hz, fun d ez v G' H' p q => ?_, fun zs ez p ys G' H' ps gp hp e2 q => ?_⟩
  · subst ez
    exact f1.ok p P1 q
  · subst ez
    exact f1.ok ps P1 ⟨p, ys, rfl, hp, gp, P1.nf _ hp, fun i z => (P1.on i p z).2.2.1 hp, e2, q⟩
/-- x = f(..) -/
def sSetQ (i : Nat) (m : M PQ) : SM := sBind m fun z => match z with
  | .inl d => sPut i d
  | .inr ds => sPutO i ds
theorem ds_setQ_t {st : Stmt} {te : TE} {i : Nat} (h : PS X st (tAsg te (gName i))) (ht : ∀ σ H Q, tM K E (rQ K) mq σ H Q → te σ H Q) : PS X st (tS K E (sSetQ i mq)) := PS.imp h fun D σ H ⟨F, O, G, r, fl, P, em, f⟩ => by
  refine ht _ _ _ (tS.run P f em fun z r1 x G1 H1 P1 g1 q1 e1 f1 => ?_)
  cases z with
  | inl d =>
    dsimp only at e1
    unfold sPut at e1
    split at e1
    · cases e1
    · rename_i cel hne hc
      cases e1
      exact f1 _ G1 _ H1 (P1.put0 (fun ds z => hne ds (Option.some.inj (hc.symm.trans z))) q1) (Same.refl _)
    · cases e1
  | inr ds =>
    dsimp only at e1
    obtain ⟨p, xs, rfl, _, hg, h0, ho, hp, ha⟩ := q1
    unfold sPutO at e1
    split at e1
    · cases e1
    · rename_i cel hne hc
      cases e1
      exact f1 _ G1 _ H1 (P1.own0 (List.getElem?_eq_some_iff.mp hc).1 (fun ds z => hne ds (Option.some.inj (hc.symm.trans z))) hg h0 ho hp ha) (Same.refl _)
    · cases e1
theorem ds_setQ {i : Nat} {x : Str} {pos' : Pos} (hN : X.N.Nodup) (hi : X.N[i]? = some x) (hx : Loc X.env.scope x) (he : DQ K E X e mq) (hs : swapsWith e (some (.Name x pos')) pos.line X.env = pure false := by rfl) (hf : X.fn x = true ∨ X.env.scope.names.lookup x = some .local := by first | exact .inl rfl | exact .inr rfl | assumption) :
    DS K E X (.Assign [.Name x pos'] e pos) (sSetQ i mq) := ⟨fun hK => ds_setQ_t (ps_set hN hi hx (he.pe hK) hs hf) fun _ _ _ h => h⟩
/-- return f(..) -/
def sRetQ (m : M PQ) : SM := sBind m fun z r => match z with
  | .inl d => some (.rt d r)
  | .inr ds => some (.rf ds r)
theorem ds_retQ (he : DQ K E X e mq) : DS K E X (.Return (some e) pos) (sRetQ mq) := ⟨fun hK => PS.imp (ps_ret (he.pe hK)) fun D σ H ⟨F, O, G, r, fl, P, em, f⟩ => by
  refine tS.run P f em fun z r1 x G1 H1 P1 g1 q1 e1 f1 => ?_
  cases z with
  | inl d =>
    cases e1
    exact f1 O G1 σ H1 x P1 (Same.refl _) q1
  | inr ds =>
    cases e1
    obtain ⟨p, xs, rfl, hs, hg, h0, ho, hp, ha⟩ := q1
    exact f1 O G1 σ H1 p xs P1 (Same.refl _) hg h0 hp ha⟩
/-- return the list that a slot owns -/
def sRetO (i : Nat) : SM := fun r => match r[i]? with
  | some (.ow ds) => some (.rf ds r)
  | _ => none
theorem ds_retO (i : Nat) {y : Str} {p2 : Pos} (hN : X.N[i]? = some y := by rfl) (hv : Vis X.env.scope y := by first | exact Or.inl rfl | exact Or.inr (Or.inl rfl) | exact Or.inr (Or.inr rfl)) (hd : (y == ("__debug__" : Str)) = false := by decide) (hcd : (y == ("__classdict__" : Str)) = false := by decide) :
    DS K E X (.Return (some (.Name y p2)) pos) (sRetO i) := ⟨fun hK => by
  subst hK
  refine PS.imp (ps_ret (pe_var hN hv hd hcd)) fun D σ H ⟨F, O, G, r, fl, P, em, f⟩ => ?_
  unfold sRetO at em
  split at em
  · rename_i ds e0
    cases em
    obtain ⟨q, xs, h1, h2, h0, h3, h4⟩ := P.ow i ds e0
    exact ⟨_, h2, f O G σ H q xs P (Same.refl _) (P.on i q h1).2.1 h0 h3 h4⟩
  · cases em⟩
end
def outQ : Option Fl → Option PQ
  | some (.rt z _) => some (.inl z)
  | some (.nx _) => some (.inl .none)
  | some (.rf ds _) => some (.inr ds)
  | _ => none
def runQ (N : List Str) (n : Nat) (sv : SM) (ds : List PyData) : Option PQ := if ds.length = n then outQ (sv (ini N ds)) else none
section
variable {P : Program} {w : World} {K : PySem.W.Frag} {mg : Str → Option Value} {base : Heap}
theorem def_q {x qual : Str} {st : Stmt} {f : Addr} {fd : FuncData} {N ps : List Str} {k n : Nat} {sv : SM} (F : Fun K x qual st f fd) (S : FnScope N ps (defScope st)) (hb : Binds K fd ps []) (hm : mg x = some (.ref f))
    (h : ∀ (cdv : Value) (A : Around) (outer : List Env) (s : Shared) (H : Hp) (E : XK), Room k (A.deeper (envOfC qual (defScope st) s.heap.objs.size f cdv)) → DSs K XN (cxOf CX0 P w K mg base N qual (defScope st) f cdv A outer s H E).nox (defBody st) sv)
    (hn : ps.length = n := by rfl) : Has P w K mg base (k + 1) x ps (spQ K (runQ N n sv)) := by
  have len : ∀ ds z, runQ N n sv ds = some z → ds.length = ps.length := fun ds z e => by
    unfold runQ at e
    split at e
    · rename_i hl
      exact hl.trans hn.symm
    · cases e
  refine ⟨f, fd, ?_, hb, hm, F.kp⟩
  refine F.ok S (fun vs H Q E ⟨G, ds, z, sg, hd, hz, q⟩ => by rw [hd.length]; exact len ds z hz) fun cdv A outer s H vs Q E hr ⟨G, ds, z, sg, hd, hz, q1, q2⟩ => ?_
  refine ⟨_, (h cdv A outer s H E hr).ps rfl, ?_⟩
  unfold runQ at hz
  split at hz
  · cases e : sv (ini N ds) with
    | none => rw [e] at hz; cases hz
    | some fl =>
      rw [e] at hz
      cases fl with
      | rt d r =>
        cases hz
        exact ⟨_, _, G, _, _, start_rp sg hd, e, fun O' G' σ' H' v R g hv => q1 d rfl v G' H' ⟨R.g0, R.sub, fun c o e => R.old c o e fun i z => (nomatch z), R.gn⟩ hv⟩
      | nx r =>
        cases hz
        exact ⟨_, _, G, _, _, start_rp sg hd, e, fun O' G' σ' H' R g => q1 _ rfl .non G' H' ⟨R.g0, R.sub, fun c o e => R.old c o e fun i z => (nomatch z), R.gn⟩ .non⟩
      | rf zs r =>
        cases hz
        exact ⟨_, _, G, _, _, start_rp sg hd, e, fun O' G' σ' H' p xs R g gp h0 hp ha => q2 zs rfl p xs G' H' ⟨R.g0, R.sub, fun c o e => R.old c o e fun i z => (nomatch z), R.gn⟩ gp h0 hp ha⟩
      | bk r => cases hz
      | ct r => cases hz
      | ex c p => cases hz
  · cases hz
end
end DL
/-! D16: own lists read as data by a test that leaves them as they are -/
namespace DL
open PySem PySem.Spec PyProof.Rows L2 Lk
section
variable {K : PySem.W.Frag} {E : XE} {F : Fm} {O : Ow} {G H : Hp} {σ : L2.St} {r : En}
theorem Rp.frz2 (R : Rp K F O G σ H r) {i : Nat} {ds : List PyData} (e : r[i]? = some (Cel.ow ds)) : ∃ p xs, O i = some p ∧ H p = some (.lst xs) ∧ G p = none ∧ Rp K F (fun j => if j = i then none else O j) (upd G p (.lst xs)) σ H (r.set i (.pl (.list ds))) := by
  obtain ⟨p, xs, h1, h2, h0, h3, h4⟩ := R.ow i ds e
  have hio : ∀ ds', r[i]? ≠ some (Cel.io ds') := fun ds' z => by rw [e] at z; cases z
  have gp : G p = none := (R.on i p h1).2.1
  have P := dropO R hio
  have no : ∀ j, (fun j => if j = i then none else O j) j ≠ some p := fun j z => by
    dsimp only at z
    split at z
    · cases z
    · rename_i n
      exact n (R.inj j i p z h1)
  have Q := P.see h3 gp h0 no
  have S := Q.tell (i := i) (c := .pl (.list ds)) (by show (if i = i then none else O i) = none; rw [if_pos rfl]) (.inr ⟨_, .ref p, rfl, h2, .lst (.inl (.inl upd_same)) (h4.sm (same_new gp))⟩)
  rw [List.set_set] at S
  exact ⟨p, xs, h1, h3, gp, S⟩
def fzTo : Nat → En → En
  | 0, r => r
  | n + 1, r => match (fzTo n r)[n]? with
    | some (.ow ds) => (fzTo n r).set n (.pl (.list ds))
    | _ => fzTo n r
def fz (r : En) : En := fzTo r.length r
theorem fzTo_ge {r : En} : ∀ {n j : Nat}, n ≤ j → (fzTo n r)[j]? = r[j]?
  | 0, _, _ => rfl
  | n + 1, j, h => by
    have ih := fzTo_ge (r := r) (n := n) (j := j) (by omega)
    rw [fzTo]
    split
    · rw [List.getElem?_set_ne (by omega)]
      exact ih
    · exact ih
theorem frz_to (R : Rp K F O G σ H r) : ∀ n, ∃ O' G', Same G G' ∧ (∀ j c, O' j = some c → O j = some c) ∧ (∀ j ds p, j < n → r[j]? = some (.ow ds) → O j = some p → G' p = H p) ∧ (∀ j, n ≤ j → O' j = O j) ∧ Rp K F O' G' σ H (fzTo n r)
  | 0 => ⟨O, G, Same.refl _, fun _ _ e => e, fun j ds p h => absurd h (Nat.not_lt_zero _), fun _ _ => rfl, R⟩
  | n + 1 => by
    obtain ⟨O', G', h1, h2, h3, h4, h5⟩ := frz_to R n
    rw [fzTo]
    split
    · rename_i ds e
      obtain ⟨p, xs, o1, o2, gp, S⟩ := h5.frz2 e
      refine ⟨_, _, h1.trans (same_new gp), fun j c e => ?_, fun j ds' q hj er eo => ?_, fun j hj => ?_, S⟩
      · have e' : (if j = n then none else O' j) = some c := e
        split at e'
        · cases e'
        · exact h2 j c e'
      · by_cases z : j = n
        · subst z
          rw [← h4 j (Nat.le_refl _), o1] at eo
          cases eo
          rw [upd_same, o2]
        · have := h3 j ds' q (by omega) er eo
          by_cases y : q = p
          · subst y
            rw [upd_same, o2]
          · rw [upd_ne y]
            exact this
      · show (if j = n then none else O' j) = O j
        rw [if_neg (by omega)]
        exact h4 j (by omega)
    · rename_i hno
      refine ⟨O', G', h1, h2, fun j ds' q hj er eo => ?_, fun j hj => h4 j (by omega), h5⟩
      by_cases z : j = n
      · subst z
        rw [← fzTo_ge (Nat.le_refl j)] at er
        exact absurd er (hno ds')
      · exact h3 j ds' q (by omega) er eo
end
/-- leaves the names as they are -/
def Pu {α : Type} (m : M α) : Prop := ∀ r b r', m r = some (.ok b r') → r' = r
section
variable {α β : Type}
theorem pu_ret {a : α} : Pu (M.ret a : M α) := fun r b r' e => by cases e; rfl
theorem pu_lift {o : Option α} : Pu (M.lift o : M α) := fun r b r' e => by
  cases o with
  | none => cases e
  | some a => cases e; rfl
theorem pu_bind {m : M α} {k : α → M β} (h : Pu m) (hk : ∀ a, Pu (k a)) : Pu (m.bind k) := fun r b r' e => by
  unfold M.bind at e
  cases em : m r with
  | none => rw [em] at e; cases e
  | some o =>
    rw [em] at e
    cases o with
    | ok a r1 =>
      have := h r a r1 em
      subst this
      exact hk a _ b r' e
    | ex c p => cases e
theorem pu_V {i : Nat} : Pu (mV i) := fun r b r' e => by
  unfold mV at e
  split at e
  · cases e; rfl
  · cases e
theorem pu_ite {c : Prop} [Decidable c] {m n : M α} (h1 : Pu m) (h2 : Pu n) : Pu (if c then m else n) := by
  split
  · exact h1
  · exact h2
end
def noIo : Cel → Bool
  | .io _ => false
  | _ => true
def mPeek (m : M Bool) : M Bool := fun r => if r.all noIo then (match m (fz r) with
  | some (.ok b _) => some (.ok b r)
  | some (.ex c p) => some (.ex c p)
  | none => none) else none
section
variable {K : PySem.W.Frag} {E : XE} {F : Fm} {O : Ow} {G H : Hp} {σ : L2.St} {r : En}
theorem frz_run (P : Rp K F O G σ H r) (hio : r.all noIo = true) : ∃ O' G', Same G G' ∧ Rp K F O' G' σ H (fz r) ∧ ∀ (G2 H2 : Hp) (r1 : En), Rp K F O' G2 σ H2 r1 → Go O' G' H G2 H2 → Rp K F O G σ H2 r ∧ Go O G H G H2 ∧ Same G G2 := by
  obtain ⟨O', G', h1, h2, h3, h4, R⟩ := frz_to P r.length
  refine ⟨O', G', h1, R, fun G2 H2 r1 R2 g2 => ?_⟩
  have keep : ∀ (j : Nat) (ds : List PyData), r[j]? = some (.ow ds) → ∀ p, O j = some p → ∀ o, H p = some o → H2 p = some o := fun j ds e p ho o hh => by
    have lj : j < r.length := (List.getElem?_eq_some_iff.mp e).1
    have := h3 j ds p lj e ho
    rw [hh] at this
    exact R2.sub _ _ (g2.gg _ _ this)
  have noio : ∀ (j : Nat) (ds : List PyData), r[j]? ≠ some (.io ds) := fun j ds e => by
    have := List.all_eq_true.mp hio _ (List.mem_of_getElem? e)
    cases this
  refine ⟨⟨fun c o e => R2.sub _ _ (g2.gg _ _ (h1 _ _ e)), P.len, P.pl, fun i ds e => ?_, fun i ds e => absurd e (noio i ds), fun i p e => ?_, P.inj, R2.old, R2.nf, P.g0, P.gn⟩, ⟨Same.refl _, fun c o e n => g2.keep c o e fun i z => n i (h2 i c z), fun c e => .inl e, g2.nf⟩, h1.trans g2.gg⟩
  · obtain ⟨p, xs, o1, o2, o3, o4, o5⟩ := P.ow i ds e
    exact ⟨p, xs, o1, o2, o3, keep i ds e p o1 _ o4, o5⟩
  · obtain ⟨⟨c, c1, c2⟩, n1, n2, n3⟩ := P.on i p e
    refine ⟨⟨c, c1, c2⟩, n1, ?_, n3⟩
    cases c with
    | ow ds =>
      obtain ⟨p', xs, o1, o2, o3, o4, o5⟩ := P.ow i ds c1
      rw [e] at o1
      cases o1
      rw [keep i ds c1 p e _ o4]
      simp
    | io ds => exact absurd c1 (noio i ds)
    | un => cases c2
    | pl d => cases c2
theorem dt_peek {X : Cx} {e : Expr} {m : M Bool} (h : DT K E X e m) : DT K E X e (mPeek m) := ⟨fun hK => PT.imp (h.pt hK) fun σ H Q ⟨F, O, G, r, out, P, em, f⟩ => by
  unfold mPeek at em
  split at em
  · rename_i hio
    obtain ⟨O', G', _, R, k⟩ := frz_run P hio
    cases e0 : m (fz r) with
    | none => rw [e0] at em; cases em
    | some o =>
      rw [e0] at em
      refine ⟨F, O', G', fz r, o, R, e0, ?_⟩
      cases o with
      | ex c p => cases em; exact f
      | ok b r1 =>
        cases em
        intro b' G2 H2 R2 g2 q
        obtain ⟨k1, k2, _⟩ := k G2 H2 r1 R2 g2
        exact f b' G H2 k1 k2 q
  · cases em⟩
/-- no list, no tuple -/
def atomD : PyData → Bool
  | .int _ => true
  | .bool _ => true
  | .none => true
  | .str _ => true
  | _ => false
theorem Dq.atom {K : PySem.W.Frag} {G G' : Hp} {v : V} {d : PyData} (h : Dq K G v d) (a : atomD d = true) : Dq K G' v d := by
  cases h with
  | int => exact .int _
  | bl => exact .bl _
  | non => exact .non
  | str => exact .str _
  | _ => cases a
theorem DqAll.atoms {K : PySem.W.Frag} {G G' : Hp} : ∀ {vs : List V} {ds : List PyData}, DqAll K G vs ds → ds.all atomD = true → DqAll K G' vs ds
  | _, _, .nil, _ => .nil
  | _, _, .cons h t, a => by
    rw [List.all_cons, Bool.and_eq_true] at a
    exact .cons (h.atom a.1) (t.atoms a.2)
def mPeekV (m : M PyData) : M PyData := fun r => if r.all noIo then (match m (fz r) with
  | some (.ok d _) => if atomD d then some (.ok d r) else none
  | some (.ex c p) => some (.ex c p)
  | none => none) else none
theorem de_peek {X : Cx} {e : Expr} {m : M PyData} (h : DE K E X e m) : DE K E X e (mPeekV m) := ⟨fun hK => PE.imp (h.pe hK) fun σ H Q ⟨F, O, G, r, out, P, em, f⟩ => by
  unfold mPeekV at em
  split at em
  · rename_i hio
    obtain ⟨O', G', _, R, k⟩ := frz_run P hio
    cases e0 : m (fz r) with
    | none => rw [e0] at em; cases em
    | some o =>
      rw [e0] at em
      refine ⟨F, O', G', fz r, o, R, e0, ?_⟩
      cases o with
      | ex c p => cases em; exact f
      | ok d r1 =>
        dsimp only at em
        split at em
        · rename_i ha
          cases em
          intro v G2 H2 R2 g2 q
          obtain ⟨k1, k2, _⟩ := k G2 H2 r1 R2 g2
          exact f v G H2 k1 k2 (Dq.atom q ha)
        · cases em
  · cases em⟩
/-- a new list of plain values -/
def mPeekF (m : M (List PyData)) : M (List PyData) := fun r => if r.all noIo then (match m (fz r) with
  | some (.ok ds _) => if ds.all atomD then some (.ok ds r) else none
  | some (.ex c p) => some (.ex c p)
  | none => none) else none
theorem df_peek {X : Cx} {e : Expr} {m : M (List PyData)} (h : DF K E X e m) : DF K E X e (mPeekF m) := ⟨fun hK => PE.imp (h.pe hK) fun σ H Q ⟨F, O, G, r, out, P, em, f⟩ => by
  unfold mPeekF at em
  split at em
  · rename_i hio
    obtain ⟨O', G', _, R, k⟩ := frz_run P hio
    cases e0 : m (fz r) with
    | none => rw [e0] at em; cases em
    | some o =>
      rw [e0] at em
      refine ⟨F, O', G', fz r, o, R, e0, ?_⟩
      cases o with
      | ex c p => cases em; exact f
      | ok ds r1 =>
        dsimp only at em
        split at em
        · rename_i ha
          cases em
          intro v G2 H2 R2 g2 q
          obtain ⟨k1, k2, k3⟩ := k G2 H2 r1 R2 g2
          obtain ⟨p, xs, hv, hp, hG, h0, hO, hH, hd⟩ := q
          refine f v G H2 k1 k2 ⟨p, xs, hv, hp, P.sub.free hp, h0, fun i z => ?_, hH, DqAll.atoms hd ha⟩
          exact (P.on i p z).2.2.1 hp
        · cases em
  · cases em⟩
end
end DL
/-! D17: a def that changes its first argument and calls itself -/
namespace DL
open PySem PySem.Spec PyProof.Rows L2 Lk
section
variable {P : Program} {w : World} {K : PySem.W.Frag} {mg : Str → Option Value} {base : Heap}
theorem has_noneM {x qual : Str} {st : Stmt} {f : Addr} {fd : FuncData} {ps : List Str} {k : Nat} (F : Fun K x qual st f fd) (hb : Binds K fd ps []) (hm : mg x = some (.ref f)) : Has P w K mg base k x ps (spM K fun _ _ => none) := by
  refine ⟨f, fd, ⟨fun vs H Q E h => ?_, fun A outer s H args us vs Q E _ _ _ _ h => ?_⟩, hb, hm, F.kp⟩
  · obtain ⟨G, p, xs, ws, bs, ds, z, bs', _, _, _, _, _, _, e, _⟩ := h
    cases e
  · obtain ⟨G, p, xs, ws, bs, ds, z, bs', _, _, _, _, _, _, e, _⟩ := h
    cases e
end
end DL
/-! D18: errors that are raised and caught -/
namespace DL
open PySem PySem.Spec PyProof.Rows L2 Lk
/-- what a call gives: a value, or the class of the error that it raises -/
abbrev PX := PyData ⊕ Str
/-- a class of errors -/
structure ErrC (K : PySem.W.Frag) (C : Addr) : Prop where
  ex : PySem.W.excIn K C [.type "ValueError", .type "Exception", .type "BaseException", .type "object"] "ValueError.__new__" = true
  kp : PySem.W.keepIn K (.ref C) = true
  ty : PySem.W.typeIn K (.ref C) = some (.type "type")
  sb : PySem.W.subIn K (.ref C) (.type "BaseException") = some true
def Kls (K : PySem.W.Frag) (mg : Str → Option Value) (c : Str) : Prop := ∃ C, mg c = some (.ref C) ∧ ErrC K C
def catches (h c : Str) : Bool := h == c || h == "ReasonError"
/-- whether a clause of h takes an error of c -/
def Exo (K : PySem.W.Frag) (mg : Str → Option Value) (c h : Str) : Prop := ∀ C CH, mg c = some (.ref C) → mg h = some (.ref CH) → PySem.W.exmOne K (.ref C) (.ref CH) = some (catches h c)
def spX (K : PySem.W.Frag) (mg : Str → Option Value) (g : List PyData → Option PX) : Sp := fun vs H Q E => ∃ G ds, Same G H ∧ DqAll K G vs ds ∧
  ((∃ z, g ds = some (.inl z) ∧ ∀ v G' H', Ps G H G' H' → Dq K G' v z → Q v H') ∨ ∃ c, g ds = some (.inr c) ∧ ∀ C H', mg c = some (.ref C) → Same H H' → E (.ref C) none H')
def HasX (P : Program) (w : World) (K : PySem.W.Frag) (mg : Str → Option Value) (base : Heap) (k : Nat) (x : Str) (ps : List Str) (sp : Sp) : Prop :=
  ∃ (f : Addr) (fd : FuncData), FnOk P w K mg base (L2.CX P w) k f fd ps sp ∧ Binds K fd ps [] ∧ mg x = some (.ref f) ∧ PySem.W.keepIn K (.ref f) = true
theorem HasX.mono {P : Program} {w : World} {K : PySem.W.Frag} {mg : Str → Option Value} {base : Heap} {k j : Nat} {x : Str} {ps : List Str} {sp : Sp} (h : HasX P w K mg base k x ps sp) (l : k ≤ j) : HasX P w K mg base j x ps sp := by
  obtain ⟨f, fd, F, r⟩ := h
  exact ⟨f, fd, F.mono l, r⟩
def mCallX (g : List PyData → Option PX) (m : M (List PyData)) : M PyData := m.bind fun ds r => match g ds with
  | some (.inl z) => some (.ok z r)
  | some (.inr c) => some (.ex c [])
  | none => none
/-- what the errors of a body are taken for -/
def Lnk (X : Cx) (E : XE) : Prop := ∃ W : WX, Takes X W ∧ ∀ c C σ H', E c [] H' → X.mg c = some (.ref C) → W (.ref C) none σ H'
def XEd (mg : Str → Option Value) (E : XK) : XE := fun c p H' => ∀ C, p = [] → mg c = some (.ref C) → E (.ref C) none H'
section
variable {K : PySem.W.Frag} {E : XE} {X : Cx} {e : Expr} {es : List Expr} {m : M (List PyData)} {pos : Pos}
theorem dcX {x : Str} {p : Pos} {k : Nat} {ps : List Str} {g : List PyData → Option PX} (L : Lnk X E) (G : HasX X.prog X.w K X.mg X.base k x ps (spX K X.mg g)) (hr : Room k X.A) (hg : Gl X x)
    (ha : DA K E X (e :: es) m) (hdb : (x == ("__debug__" : Str)) = false := by decide) (he : starEach (e :: es) X.env = (false, eval e X.env) :: starEach es X.env := by rfl)
    (hpl : (backTo pos (starEach es X.env)).any (·.1) = false := by rfl) : DE K E X (.Call (.Name x p) (e :: es) [] pos) (mCallX g m) := ⟨fun hK => by
  subst hK
  obtain ⟨f, fd, Fk, b, gm, kp⟩ := G
  obtain ⟨W, tk, hW⟩ := L
  refine PE.imp (pe_callS Fk hr hg gm kp b (fun σ => passAt tk σ) (ha.pa rfl) hdb he hpl) fun σ H Q ⟨F, O, G, r, out, P, em, f⟩ => ?_
  refine tM.run P f em fun ds r1 vs G1 H1 P1 g1 q1 e1 f1 => ?_
  show spX X.K X.mg g vs H1 Q (WE W σ)
  refine ⟨G1, ds, P1.sub, q1, ?_⟩
  cases hg : g ds with
  | none => rw [hg] at e1; cases e1
  | some z =>
    rw [hg] at e1
    cases z with
    | inl z =>
      cases e1
      exact .inl ⟨z, rfl, fun v G' H' p q => f1.ok p P1 q⟩
    | inr c =>
      cases e1
      exact .inr ⟨c, rfl, fun C H' hm sm => hW c C σ H' (f1 H' fun c o e n => sm _ _ (P1.old c o e n)) hm⟩⟩
end
def sRaise (c : Str) : SM := fun _ => some (.ex c [])
theorem ds_raise {K : PySem.W.Frag} {E : XE} {X : Cx} {x m : Str} {j : Nat} {p p2 p3 pos : Pos} (L : Lnk X E) (hc : X.calm = true) (kl : Kls K X.mg x) (hg : Gl X x) (hdb : (x == ("__debug__" : Str)) = false := by decide) :
    DS K E X (.Raise (some (.Call (.Name x p) [.Constant (.str m) j p2] [] p3)) none pos) (sRaise x) := ⟨fun hK => by
  subst hK
  obtain ⟨W, tk, hW⟩ := L
  obtain ⟨C, gC, EC⟩ := kl
  refine PS.imp (ps_raise hc tk (pmk_own PySem.F.excBase_ValueError EC.ex gC EC.kp (raises_own EC.sb EC.ty) hg hdb)) fun D σ H ⟨F, O, G, r, fl, P, em, f⟩ => ?_
  cases em
  exact hW x C σ H (f H P.old) gC⟩
/-! ## a def that may raise -/
def outX : Option Fl → Option PX
  | some (.rt z _) => some (.inl z)
  | some (.nx _) => some (.inl .none)
  | some (.ex c []) => some (.inr c)
  | _ => none
def runX (N : List Str) (n : Nat) (sv : SM) (ds : List PyData) : Option PX := if ds.length = n then outX (sv (ini N ds)) else none
section
variable {P : Program} {w : World} {K : PySem.W.Frag} {mg : Str → Option Value} {base : Heap}
theorem lnk_def {N : List Str} {qual : Str} {scope : Scope} {f : Addr} {cdv : Value} {A : Around} {outer : List Env} {s : Shared} {H : Hp} {E : XK} : Lnk (cxOf (L2.CX P w) P w K mg base N qual scope f cdv A outer s H E) (XEd mg E) :=
  ⟨_, takes_of (E := E) rfl rfl rfl rfl, fun c C σ H' h hm => h C rfl hm⟩
theorem def_x {x qual : Str} {st : Stmt} {f : Addr} {fd : FuncData} {N ps : List Str} {k n : Nat} {sv : SM} (F : Fun K x qual st f fd) (S : FnScope N ps (defScope st)) (hb : Binds K fd ps []) (hm : mg x = some (.ref f))
    (h : ∀ (cdv : Value) (A : Around) (outer : List Env) (s : Shared) (H : Hp) (E : XK), Room k (A.deeper (envOfC qual (defScope st) s.heap.objs.size f cdv)) → DSs K (XEd mg E) (cxOf (L2.CX P w) P w K mg base N qual (defScope st) f cdv A outer s H E) (defBody st) sv)
    (hn : ps.length = n := by rfl) : HasX P w K mg base (k + 1) x ps (spX K mg (runX N n sv)) := by
  refine ⟨f, fd, ?_, hb, hm, F.kp⟩
  have len : ∀ ds z, runX N n sv ds = some z → ds.length = ps.length ∧ outX (sv (ini N ds)) = some z := fun ds z e => by
    unfold runX at e
    split at e
    · rename_i hl
      exact ⟨hl.trans hn.symm, e⟩
    · cases e
  refine F.okX S (fun vs H Q E ⟨G, ds, sg, hd, q⟩ => ?_) fun cdv A outer s H vs Q E hr ⟨G, ds, sg, hd, q⟩ => ?_
  · rw [hd.length]
    rcases q with ⟨z, e, _⟩ | ⟨c, e, _⟩
    · exact (len _ _ e).1
    · exact (len _ _ e).1
  · refine ⟨_, (h cdv A outer s H E hr).ps rfl, ?_⟩
    rcases q with ⟨z, e, q⟩ | ⟨c, e, q⟩
    · have e2 := (len _ _ e).2
      cases hs : sv (ini N ds) with
      | none => rw [hs] at e2; cases e2
      | some fl =>
        rw [hs] at e2
        refine ⟨_, _, G, _, _, start_rp sg hd, hs, ?_⟩
        cases fl with
        | rt d r => cases e2; exact fun O' G' σ' H' v R g hv => q v G' H' ⟨R.g0, R.sub, fun c o e => R.old c o e fun i z => (nomatch z), R.gn⟩ hv
        | nx r => cases e2; exact fun O' G' σ' H' R g => q .non G' H' ⟨R.g0, R.sub, fun c o e => R.old c o e fun i z => (nomatch z), R.gn⟩ .non
        | ex c p =>
          cases p with
          | nil => cases e2
          | cons _ _ => cases e2
        | _ => cases e2
    · have e2 := (len _ _ e).2
      cases hs : sv (ini N ds) with
      | none => rw [hs] at e2; cases e2
      | some fl =>
        rw [hs] at e2
        refine ⟨_, _, G, _, _, start_rp sg hd, hs, ?_⟩
        cases fl with
        | ex c p =>
          cases p with
          | nil =>
            cases e2
            exact fun H' sm C _ hm => q C H' hm fun c o e => sm c o e fun i z => (nomatch z)
          | cons _ _ => cases e2
        | _ => cases e2
end
/-! ## try: f(..) / except C: .. -/
def pick (c : Str) : List (Str × SM) → Option SM
  | [] => none
  | (h, sv) :: t => if catches h c then some sv else pick c t
def sTry (L : List Str) (g : List PyData → Option PX) (m : M (List PyData)) (hs : List (Str × SM)) (ok : PyData → SM) : SM := fun r => match m r with
  | some (.ok ds r') => match g ds with
    | some (.inl z) => ok z r'
    | some (.inr c) => if L.contains c then (match pick c hs with
      | some sv => sv r'
      | none => none) else none
    | none => none
  | _ => none
def okNx (_ : PyData) : SM := fun r => some (.nx r)
/-- the clauses, and for each its suite -/
inductive Hds (K : PySem.W.Frag) (E : XE) (X : Cx) (L : List Str) : List ExceptHandler → List (Str × SM) → Prop
  | nil : Hds K E X L [] []
  | cons {x : Str} {b₀ : Stmt} {suite : List Stmt} {np pos' : Pos} {hds : List ExceptHandler} {sv : SM} {l : List (Str × SM)} (kl : Kls K X.mg x) (hg : Gl X x) (hdb : (x == ("__debug__" : Str)) = false)
      (ex : ∀ c ∈ L, Exo K X.mg c x) (hsu : ∀ (a : Addr) (pn : List (Addr × Obj)), DSs K E (X.suite a pn) (b₀ :: suite) sv) (r : Hds K E X L hds l) :
      Hds K E X L (.ExceptHandler (some (.Name x np)) none (b₀ :: suite) pos' :: hds) ((x, sv) :: l)
theorem Hds.to {K : PySem.W.Frag} {E : XE} {X : Cx} {L : List Str} (hK : X.K = K) : ∀ {hds : List ExceptHandler} {l : List (Str × SM)}, Hds K E X L hds l → ∃ l2, HdsOk X hds l2 ∧
    ∀ (c : Str) (C : Addr) (D : Ends) (σ : L2.St) (H : Hp) (sv : SM), c ∈ L → X.mg c = some (.ref C) → pick c l = some sv → tS K E sv D σ H → wMany X.K (fun _ _ _ _ => False) D l2 (.ref C) none σ H
  | _, _, .nil => ⟨[], .nil, fun c C D σ H sv _ _ e => by cases e⟩
  | _, _, .cons (x := x) (sv := sv) kl hg hdb ex hsu r => by
    obtain ⟨l2, h1, h2⟩ := Hds.to hK r
    obtain ⟨CH, gH, _⟩ := kl
    refine ⟨(.ref CH, fun a _ _ => tS K E sv) :: l2, .cons ⟨hg, hdb, .inl gH⟩ (fun a oe cls d pn _ _ => (hsu a _).ps hK) h1, fun c C D σ H sv' hc hm e q => ?_⟩
    refine ⟨catches x c, by rw [hK]; exact ex c hc C CH hm gH, fun hb a na => ?_, fun hb => h2 c C D σ H sv' hc hm ?_ q⟩
    · rw [pick, if_pos hb] at e
      cases e
      exact q
    · rw [pick, if_neg (by rw [hb]; exact Bool.false_ne_true)] at e
      exact e
section
variable {K : PySem.W.Frag} {E : XE} {X : Cx} {e : Expr} {es : List Expr} {m : M (List PyData)} {pos : Pos}
theorem ds_try {x : Str} {p p4 p5 : Pos} {k : Nat} {ps : List Str} {g : List PyData → Option PX} {L : List Str} {h₀ : ExceptHandler} {hds : List ExceptHandler} {l : List (Str × SM)}
    (hs : X.stack = X.env :: X.outer) (hf : X.env.frame = some X.env.locals) (G : HasX X.prog X.w K X.mg X.base k x ps (spX K X.mg g)) (hr : Room k X.A) (hg : Gl X x)
    (ha : ∀ pn xe, DA K E (X.tr pn xe) (e :: es) m) (hh : Hds K E X L (h₀ :: hds) l) (hdb : (x == ("__debug__" : Str)) = false := by decide) (he : starEach (e :: es) X.env = (false, eval e X.env) :: starEach es X.env := by rfl)
    (hpl : (backTo p4 (starEach es X.env)).any (·.1) = false := by rfl) (hsw : swapsWith (.Call (.Name x p) (e :: es) [] p4) none p5.line X.env = pure false := by rfl) :
    DS K E X (.Try [.Expr (.Call (.Name x p) (e :: es) [] p4) p5] (h₀ :: hds) [] [] pos) (sTry L g m l okNx) := ⟨fun hK => by
  subst hK
  obtain ⟨f, fd, Fk, b, gm, kp⟩ := G
  obtain ⟨l2, h1, h2⟩ := hh.to rfl
  refine PS.imp (ps_try_many hs hf takes0 (fun W pn xe tk _ => pss_one (ps_expr (pe_callS (X := X.tr pn xe) Fk hr hg gm kp b (fun σ => passAt tk σ) ((ha pn xe).pa rfl) hdb he hpl) hsw)) h1) fun D σ H ⟨F, O, G, r, fl, P, em, fi⟩ => ?_
  show tM X.K E (rA X.K) m σ H (fun vs H1 => spX X.K X.mg g vs H1 (fun v H' => D.nx σ H') (WE (wMany X.K (fun _ _ _ _ => False) D l2) σ))
  unfold sTry at em
  cases hm : m r with
  | none => rw [hm] at em; cases em
  | some o =>
    rw [hm] at em
    cases o with
    | ex c p => cases em
    | ok ds r1 =>
      refine ⟨F, O, G, r, _, P, hm, fun vs G1 H1 P1 g1 q1 => ⟨G1, ds, P1.sub, q1, ?_⟩⟩
      dsimp only at em
      cases hg : g ds with
      | none => rw [hg] at em; cases em
      | some z =>
        rw [hg] at em
        cases z with
        | inl z =>
          cases em
          exact .inl ⟨z, rfl, fun v G' H' p q => fi O G' σ H' (P1.ps p) (g1.gg.trans p.gg)⟩
        | inr c =>
          dsimp only at em
          refine .inr ⟨c, rfl, fun C H' hC sm => ?_⟩
          split at em
          · rename_i hc
            cases hp : pick c l with
            | none => rw [hp] at em; cases em
            | some sv =>
              rw [hp] at em
              exact h2 c C D σ H' sv (List.contains_iff_mem.mp hc) hC hp ⟨F, O, G1, r1, fl, P1.ps (Ps.of_same P1.sub sm), em, fi.via g1.gg⟩
          · cases em⟩
end
/-! ## a < b < c as a test -/
section
variable {K : PySem.W.Frag} {E : XE} {X : Cx} {a b c e : Expr} {ma mb mc : M PyData} {pos : Pos}
theorem dt_chain {op op' : CmpOp} {f g : PyData → PyData → Option PyData} (ho : OpD K X (compareOp op) f) (ho' : OpD K X (compareOp op') g) (ha : DE K E X a ma) (hb : DE K E X b mb) (hc : DE K E X c mc)
    (h1 : lastMarks [op, op'] [b, c] = false := by with_unfolding_all rfl) : DT K E X (.Compare a [op, op'] [b, c] pos) (mVal (mChain f g ma mb mc)) :=
  ⟨fun hK => PT.imp (pt_chain (ho hK) (ho' hK) (ha.pe hK) (hb.pe hK) (hc.pe hK) h1) fun σ H Q ⟨F, O, G, r, out, P, em, ff⟩ => by
  have T : tM K E (rD K) (mChain f g ma mb mc) σ H (fun v H' => ∃ k, v = .bl k ∧ Q k H') := tM.run P ff em fun d r1 x G1 H1 P1 g1 q1 e1 f1 => by
    obtain ⟨k, hz, rfl⟩ := lift_ok e1
    cases asBool_some hz
    exact ⟨k, dp_bool q1, f1.ok (Ps.refl P1.sub) P1 rfl⟩
  obtain ⟨F, O, G, r, out, P, em, ff⟩ := T
  show tChain _ _ _ _ _ σ H _
  refine tM.run P ff em fun d r1 x G1 H1 P1 g1 q1 e1 f1 => ?_
  refine tM.run P1 f1 e1 fun ds r2 y G2 H2 P2 g2 q2 e2 f2 => ?_
  obtain ⟨k, hz, e3⟩ := bind_lift_ok e2
  obtain ⟨z, h1, h2⟩ := Option.bind_eq_some_iff.mp hz
  cases asBool_some h2
  refine ⟨G2, _, _, _, P2.sub, q1.sm g2.gg, q2, h1, fun v G' H' p q => ⟨k, dp_bool q, ?_⟩⟩
  have P2' := P2.ps p
  have f2' := f2.via (p.go : Go O G2 H2 G' H')
  cases k with
  | true =>
    refine iteT (tM.run P2' f2' e3 fun h r3 w G3 H3 P3 g3 q3 e4 f3 => ?_)
    obtain ⟨o, ho, rfl⟩ := lift_ok e4
    obtain ⟨z', h3, h4⟩ := Option.bind_eq_some_iff.mp ho
    obtain ⟨b', h5, rfl⟩ := Option.map_eq_some_iff.mp h4
    cases asBool_some h5
    exact ⟨G3, _, _, _, P3.sub, (q2.sm p.gg).sm g3.gg, q3, h3, fun v G' H' p q => f3.ok p P3 q⟩
  | false =>
    cases e3
    exact iteF (f2'.ok (Ps.refl P2'.sub) P2' (.bl _))⟩
end
end DL
/-! D19: t.count(x), t a tuple that tuple(..) has just made; it is handed to a def whose first statement asks it -/
namespace DL
open PySem PySem.Spec PyProof.Rows L2 Lk
/-- a tuple whose object is known -/
def KTup (H : Hp) (p : Addr) : Prop := ∃ (o : Obj) (xs : List V), H p = some (.frz o (.tup xs)) ∧ o.cls = .type "tuple" ∧ o.dict = none
def countT : PyData → List PyData → Option PyData
  | .tuple ds, [d] => if SeqAt.shaped (.tuple ds) && SeqAt.shaped d then some (.int ((ds.countP fun z => PyData.eqv z d : Nat) : Int)) else none
  | _, _ => none
section
variable {K : PySem.W.Frag} {E : XE} {X : Cx} {a b e : Expr} {es : List Expr} {ma mb : M PyData} {pos : Pos}
def rCountT (K : PySem.W.Frag) : V → List V → Hp → VK → Prop := fun x xs H Q => ∃ (a : Addr) (y : V) (d : PyData) (ds : List PyData), x = V.ref a ∧ xs = [y] ∧ Dp K H (V.ref a) (.tuple ds) ∧ Dp K H y d ∧
  SeqAt.shaped (.tuple ds) = true ∧ SeqAt.shaped d = true ∧ Q (.int ((ds.countP fun z => PyData.eqv z d : Nat) : Int)) H
theorem mt_countT (hu : X.A.units + 65 < cLine) : MtR X "tuple.count" (rCountT X.K) := by
  intro pins s σ H x xs v us Q I rx rxs h
  obtain ⟨a, y, d, ds, rfl, rfl, hl, hy, sl, sd, q⟩ := h
  cases rx
  cases rxs with
  | cons ry rt =>
    rename_i uy ut
    cases rt
    obtain ⟨bs, r1⟩ := Dp.reads I d y uy hy ry
    have hxs : PyData.canLayAll0 ds = true := SeqAt.canLay_of_shaped sl
    have hroom : X.A.units + 1 + min (PyData.depthAll ds) d.depth < cLine := by
      have h1 : d.depth ≤ 64 := by
        unfold SeqAt.shaped at sd
        rw [Bool.and_eq_true] at sd
        exact of_decide_eq_true sd.2
      have : min (PyData.depthAll ds) d.depth ≤ 64 := Nat.le_trans (Nat.min_le_right _ _) h1
      omega
    cases hl with
    | tup hs ha =>
      obtain ⟨its, rv, ⟨⟨cls, dd, data, sls⟩, ho, hc, n, hdt⟩, hlen⟩ := I.tuple hs
      simp only at hc hdt
      subst hc hdt
      obtain ⟨as, h4⟩ := Dp.readsAll I ds _ its ha rv
      have hmap : its.map (SeqAt.readOf s.heap) = ds := SeqAt.readsAll_map ds its as hxs h4
      refine call_meets PySem.F.slot_tuple_count ⟨_, ho, rfl⟩ PySem.F.entry_tuple_count (PySem.F.args_tuple_count_2 _ _)
        (SeqAt.tuple_countAt a its.toArray n dd sls uy (fun u => PyData.eqv (SeqAt.readOf s.heap u) d)) ⟨ho, SeqAt.items_eqAt (vs := its.toArray) (show ReadsAll s.heap its.toArray.toList ds as from h4) r1 hxs (SeqAt.canLay_of_shaped sd) hroom, ?_⟩
      have hc : (its.toArray.toList.countP fun u => PyData.eqv (SeqAt.readOf s.heap u) d) = ds.countP fun z => PyData.eqv z d := by
        rw [← hmap, List.countP_map]
        rfl
      rw [hc]
      exact ⟨.int _, H, I.tok _, ⟨_, rfl⟩, q⟩
/-- o.m(e, ..), o a tuple whose object is known -/
def tBMF (r : V → List V → Hp → VK → Prop) (to : TE) (t : TA) : TE := fun σ H Q => to σ H fun x H1 => (∃ p, x = .ref p ∧ KTup H1 p) ∧ t σ H1 fun xs H2 => r x xs H2 Q
theorem pe_bmF {o : Expr} {to : TE} {t : TA} {name : Str} {apos cpos : Pos} {id : String} {r : V → List V → Hp → VK → Prop} (slot : Slot "tuple" name id) (hty : typeOf (.builtin id) = pure (.type "method_descriptor")) (hm : MtR X id r) (ho : PE X o to) (ha : PA X (e :: es) t)
    (hbase : attributeBase o name X.env (eval o X.env) = eval o X.env := by rfl)
    (hfew : ((backTo cpos (starEach (e :: es) X.env)).all (fun x => !x.1) && (backToKw cpos (keywordEach [] X.env)).all (fun x => x.1.isSome)
      && decide ((e :: es).length + ([] : List Keyword).length + (if ([] : List Keyword).isEmpty then 0 else 1) < 30)) = true := by rfl)
    (hline : (apos.endLine == cpos.line) = true := by rfl) (hs : starEach (e :: es) X.env = (false, eval e X.env) :: starEach es X.env := by rfl) (hplain : (backTo cpos (starEach es X.env)).any (·.1) = false := by rfl) :
    PE X (.Call (.Attribute o name apos) (e :: es) [] cpos) (tBMF r to t) := by
  refine ⟨fun pins s σ H Q I h => ?_⟩
  refine wpAny_Call_method_late hbase hfew hline rfl (thn (ho.run pins s σ H _ I h) fun v s1 ⟨x, H1, I1, r1, ⟨p, e1, ob, ys, hp, hcl, hd⟩, q1⟩ => ?_)
  subst e1
  cases r1
  have hh := (I1.hok p _ hp).1
  refine ⟨"tuple", id, PySem.F.plainAttrs_tuple, slot, hty, ⟨ob, hh, hcl⟩, fun c e => ?_, ?_⟩
  · cases e
    exact ⟨ob, hh, hd⟩
  have hA := ha.run cpos pins s1 σ H1 _ I1 q1
  rw [hs] at hA ⊢
  refine Calls.callWith_builtin (by show (false || (backTo cpos (starEach es X.env)).any (·.1)) = false; rw [hplain] <;> rfl) (Calls.evalArgs_plain ?_)
  exact thn hA fun us s2 ⟨vs, H2, I2, r2, q2⟩ => hm pins s2 σ H2 (.ref p) vs (.ref p) us Q I2 rfl r2 q2
/-- what is known at the start of the statement -/
def Kn (i : Nat) (σ : L2.St) (H : Hp) : Prop := ∃ p, σ[i]? = some (some (.ref p)) ∧ KTup H p
def mCntT (i : Nat) (m : M (List PyData)) : M PyData := (mV i).bind fun d => m.bind fun ds => M.lift (countT d ds)
theorem pe_countT (i : Nat) {y : Str} {p2 ap : Pos} {m : M (List PyData)} {k : Nat} (hr : Room k X.A) (hK : X.K = K) (ha : DA K E X (e :: es) m) (hN : X.N[i]? = some y := by rfl) (hv : Vis X.env.scope y := by first | exact Or.inl rfl | exact Or.inr (Or.inl rfl) | exact Or.inr (Or.inr rfl))
    (hd : (y == ("__debug__" : Str)) = false := by decide) (hcd : (y == ("__classdict__" : Str)) = false := by decide)
    (hbase : attributeBase (.Name y p2) "count" X.env (eval (.Name y p2) X.env) = eval (.Name y p2) X.env := by rfl)
    (hfew : ((backTo pos (starEach (e :: es) X.env)).all (fun x => !x.1) && (backToKw pos (keywordEach [] X.env)).all (fun x => x.1.isSome)
      && decide ((e :: es).length + ([] : List Keyword).length + (if ([] : List Keyword).isEmpty then 0 else 1) < 30)) = true := by rfl)
    (hline : (ap.endLine == pos.line) = true := by rfl) (hs : starEach (e :: es) X.env = (false, eval e X.env) :: starEach es X.env := by rfl) (hplain : (backTo pos (starEach es X.env)).any (·.1) = false := by rfl) :
    PE X (.Call (.Attribute (.Name y p2) "count" ap) (e :: es) [] pos) (fun σ H Q => Kn i σ H ∧ tM K E (rD K) (mCntT i m) σ H Q) := by
  subst hK
  have hu : X.A.units + 65 < cLine := by have := hr.un; omega
  refine PE.imp (pe_bmF PySem.F.slot_tuple_count PySem.F.type_tuple_count (mt_countT hu) (pe_var hN hv hd hcd) (ha.pa rfl) hbase hfew hline hs hplain) fun σ H Q ⟨⟨p, e1, k1⟩, F, O, G, r, out, P, em, f⟩ => ?_
  refine ⟨.ref p, e1, ⟨p, rfl, k1⟩, ?_⟩
  unfold mCntT M.bind mV at em
  cases er : r[i]? with
  | none => rw [er] at em; cases em
  | some c =>
    rw [er] at em
    cases c with
    | pl d =>
      obtain ⟨v, h1, h2⟩ := P.pl i d er
      rw [e1] at h1
      cases h1
      have em2 : (m.bind fun ds => M.lift (countT d ds)) r = some out := em
      refine tM.run P f em2 fun ds r2 xs G2 H2 P2 g2 q2 e2 f2 => ?_
      obtain ⟨z, hz, rfl⟩ := lift_ok e2
      unfold countT at hz
      split at hz
      · split at hz
        · rename_i hsh
          rw [Bool.and_eq_true] at hsh
          cases hz
          obtain ⟨w, rfl, hw⟩ := one_of q2
          exact ⟨p, w, _, _, rfl, rfl, ((h2.sm g2.gg).sm P2.sub).dp, (hw.sm P2.sub).dp, hsh.1, hsh.2, f2.ok (Ps.refl P2.sub) P2 (.int _)⟩
        · cases hz
      · cases hz
    | _ => cases em
variable {kn : L2.St → Hp → Prop}
theorem pt_cmpK {op : CmpOp} {g : PyData → PyData → Option PyData} (hK : X.K = K) (ho : OpD K X (compareOp op) g) (ha : PE X a (fun σ H Q => kn σ H ∧ tM K E (rD K) ma σ H Q)) (hb : DE K E X b mb) (hm : behindInMarks op b = false) :
    PT X (.Compare a [op] [b] pos) (fun σ H Q => kn σ H ∧ tM K E rB (mOpT g ma mb) σ H Q) := PT.imp (pt_cmpR (ho hK) ha (hb.pe hK) hm) fun σ H Q ⟨hk, F, O, G, r, out, P, em, f⟩ => by
  refine ⟨hk, tM.run P f em fun d r1 x G1 H1 P1 g1 q1 e1 f1 => ?_⟩
  refine tM.run P1 f1 e1 fun ds r2 y G2 H2 P2 g2 q2 e2 f2 => ?_
  obtain ⟨c, hz, rfl⟩ := lift_ok e2
  obtain ⟨z, h1, h2⟩ := Option.bind_eq_some_iff.mp hz
  cases asBool_some h2
  exact ⟨G2, _, _, _, P2.sub, q1.sm g2.gg, q2, h1, fun v G' H' p q => ⟨c, dp_bool q, f2.ok p P2 rfl⟩⟩
theorem ps_ifK {c : Expr} {mc : M Bool} {sa sb : List Stmt} {A B : SM} (hK : X.K = K) (hc : PT X c (fun σ H Q => kn σ H ∧ tM K E rB mc σ H Q)) (ha : DSs K E X sa A) (hb : DSs K E X sb B) : PS X (.If c sa sb pos) (fun D σ H => kn σ H ∧ tS K E (sIf mc A B) D σ H) := PS.imp (ps_if hc (ha.ps hK) (hb.ps hK)) fun D σ H ⟨hk, F, O, G, r, fl, P, em, f⟩ => by
  refine ⟨hk, tS.run P f em fun d r1 x G1 H1 P1 g1 q1 e1 f1 => ?_⟩
  cases q1
  cases d with
  | true => exact iteT ⟨F, O, G1, r1, fl, P1, e1, f1⟩
  | false => exact iteF ⟨F, O, G1, r1, fl, P1, e1, f1⟩
theorem pss_consK {st : Stmt} {sts : List Stmt} {A B : SM} (hK : X.K = K) (h1 : PS X st (fun D σ H => kn σ H ∧ tS K E A D σ H)) (h2 : DSs K E X sts B) : PSs X (st :: sts) (fun D σ H => kn σ H ∧ tS K E (sSeq A B) D σ H) := PSs.imp (pss_cons h1 (h2.ps hK)) fun D σ H ⟨hk, F, O, G, r, fl, P, em, f⟩ => by
  unfold sSeq at em
  cases ea : A r with
  | none => rw [ea] at em; cases em
  | some fa =>
    rw [ea] at em
    refine ⟨hk, F, O, G, r, fa, P, ea, ?_⟩
    cases fa with
    | nx r' => exact fun O' G' σ' H' P' g => ⟨F, O', G', r', fl, P', em, f.via g⟩
    | rt d r' => cases em; exact f
    | bk r' => cases em; exact f
    | ct r' => cases em; exact f
    | ex c p => cases em; exact f
    | rf ds r' => cases em; exact f
end
/-! ## the def, and its call -/
/-- the second argument is such a tuple -/
def spT (K : PySem.W.Frag) (g : List PyData → Option PyData) : Sp := fun vs H Q _ => ∃ G v p d ds z, vs = [v, .ref p] ∧ Same G H ∧ KTup H p ∧ Dq K G v d ∧ Dq K G (.ref p) (.tuple ds) ∧ g [d, .tuple ds] = some z ∧ ∀ u G' H', Ps G H G' H' → Dq K G' u z → Q u H'
section
variable {P : Program} {w : World} {K : PySem.W.Frag} {mg : Str → Option Value} {base : Heap}
theorem def_t {x qual : Str} {st : Stmt} {f : Addr} {fd : FuncData} {N ps : List Str} {k : Nat} {sv : SM} (F : Fun K x qual st f fd) (S : FnScope N ps (defScope st)) (hb : Binds K fd ps []) (hm : mg x = some (.ref f)) (h2 : ps.length = 2)
    (h : ∀ (cdv : Value) (A : Around) (outer : List Env) (s : Shared) (H : Hp) (E : XK), Room k (A.deeper (envOfC qual (defScope st) s.heap.objs.size f cdv)) → PSs (cxOf CX0 P w K mg base N qual (defScope st) f cdv A outer s H E).nox (defBody st) (fun D σ H => Kn 1 σ H ∧ tS K XN sv D σ H)) :
    Has P w K mg base (k + 1) x ps (spT K (runD N 2 sv)) := by
  refine ⟨f, fd, F.ok S (fun vs H Q E ⟨G, v, p, d, ds, z, e, _⟩ => by rw [e, h2]; rfl) fun cdv A outer s H vs Q E hr ⟨G, v, p, d, ds, z, e, sg, kt, hd, hp, hz, q⟩ => ?_, hb, hm, F.kp⟩
  subst e
  refine ⟨_, h cdv A outer s H E hr, ⟨p, rfl, kt⟩, ?_⟩
  have hz' : outD (sv (ini N [d, .tuple ds])) = some z := hz
  have hda : DqAll K G [v, .ref p] [d, .tuple ds] := .cons hd (.cons hp .nil)
  cases hs : sv (ini N [d, .tuple ds]) with
  | none => rw [hs] at hz'; cases hz'
  | some fl =>
    rw [hs] at hz'
    refine ⟨_, _, G, _, _, start_rp sg hda, hs, ?_⟩
    cases fl with
    | rt d r => cases hz'; exact fun O' G' σ' H' v R g hv => q v G' H' ⟨R.g0, R.sub, fun c o e => R.old c o e fun i z => (nomatch z), R.gn⟩ hv
    | nx r => cases hz'; exact fun O' G' σ' H' R g => q .non G' H' ⟨R.g0, R.sub, fun c o e => R.old c o e fun i z => (nomatch z), R.gn⟩ .non
    | _ => cases hz'
end
section
variable {K : PySem.W.Frag} {E : XE} {X : Cx} {a b e : Expr} {pos : Pos} {ma mb : M PyData}
/-- tuple(l), l a list: the object is known -/
theorem call_tupleK : CallR X (.type "tuple") (fun xs H Q => ∃ p ys, xs = [.ref p] ∧ SqL X.K H p ys ∧ ∀ l o, H l = none → o.cls = .type "tuple" → o.dict = none → Q (.ref l) (upd H l (.frz o (.tup ys)))) := by
  intro pins s σ H xs us Q I r h
  obtain ⟨p, ys, rfl, hq, q⟩ := h
  obtain ⟨u, rfl, rx⟩ := vals1 r
  cases rx
  obtain ⟨its, r', pl, hz⟩ := I.list hq
  have hlen := r'.length
  refine call_tuple_list pl.isList (fun h' kp => ?_) (by simp only [List.size_toArray] <;> omega)
  have I1 : Inv X pins σ H { s with heap := h' } := I.kept (t' := s.toks) kp
  have I2 : Inv X pins σ (upd H h'.objs.size (.frz { cls := .type "tuple", data := .seq its.toArray } (.tup ys))) { s with heap := h'.push { cls := .type "tuple", data := .seq its.toArray } } :=
    I1.laid (t' := s.toks) (fun b o e => Heap.get?_push_of_some _ e) (Nat.le_refl _) (show ObjOk X.prog X.w _ _ _ (.frz _ (.tup ys)) from ⟨Heap.get?_push_size _ rfl, hz, its, r', IsTup.new _ _⟩)
  exact ⟨.ref h'.objs.size, _, I2, rfl, q _ _ (I1.hok.fresh (Nat.le_refl _)) rfl rfl⟩
/-- tuple(l) of a list -/
def tupL : PyData → Option PyData
  | .list ds => some (.tuple ds)
  | _ => none
def mTested (g : List PyData → Option PyData) (ma mb : M PyData) : M PyData := ma.bind fun d => mb.bind fun l => M.lift ((tupL l).bind fun t => g [d, t])
theorem dc_tested {x : Str} {p p2 p3 : Pos} {k : Nat} {ps : List Str} {g : List PyData → Option PyData} (G : Has X.prog X.w K X.mg X.base k x ps (spT K g)) (hr : Room k X.A) (hg : Gl X x) (hgt : Gl X "tuple") (hmt : X.mg "tuple" = none)
    (ha : DE K E X a ma) (hb : DE K E X b mb) (hdb : (x == ("__debug__" : Str)) = false := by decide)
    (h1 : starEach [a, .Call (.Name "tuple" p2) [b] [] p3] X.env = (false, eval a X.env) :: starEach [.Call (.Name "tuple" p2) [b] [] p3] X.env := by rfl)
    (h2 : starEach [.Call (.Name "tuple" p2) [b] [] p3] X.env = (false, eval (.Call (.Name "tuple" p2) [b] [] p3) X.env) :: starEach [] X.env := by rfl)
    (h3 : starEach [b] X.env = (false, eval b X.env) :: starEach [] X.env := by rfl)
    (hpl : (backTo pos (starEach [.Call (.Name "tuple" p2) [b] [] p3] X.env)).any (·.1) = false := by rfl) (hpl2 : (backTo p3 (starEach [] X.env)).any (·.1) = false := by rfl) :
    DE K E X (.Call (.Name x p) [a, .Call (.Name "tuple" p2) [b] [] p3] [] pos) (mTested g ma mb) := ⟨fun hK => by
  subst hK
  obtain ⟨f, fd, Fk, bi, gm, kp⟩ := G
  have hv : bootBuiltins "tuple" = some (.type "tuple") := by decide +kernel
  refine PE.imp (pe_call (E := E0) Fk hr hg gm kp bi .nil pass0 (pa_cons (ha.pe rfl) (pa_cons (pe_callTy call_tupleK hgt hmt hv (pa_cons (hb.pe rfl) pa_nil h3) (by decide) (by decide) h3 hpl2) pa_nil h2) h1) hdb h1 hpl) fun σ H Q ⟨F, O, G, r, out, P, em, ff⟩ => ?_
  refine tM.run P ff em fun d r1 v G1 H1 P1 g1 q1 e1 f1 => ?_
  refine tM.run P1 f1 e1 fun l r2 y G2 H2 P2 g2 q2 e2 f2 => ?_
  obtain ⟨z, hz, rfl⟩ := lift_ok e2
  obtain ⟨t, ht, hz⟩ := Option.bind_eq_some_iff.mp hz
  cases l with
  | list ds =>
    cases ht
    cases q2 with
    | @lst _ ys _ hs hd =>
      refine ⟨_, _, rfl, P2.sub.seq hs, fun p o hn hc hd0 => ?_⟩
      have gn : G2 p = none := P2.sub.free hn
      have pp : Ps G2 H2 (upd G2 p (.frz o (.tup ys))) (upd H2 p (.frz o (.tup ys))) := Ps.new P2.sub (same_new hn) hn upd_same
      refine ⟨_, v, p, d, ds, z, rfl, pp.gh, ⟨o, _, upd_same, hc, hd0⟩, (q1.sm g2.gg).sm pp.gg, .tup (.inl (.inr ⟨o, upd_same⟩)) (hd.sm pp.gg), hz, fun u G' H' p' q => ?_⟩
      exact f2.ok (pp.trans p') P2 q
  | _ => cases ht⟩
end
/-! ## a if c else b, plain data or a new list -/
def mInl (m : M PyData) : M PQ := m.bind fun d => M.ret (.inl d)
def mInr (m : M (List PyData)) : M PQ := m.bind fun ds => M.ret (.inr ds)
section
variable {K : PySem.W.Frag} {E : XE} {X : Cx} {a b c e : Expr} {pos : Pos} {m : M PyData} {mc : M Bool} {ml : M (List PyData)} {ma mb : M PQ}
theorem dq_d (h : DE K E X e m) : DQ K E X e (mInl m) := ⟨fun hK => PE.imp (h.pe hK) fun σ H Q ⟨F, O, G, r, out, P, em, f⟩ =>
  tM.run P f em fun d r1 x G1 H1 P1 g1 q1 e1 f1 => by
    cases e1
    exact f1.ok (Ps.refl P1.sub) P1 q1⟩
theorem dq_if (hc : DT K E X c mc) (ha : DQ K E X a ma) (hb : DQ K E X b mb) : DQ K E X (.IfExp c a b pos) (mIf mc ma mb) := ⟨fun hK => PE.imp (pe_ifExp (hc.pt hK) (ha.pe hK) (hb.pe hK)) fun σ H Q ⟨F, O, G, r, out, P, em, f⟩ => by
  refine tM.run P f em fun d r1 x G1 H1 P1 g1 q1 e1 f1 => ?_
  cases q1
  cases d with
  | true => exact iteT ⟨F, O, G1, r1, out, P1, e1, f1⟩
  | false => exact iteF ⟨F, O, G1, r1, out, P1, e1, f1⟩⟩
end
end DL
/-! D20: xs[a:b:c] -/
namespace DL
open PySem PySem.Spec PyProof.Rows L2 Lk
/-- the places that xs[lo:hi:st] takes -/
def pickL (n : Nat) (lo hi st : Option Int) : List Nat := sliceRange (sliceBounds lo hi st n).1 (sliceBounds lo hi st n).2.1 (sliceBounds lo hi st n).2.2
def pickD {α : Type} (xs : List α) (lo hi st : Option Int) : List α := (pickL xs.length lo hi st).filterMap fun j => xs[j]?
theorem Vals.at2 : ∀ {xs : List V} {us : List Value} (j : Nat), Vals xs us → (xs[j]? = none ∧ us[j]? = none) ∨ ∃ x u, xs[j]? = some x ∧ us[j]? = some u ∧ RelV x u
  | _, _, j, .nil => .inl ⟨rfl, rfl⟩
  | _, _, 0, .cons r _ => .inr ⟨_, _, rfl, rfl, r⟩
  | _, _, j + 1, .cons _ t => Vals.at2 j t
theorem Vals.pick {xs : List V} {us : List Value} (r : Vals xs us) : ∀ (ix : List Nat), Vals (ix.filterMap fun j => xs[j]?) (ix.filterMap fun j => us[j]?)
  | [] => .nil
  | j :: ix => by
    rcases Vals.at2 j r with ⟨h1, h2⟩ | ⟨x, u, h1, h2, h3⟩
    · rw [List.filterMap_cons, List.filterMap_cons, h1, h2]
      exact Vals.pick r ix
    · rw [List.filterMap_cons, List.filterMap_cons, h1, h2]
      exact .cons h3 (Vals.pick r ix)
section
variable {K : PySem.W.Frag} {E : XE} {X : Cx} {e : Expr} {te : TE} {lo hi : Option Expr} {es : Expr} {tl th ts : TO} {p2 pos : Pos}
theorem DqAll.at2 {G : Hp} : ∀ {xs : List V} {ds : List PyData} (j : Nat), DqAll K G xs ds → (xs[j]? = none ∧ ds[j]? = none) ∨ ∃ x d, xs[j]? = some x ∧ ds[j]? = some d ∧ Dq K G x d
  | _, _, j, .nil => .inl ⟨rfl, rfl⟩
  | _, _, 0, .cons r _ => .inr ⟨_, _, rfl, rfl, r⟩
  | _, _, j + 1, .cons _ t => DqAll.at2 j t
theorem DqAll.pick {G : Hp} {xs : List V} {ds : List PyData} (r : DqAll K G xs ds) : ∀ (ix : List Nat), DqAll K G (ix.filterMap fun j => xs[j]?) (ix.filterMap fun j => ds[j]?)
  | [] => .nil
  | j :: ix => by
    rcases DqAll.at2 j r with ⟨h1, h2⟩ | ⟨x, u, h1, h2, h3⟩
    · rw [List.filterMap_cons, List.filterMap_cons, h1, h2]
      exact DqAll.pick r ix
    · rw [List.filterMap_cons, List.filterMap_cons, h1, h2]
      exact .cons h3 (DqAll.pick r ix)
def tSl3 (K : PySem.W.Frag) (te : TE) (tl th ts : TO) : TE := fun σ H Q => te σ H fun x H1 => tl σ H1 fun l H2 => th σ H2 fun u H3 => ts σ H3 fun o H4 => ∃ a xs, x = .ref a ∧ SqL K H4 a xs ∧ o ≠ some 0 ∧ ∀ p, H4 p = none → Q (.ref p) (upd H4 p (.lst (pickD xs l u o)))
theorem pe_sl3 (he : PE X e te) (hl : PO X lo tl) (hu : PO X hi th) (hs : PO X (some es) ts) : PE X (.Subscript e (.Slice lo hi (some es) p2) pos) (tSl3 X.K te tl th ts) := by
  refine ⟨fun pins s σ H Q I h => ?_⟩
  refine Subscript_ (thn (he.run pins s σ H _ I h) fun v s1 ⟨x, H1, I1, r1, q1⟩ => ?_)
  refine wpAny_Slice (thn (hl.run pins s1 σ H1 _ I1 q1) fun vl s2 ⟨l, H2, I2, pl, q2⟩ => thn (hu.run pins s2 σ H2 _ I2 q2) fun vu s3 ⟨u, H3, I3, pu, q3⟩ => ?_)
  refine thn (hs.run pins s3 σ H3 _ I3 q3) fun vs s4 ⟨o, H4, I4, ps, a, xs, ex, hx, h0, q⟩ => ?_
  subst ex
  cases r1
  have I5 : Inv X pins σ H4 { s4 with heap := s4.heap.push { cls := .type "slice", data := .fields #[vl, vu, vs] } } := I4.kept (t' := s4.toks) fun b ob q => Heap.get?_push_of_some _ q
  obtain ⟨its, r, ht, hz⟩ := I5.list hx
  have hlen := r.length
  show wpAny (model X.prog X.w) X.A (subscriptTail e (.Slice lo hi (some es) p2) (.ref a) (.ref s4.heap.objs.size)) (EP X pins σ Q) X.xe { s4 with heap := s4.heap.push { cls := .type "slice", data := .fields #[vl, vu, vs] } }
  refine tail_any (ops := [.ref a, .ref s4.heap.objs.size]) ht.isList.typeIs (PySem.slot_list_getitem.lookup) ?_ (by with_unfolding_all rfl)
  refine wpAny_getItem_list_slice ht.isList (Heap.IsSliceOf.new _ vl vu vs) pl pu ps h0 ?_ (by rw [List.size_toArray]; omega)
  have ep : slicePick its.toArray l u o = (pickD its l u o).toArray := by
    unfold slicePick pickD pickL
    rw [List.size_toArray]
    simp only [List.getElem?_toArray]
  have rp : Vals (pickD xs l u o) (pickD its l u o) := by
    unfold pickD
    rw [hlen]
    exact DL.Vals.pick r _
  have lz : (pickD xs l u o).length ≤ sizeLine := by
    rw [rp.length]
    have := slicePick_size_le its.toArray l u o
    rw [ep, List.size_toArray, List.size_toArray] at this
    omega
  rw [ep]
  refine ⟨.ref _, _, I5.laid (t' := s4.toks) (o := .lst (pickD xs l u o)) (fun b ob q => Heap.get?_push_of_some _ q) (Nat.le_refl _) ?_, rfl, q _ (I5.hok.fresh (Nat.le_refl _))⟩
  exact ⟨lz, _, 0, rp, Heap.get?_push_size _ rfl⟩
def mSl3 (m : M PyData) (ml mh ms : M (Option Int)) : M (List PyData) := m.bind fun d => ml.bind fun l => mh.bind fun h => ms.bind fun o => M.lift ((asList d).bind fun ds => if o = some 0 then none else some (pickD ds l h o))
theorem df_sl3 {ma : M PyData} {ml mh ms : M (Option Int)} (ha : DE K E X e ma) (hl : DO K E X lo ml) (hh : DO K E X hi mh) (hs : DO K E X (some es) ms) : DF K E X (.Subscript e (.Slice lo hi (some es) p2) pos) (mSl3 ma ml mh ms) := ⟨fun hK => by
  subst hK
  refine PE.imp (pe_sl3 (ha.pe rfl) (hl.po rfl) (hh.po rfl) (hs.po rfl)) fun σ H Q ⟨F, O, G, r, out, P, em, f⟩ => ?_
  refine tM.run P f em fun d r1 x G1 H1 P1 g1 q1 e1 f1 => ?_
  refine tM.run P1 f1 e1 fun l r2 l' G2 H2 P2 g2 q2 e2 f2 => ?_
  refine tM.run P2 f2 e2 fun h r3 h' G3 H3 P3 g3 q3 e3 f3 => ?_
  refine tM.run P3 f3 e3 fun o r4 o' G4 H4 P4 g4 q4 e4 f4 => ?_
  cases q2
  cases q3
  cases q4
  obtain ⟨z, hz, rfl⟩ := lift_ok e4
  obtain ⟨ds, hd, hz⟩ := Option.bind_eq_some_iff.mp hz
  split at hz
  · cases hz
  · rename_i h0
    cases hz
    cases asList_some hd
    have q1' := ((q1.sm g2.gg).sm g3.gg).sm g4.gg
    cases q1' with
    | @lst _ ys _ hs hx =>
      have hp : DqAll X.K G4 (pickD ys l h o) (pickD ds l h o) := by
        unfold pickD
        rw [hx.length]
        exact hx.pick _
      refine ⟨_, _, rfl, P4.sub.seq hs, h0, fun p n => ?_⟩
      exact f4.ok (Ps.of_same P4.sub (same_new n)) P4 ⟨p, _, rfl, n, P4.sub.free n, P4.nf _ n, fun i z => (P4.on i p z).2.2.1 n, upd_same, hp⟩⟩
end
end DL
/-! D21: min(numbers, default=None) -/
namespace DL
open PySem PySem.Spec PyProof.Rows L2 Lk
def asInts : List PyData → Option (List Int)
  | [] => some []
  | .int i :: r => (asInts r).map (i :: ·)
  | _ => none
theorem asInts_some : ∀ {ds : List PyData} {ns : List Int}, asInts ds = some ns → ds = ns.map PyData.int
  | [], ns, h => by cases h; rfl
  | d :: ds, ns, h => by
    cases d with
    | int i =>
      rw [asInts] at h
      obtain ⟨r, h1, rfl⟩ := Option.map_eq_some_iff.mp h
      rw [asInts_some h1]
      rfl
    | _ => cases h
theorem asInts_map : ∀ (ns : List Int), asInts (ns.map PyData.int) = some ns
  | [] => rfl
  | n :: ns => by rw [List.map_cons, asInts, asInts_map ns]; rfl
def minDef : PyData → Option PyData
  | .list ds => (asInts ds).map fun ns => match ns with
    | [] => .none
    | k :: ks => .int (ks.foldl min k)
  | _ => none
theorem depth_ints : ∀ ns : List Int, PyData.depthAll (ns.map PyData.int) = 0
  | [] => by simp [PyData.depthAll]
  | n :: ns => by
    rw [List.map_cons, PyData.depthAll, PyData.depth, depth_ints ns]
    rfl
section
variable {K : PySem.W.Frag} {E : XE} {X : Cx} {e : Expr} {ma : M PyData} {pos : Pos}
theorem cr_minDef {k : Nat} (hc : X.calm = true) (hr : Room k X.A) : CallRK X (.builtin "min") [Str.ofString "default"] (fun vs zs H Q => ∃ (a : Addr) (ns : List Int), vs = [V.ref a] ∧ zs = [.non] ∧ SqL X.K H a (ns.map V.int) ∧ (ns = [] → Q .non H) ∧ ∀ k ks, ns = k :: ks → Q (.int (ks.foldl min k)) H) := by
  intro pins s σ H vs zs us ws Q I r rz h
  obtain ⟨a, ns, rfl, rfl, hs, q0, q1⟩ := h
  obtain rfl := Vals.ref1 r
  obtain ⟨w1, rfl, e1⟩ := vals1 rz
  obtain rfl : w1 = Value.none := e1
  obtain ⟨its, rv, hl, hz⟩ := I.list hs
  have da : DpAll X.K H (ns.map V.int) (ns.map PyData.int) := (DqAll.ints (K := X.K) (H := H) ns).dp
  obtain ⟨as, h4⟩ := Dp.readsAll I _ _ its da rv
  have hu : X.A.units + 1 + PyData.depthAll (ns.map PyData.int) < cLine := by
    rw [depth_ints]
    have := hr.un
    omega
  refine PySem.W.min_list_default (vs := its.toArray) (xs := ns.map PyData.int) (as := as) (I.ok.hd hc) hl.isList (show ReadsAll s.heap its.toArray.toList _ as from h4) ⟨fun x hx y hy => ?_, fun x hx => ?_⟩ hu (fun h0 h' tk kp => ?_) fun y ys i v h' tk bs hy hv rd kp => ?_
  · obtain ⟨i, _, rfl⟩ := List.mem_map.mp hx
    obtain ⟨j, _, rfl⟩ := List.mem_map.mp hy
    rfl
  · obtain ⟨i, _, rfl⟩ := List.mem_map.mp hx
    exact fun z => nomatch z
  · have : ns = [] := by simpa using h0
    exact ⟨.non, H, I.kept (t' := tk) kp, rfl, q0 this⟩
  · cases ns with
    | nil => cases hy
    | cons k ks =>
      rw [List.map_cons] at hy
      obtain ⟨rfl, rfl⟩ := List.cons.inj hy
      rw [PySem.W.minD_ints] at rd
      cases rd
      exact ⟨.int _, H, I.kept (t' := tk) kp, ⟨_, rfl⟩, q1 k ks rfl⟩
def mMinDef (m : M PyData) : M PyData := m.bind fun d => M.lift (minDef d)
theorem de_minDef {p p1 p2 : Pos} {j} {k : Nat} (hr : Room k X.A) (hc : X.calm = true) (hg : Gl X "min") (hm : X.mg "min" = none) (ha : DE K E X e ma)
    (he : backTo pos (starEach [e] X.env) = (false, eval e X.env) :: backTo pos (starEach [] X.env) := by rfl) (he2 : starEach [e] X.env = (false, eval e X.env) :: starEach [] X.env := by rfl) (hpl : (backTo pos (starEach [e] X.env)).any (·.1) = false := by rfl)
    (hall : (backToKw pos (keywordEach [⟨some "default", .Constant .none j p1, p2⟩] X.env)).all (·.1.isSome) = true := by rfl) (hnone : (backToKw pos (keywordEach [⟨some "default", .Constant .none j p1, p2⟩] X.env)).any (·.1.isNone) = false := by rfl)
    (hks : (backToKw pos (keywordEach [⟨some "default", .Constant .none j p1, p2⟩] X.env)).filterMap (·.1) = [Str.ofString "default"] := by rfl) :
    DE K E X (.Call (.Name "min" p) [e] [⟨some "default", .Constant .none j p1, p2⟩] pos) (mMinDef ma) := ⟨fun hK => by
  subst hK
  refine PE.imp (pe_callBK (cr_minDef hc hr) hg hm (by decide +kernel) (pa_cons (ha.pe rfl) pa_nil he2) (pk_cons pe_non pk_nil) (by decide) (by decide) he hpl hall hnone hks) fun σ H Q ⟨F, O, G, r, out, P, em, f⟩ => ?_
  refine tM.run P f em fun d r1 x G1 H1 P1 g1 q1 e1 f1 => ?_
  obtain ⟨z, hz, rfl⟩ := lift_ok e1
  cases d with
  | list ds =>
    unfold minDef at hz
    obtain ⟨ns, h1, h2⟩ := Option.map_eq_some_iff.mp hz
    have := asInts_some h1
    subst this
    cases q1 with
    | lst hs hd =>
      have := hd.of_ints
      subst this
      refine ⟨_, ns, rfl, rfl, P1.sub.seq hs, fun h0 => ?_, fun k ks h0 => ?_⟩
      · subst h0
        cases h2
        exact f1.ok (Ps.refl P1.sub) P1 .non
      · subst h0
        cases h2
        exact f1.ok (Ps.refl P1.sub) P1 (.int _)
  | _ => cases hz⟩
end
end DL
/-! D22: any and all of integers -/
namespace DL
open PySem PySem.Spec PyProof.Rows L2 Lk
def anyI : List PyData → Option PyData
  | [.list ds] => (asInts ds).map fun ns => .bool (ns.any fun i => i != 0)
  | _ => none
def allI : List PyData → Option PyData
  | [.list ds] => (asInts ds).map fun ns => .bool (ns.all fun i => i != 0)
  | _ => none
theorem plain_ints : ∀ ns : List Int, PyData.plainAll (ns.map PyData.int) = true
  | [] => by simp [PyData.plainAll]
  | n :: ns => by
    rw [List.map_cons, PyData.plainAll, plain_ints ns, PyData.plain]
    rfl
section
variable {K : PySem.W.Frag} {X : Cx}
theorem cr_anyI (hc : X.calm = true) : CallR X (.builtin "any") (fun vs H Q => ∃ (a : Addr) (ns : List Int), vs = [V.ref a] ∧ SqL X.K H a (ns.map V.int) ∧ Q (.bl (ns.any fun i => i != 0)) H) := by
  intro pins s σ H vs us Q I r h
  obtain ⟨a, ns, rfl, hs, q⟩ := h
  obtain rfl := Vals.ref1 r
  obtain ⟨its, rv, hl, hz⟩ := I.list hs
  have da : DpAll X.K H (ns.map V.int) (ns.map PyData.int) := (DqAll.ints (K := X.K) (H := H) ns).dp
  obtain ⟨as, h4⟩ := Dp.readsAll I _ _ its da rv
  refine PySem.W.any_list_data (vs := its.toArray) (xs := ns.map PyData.int) (as := as) (I.ok.hd hc) hl.isList (show ReadsAll s.heap its.toArray.toList _ as from h4) (plain_ints ns) (fun x hx => ?_) ?_
  · obtain ⟨i, _, rfl⟩ := List.mem_map.mp hx
    trivial
  · intro h' tk kp
    refine ⟨.bl _, H, I.kept (t' := tk) kp, ?_, q⟩
    show Value.bool _ = Value.bool _
    rw [List.any_map]
    rfl
theorem cr_allI (hc : X.calm = true) : CallR X (.builtin "all") (fun vs H Q => ∃ (a : Addr) (ns : List Int), vs = [V.ref a] ∧ SqL X.K H a (ns.map V.int) ∧ Q (.bl (ns.all fun i => i != 0)) H) := by
  intro pins s σ H vs us Q I r h
  obtain ⟨a, ns, rfl, hs, q⟩ := h
  obtain rfl := Vals.ref1 r
  obtain ⟨its, rv, hl, hz⟩ := I.list hs
  have da : DpAll X.K H (ns.map V.int) (ns.map PyData.int) := (DqAll.ints (K := X.K) (H := H) ns).dp
  obtain ⟨as, h4⟩ := Dp.readsAll I _ _ its da rv
  refine PySem.W.all_list_data (vs := its.toArray) (xs := ns.map PyData.int) (as := as) (I.ok.hd hc) hl.isList (show ReadsAll s.heap its.toArray.toList _ as from h4) (plain_ints ns) (fun x hx => ?_) ?_
  · obtain ⟨i, _, rfl⟩ := List.mem_map.mp hx
    trivial
  · intro h' tk kp
    refine ⟨.bl _, H, I.kept (t' := tk) kp, ?_, q⟩
    show Value.bool _ = Value.bool _
    rw [List.all_map]
    rfl
theorem cd_anyI (hc : X.calm = true) : CallD K X (.builtin "any") anyI := fun hK => by
  subst hK
  intro pins s σ H xs us Q I r h
  obtain ⟨G, ds, z, sg, hd, hz, q⟩ := h
  unfold anyI at hz
  split at hz
  · obtain ⟨ns, h1, rfl⟩ := Option.map_eq_some_iff.mp hz
    have := asInts_some h1
    subst this
    obtain ⟨v, rfl, hv⟩ := one_of hd
    cases hv with
    | lst hs ha =>
      have := ha.of_ints
      subst this
      exact cr_anyI hc pins s σ H _ us Q I r ⟨_, ns, rfl, sg.seq hs, q _ G H (Ps.refl sg) (.bl _)⟩
  · cases hz
theorem cd_allI (hc : X.calm = true) : CallD K X (.builtin "all") allI := fun hK => by
  subst hK
  intro pins s σ H xs us Q I r h
  obtain ⟨G, ds, z, sg, hd, hz, q⟩ := h
  unfold allI at hz
  split at hz
  · obtain ⟨ns, h1, rfl⟩ := Option.map_eq_some_iff.mp hz
    have := asInts_some h1
    subst this
    obtain ⟨v, rfl, hv⟩ := one_of hd
    cases hv with
    | lst hs ha =>
      have := ha.of_ints
      subst this
      exact cr_allI hc pins s σ H _ us Q I r ⟨_, ns, rfl, sg.seq hs, q _ G H (Ps.refl sg) (.bl _)⟩
  · cases hz
end
end DL
/-! D23: sorted(set(numbers)), a list of any length, fewer than 4000 distinct numbers -/
namespace DL
open PySem PySem.Spec PyProof.Rows L2 Lk
/-! ### numbers in order, each once -/
def insU (k : Int) : List Int → List Int
  | [] => [k]
  | x :: xs => if k < x then k :: x :: xs else if k = x then x :: xs else x :: insU k xs
def sortU (l : List Int) : List Int := l.foldl (fun a k => insU k a) []
theorem mem_insU {k j : Int} : ∀ {l : List Int}, j ∈ insU k l ↔ j = k ∨ j ∈ l
  | [] => by simp [insU]
  | x :: xs => by
    rw [insU]
    split
    · simp
    · split
      · rename_i h
        subst h
        simp
      · rw [List.mem_cons, mem_insU, List.mem_cons]
        constructor
        · rintro (h | h | h)
          · exact .inr (.inl h)
          · exact .inl h
          · exact .inr (.inr h)
        · rintro (h | h | h)
          · exact .inr (.inl h)
          · exact .inl h
          · exact .inr (.inr h)
theorem insU_up {k : Int} : ∀ {l : List Int}, l.Pairwise (· < ·) → (insU k l).Pairwise (· < ·)
  | [], _ => by simp [insU]
  | x :: xs, h => by
    have h' := List.pairwise_cons.mp h
    rw [insU]
    split
    · rename_i hk
      exact List.pairwise_cons.mpr ⟨fun y hy => by
        rcases List.mem_cons.mp hy with e | hy
        · rw [e]; exact hk
        · have := h'.1 y hy; omega, h⟩
    · split
      · exact h
      · rename_i h1 h2
        refine List.pairwise_cons.mpr ⟨fun y hy => ?_, insU_up h'.2⟩
        rcases mem_insU.mp hy with e | hy
        · omega
        · exact h'.1 y hy
theorem insU_len {k : Int} : ∀ {l : List Int}, l.Pairwise (· < ·) → (insU k l).length = if k ∈ l then l.length else l.length + 1
  | [], _ => by simp [insU]
  | x :: xs, h => by
    have h' := List.pairwise_cons.mp h
    rw [insU]
    split
    · rename_i hk
      have : k ∉ x :: xs := fun hm => by
        rcases List.mem_cons.mp hm with e | hm
        · omega
        · have := h'.1 k hm; omega
      rw [if_neg this]; rfl
    · split
      · rename_i h1 h2
        rw [if_pos (by rw [h2]; exact List.mem_cons_self)]
      · rename_i h1 h2
        rw [List.length_cons, insU_len h'.2]
        by_cases hm : k ∈ xs
        · rw [if_pos hm, if_pos (List.mem_cons_of_mem _ hm), List.length_cons]
        · rw [if_neg hm, if_neg (fun z => by
            rcases List.mem_cons.mp z with e | z
            · exact h2 e
            · exact hm z), List.length_cons]
theorem sortU_snoc (l : List Int) (k : Int) : sortU (l ++ [k]) = insU k (sortU l) := by
  unfold sortU
  rw [List.foldl_append]
  rfl
theorem foldU : ∀ (l a : List Int), a.Pairwise (· < ·) → (l.foldl (fun a k => insU k a) a).Pairwise (· < ·) ∧ ∀ j, j ∈ l.foldl (fun a k => insU k a) a ↔ j ∈ a ∨ j ∈ l
  | [], a, h => ⟨h, fun j => by simp⟩
  | k :: l, a, h => by
    obtain ⟨h1, h2⟩ := foldU l (insU k a) (insU_up h)
    refine ⟨h1, fun j => ?_⟩
    rw [List.foldl_cons, h2, mem_insU, List.mem_cons]
    constructor
    · rintro ((h | h) | h)
      · exact .inr (.inl h)
      · exact .inl h
      · exact .inr (.inr h)
    · rintro (h | h | h)
      · exact .inl (.inr h)
      · exact .inl (.inl h)
      · exact .inr h
theorem sortU_up (l : List Int) : (sortU l).Pairwise (· < ·) := (foldU l [] List.Pairwise.nil).1
theorem mem_sortU {l : List Int} {j : Int} : j ∈ sortU l ↔ j ∈ l := by
  rw [show sortU l = l.foldl (fun a k => insU k a) [] from rfl, (foldU l [] List.Pairwise.nil).2 j]
  simp
theorem len_mono (l : List Int) (i : Nat) (hi : i ≤ l.length) : (sortU (l.take i)).length ≤ (sortU l).length := by
  have : ∀ d, ∀ i, l.length - i = d → i ≤ l.length → (sortU (l.take i)).length ≤ (sortU l).length := by
    intro d
    induction d with
    | zero =>
      intro i h1 h2
      have : i = l.length := by omega
      rw [this, List.take_length]
      exact Nat.le_refl _
    | succ d ih =>
      intro i h1 h2
      have hlt : i < l.length := by omega
      have := ih (i + 1) (by omega) hlt
      rw [List.take_succ, List.getElem?_eq_getElem hlt, Option.toList_some, sortU_snoc, insU_len (sortU_up _)] at this
      split at this
      · exact this
      · omega
  exact this _ i rfl hi
theorem up_unique : ∀ {l m : List Int}, l.Pairwise (· < ·) → m.Pairwise (· < ·) → (∀ j, j ∈ l ↔ j ∈ m) → l = m
  | [], [], _, _, _ => rfl
  | [], x :: _, _, _, h => absurd ((h x).mpr List.mem_cons_self) (by simp)
  | x :: _, [], _, _, h => absurd ((h x).mp List.mem_cons_self) (by simp)
  | x :: l, y :: m, h1, h2, h => by
    have h1' := List.pairwise_cons.mp h1
    have h2' := List.pairwise_cons.mp h2
    have e : x = y := by
      rcases List.mem_cons.mp ((h x).mp List.mem_cons_self) with e | e
      · exact e
      · rcases List.mem_cons.mp ((h y).mpr List.mem_cons_self) with e' | e'
        · exact e'.symm
        · have := h1'.1 y e'
          have := h2'.1 x e
          omega
    subst e
    rw [up_unique h1'.2 h2'.2 fun j => ⟨fun hj => by
      rcases List.mem_cons.mp ((h j).mp (List.mem_cons_of_mem _ hj)) with e | e
      · have := h1'.1 j hj; omega
      · exact e, fun hj => by
      rcases List.mem_cons.mp ((h j).mpr (List.mem_cons_of_mem _ hj)) with e | e
      · have := h2'.1 j hj; omega
      · exact e⟩]
/-! ### set(xs) keeps its order walkable -/
section
variable {prog : Program} {w : World} {A : Around} {E : Value → Shared → Prop} {s : Shared}
theorem fill_set {R : Result → Shared → Prop} {I : Addr} {fp wr : List Addr} {G : Array GenState → Array GenState → Prop} {P : Nat → Value → Prop} {St : Nat → Shared → Prop} {ns : List Int} (W : WalksS prog w A.in1 I fp wr G ns.length P St) (S : Addr) (hSf : S ∉ fp)
    (hval : ∀ i v, P i v → ∃ k t, ns[i]? = some k ∧ v = .int k t) (hb : (sortU ns).length + 1 < scanBound) :
    ∀ (k i : Nat) (s : Shared), ns.length - i = k → i ≤ ns.length → St i s → SetR w s.heap S (fun j => decide (j ∈ ns.take i)) (sortU (ns.take i)).length →
      (∀ s', Moved (S :: wr) G s s' → SetR w s'.heap S (fun j => decide (j ∈ ns)) (sortU ns).length → R (.ok (.ret .none)) s') →
      codeAny (model prog w) A (.builtin "set.update.loop" ⟨[.ref S, .ref I], []⟩) R s := by
  have off : S ∉ wr := fun h => hSf (W.sub _ h)
  have inc : ∀ b ∈ wr, b ∈ S :: wr := fun b hb => List.mem_cons_of_mem _ hb
  intro k
  induction k with
  | zero =>
    intro i s hk hi hst hS hR
    obtain rfl : i = ns.length := by omega
    rw [List.take_length] at hS
    refine codeAny_builtin F.entry_set_update_loop ?_
    rw [Around.under_plainId F.plain_set_update_loop _]
    show wpAny _ A.in1 (pyNext (.ref I) >>= _) _ _ s
    refine wpAny_bind (W.done s _ _ hst fun s' hm => ?_)
    show wpAny _ A.in1 (ret Value.none) _ _ s'
    exact wpAny_pure (hR s' (hm.mono inc) (hS.at fun o ho => hm.heap S _ off ho))
  | succ k ih =>
    intro i s hk hi hst hS hR
    have hlt : i < ns.length := by omega
    refine codeAny_builtin F.entry_set_update_loop ?_
    rw [Around.under_plainId F.plain_set_update_loop _]
    show wpAny _ A.in1 (pyNext (.ref I) >>= _) _ _ s
    refine wpAny_bind (W.item i s _ _ hlt hst fun v s' hP hst' hm => ?_)
    obtain ⟨m, t, hm1, rfl⟩ := hval i v hP
    have hS' := hS.at (h' := s'.heap) fun o ho => hm.heap S _ off ho
    show wpAny _ A.in1 (holding [Value.int m t] (setAdd S (.int m t)) >>= _) _ _ s'
    refine wpAny_bind (wpAny_holding ?_)
    unfold setAdd
    refine wpAny_holding ?_
    refine wpAny_bind ((intKind prog w).pyHash (intKind_is prog w m t) ?_)
    have tk : ns.take (i + 1) = ns.take i ++ [m] := by rw [List.take_succ, hm1]; rfl
    have room : (sortU (ns.take i)).length + 1 < scanBound := by
      have := len_mono ns i hi
      omega
    refine setR_add_hashed (s := { s' with toks := s'.toks + 1 }) hS' room fun h' sb r => ?_
    have r' : SetR w h' S (fun j => decide (j ∈ ns.take (i + 1))) (sortU (ns.take (i + 1))).length := by
      have e : (sortU (ns.take (i + 1))).length = if decide (m ∈ ns.take i) = true then (sortU (ns.take i)).length else (sortU (ns.take i)).length + 1 := by
        rw [tk, sortU_snoc, insU_len (sortU_up _)]
        simp only [mem_sortU, decide_eq_true_eq]
      rw [e]
      refine r.congr fun j => ?_
      rw [tk]
      simp only [List.mem_append, List.mem_singleton]
      by_cases h1 : j ∈ ns.take i <;> by_cases h2 : j = m <;> simp [h1, h2]
    refine wpAny_pure ⟨plainId_quiet F.plain_set_update_loop _, ih (i + 1) _ (by omega) hlt (W.frame _ s' _ _ hst' (Nat.le_succ _) fun b hb o e => ?_) r' fun s'' hm'' hS'' => ?_⟩
    · rw [sb.2 b (fun h : b = S => hSf (by rw [← h]; exact hb))]; exact e
    · refine hR s'' (Moved.trans W.gtrans ((hm.mono inc).then_heap (Nat.le_succ _) fun b o hb e => ?_) hm'') hS''
      rw [sb.2 b (fun h : b = S => hb (by rw [h]; exact List.mem_cons_self))]; exact e

theorem code_set_one (a : Value) {Q : Value → Shared → Prop}
    (h : Q (.ref s.heap.objs.size) { s with heap := s.heap.push { cls := .type "set", dict := none, data := .set #[] 0 (.fresh 0 0 (!w.params.followText "set-order")) } }) :
    codeAny (model prog w) A (.call (.builtin "set.__new__") ⟨[.type "set", a], []⟩) (wants Q E) s := by
  refine codeAny_of_tree ?_
  show wpAny _ A.in1 (do checkBuiltinCall "set.__new__" ⟨[.type "set", a], []⟩; again (.builtin "set.__new__" ⟨[.type "set", a], []⟩)) _ _ s
  refine wpAny_bind (wpAny_of_eq (F.newCall_set_1 a) (wpAny_pure ⟨plainId_quiet F.plain_set_new _, codeAny_builtin F.entry_set_new ?_⟩))
  rw [Around.under_plainId F.plain_set_new _]
  unfold Builtin.«set.__new__» Builtin.Frozenset.newClass
  have sb := sub_set_self
  obtain ⟨hp, g, d, tk, os⟩ := s
  dsimp only
  wp_walk
  refine wpAny_askSetting (wpAny_pure ?_)
  dsimp only
  simp only [newObj]
  refine wpAny_bind (wpAny_alloc (wpAny_pure ?_))
  exact wpAny_pure h
set_option maxHeartbeats 3200000 in
theorem set_of {l : Addr} {items : Array Value} {ns : List Int} {Q : Value → Shared → Prop} (hh : A.handled = none) (hl : s.heap.IsList l items) (hi : IntsAre items.toList ns) (hb : (sortU ns).length + 1 < scanBound)
    (h : ∀ (h' : Heap) (tk : Nat), SetR w h' s.heap.objs.size (fun j => decide (j ∈ ns)) (sortU ns).length → (∀ b o, b < s.heap.objs.size → s.heap.get? b = some o → h'.get? b = some o) → Q (.ref s.heap.objs.size) { s with heap := h', toks := tk }) :
    wpAny (model prog w) A (call (.type "set") [.ref l]) Q E s := by
  obtain ⟨c, tl, hmro⟩ := F.called_set.mro
  have hmade := F.called_set.made
  have hsub := F.called_set.sub
  refine wpAny_call (codeAny_of_tree ?_)
  show wpAny _ _ (callAny (.type "set") _) _ _ _
  refine wpAny_pure ⟨Code.quiet_builtin _ (by decide +kernel), codeAny_builtin F.entry_type_call ?_⟩
  rw [Around.under_plain (weight_type_call_type "set" [.ref l] []) rfl]
  have h1 := F.called_set.notType
  have h2 := F.called_set.canCreate
  have hct := F.typeCall_set_1 (.ref l)
  repeat (any_goals (first | assumption | wp_step))
  generalize eO : (!w.params.followText "set-order") = led
  refine codeAny_mono (code_set_one (.ref l) (E := E) (Q := fun obj s₁ => obj = .ref s.heap.objs.size ∧ s₁ = { s with heap := s.heap.push ({ cls := .type "set", dict := none, data := .set #[] 0 (.fresh 0 0 led) } : Obj) }) (by rw [eO]; exact ⟨rfl, rfl⟩)) fun r s₁ hr => ?_
  have R0 : SetR w (s.heap.push ({ cls := .type "set", dict := none, data := .set #[] 0 (.fresh 0 0 led) } : Obj)) s.heap.objs.size (fun _ => false) 0 := by rw [← eO]; exact setR_fresh w
  cases r with
  | error e => exact hr
  | ok fl =>
    cases fl with
    | ret obj =>
      obtain ⟨rfl, rfl⟩ := hr
      have hS : (s.heap.push ({ cls := .type "set", dict := none, data := .set #[] 0 (.fresh 0 0 led) } : Obj)).get? s.heap.objs.size = some ({ cls := .type "set", dict := none, data := .set #[] 0 (.fresh 0 0 led) } : Obj) := Heap.get?_push_size _ rfl
      have hT : Shared.TypeIs { s with heap := s.heap.push ({ cls := .type "set", dict := none, data := .set #[] 0 (.fresh 0 0 led) } : Obj) } (.ref s.heap.objs.size) "set" := ⟨_, hS, rfl⟩
      have hli := F.called_set.init.lookup
      have hbi := F.called_set.init.bind (.ref s.heap.objs.size)
      repeat (any_goals (first | assumption | wp_step))
      refine codeAny_mono (codeAny_call_builtin (R := wants (fun r s₂ => r = .none ∧ ∃ h' tk, s₂ = { s with heap := h', toks := tk } ∧ SetR w h' s.heap.objs.size (fun j => decide (j ∈ ns)) (sortU ns).length ∧
          (∀ b o, b < s.heap.objs.size → s.heap.get? b = some o → h'.get? b = some o)) E) F.called_set.init.plain F.entry_set_init (check_set_init_1 hT ?_)) fun r₂ s₂ hr₂ => ?_
      · obtain ⟨ol, hol, hcl, nl, hdl⟩ := hl
        obtain ⟨ocls, odict, odata, oslots⟩ := ol
        simp only at hcl hdl
        subst hcl; subst hdl
        have hol' : (s.heap.push ({ cls := .type "set", dict := none, data := .set #[] 0 (.fresh 0 0 led) } : Obj)).get? l = some { cls := .type "list", dict := odict, data := .seq items nl, slots := oslots } := Heap.get?_push_of_some _ hol
        have hsls := F.sub_list_set
        have hslf := F.sub_list_frozenset
        have hne : (Value.type "list" == Value.type "dict") = false := by decide
        have hl1 : (s.heap.push ({ cls := .type "set", dict := none, data := .set #[] 0 (.fresh 0 0 led) } : Obj)).IsList l items := ⟨_, hol', rfl, nl, rfl⟩
        unfold Builtin.«set.__init__» noKeywords Builtin.Frozenset.updateFrom
        generalize hPI : pyIter = PI
        wp_walk
        subst hPI
        refine wpAny_pyIter_list (s := { s with heap := s.heap.push ({ cls := .type "set", dict := none, data := .set #[] 0 (.fresh 0 0 led) } : Obj) }) hl1 ?_
        refine wpAny_bind (wpAny_runValue ?_)
        have lt : l < s.heap.objs.size := Heap.lt_size hol
        have hh3 : A.in1.in1.in1.handled = none := by simp [hh]
        have ne1 : l ≠ (s.heap.push ({ cls := .type "set", dict := none, data := .set #[] 0 (.fresh 0 0 led) } : Obj)).objs.size := by
          rw [Heap.size_push]; exact Nat.ne_of_lt (Nat.lt_succ_of_lt lt)
        have off : s.heap.objs.size ∉ [(s.heap.push ({ cls := .type "set", dict := none, data := .set #[] 0 (.fresh 0 0 led) } : Obj)).objs.size, l] := by
          rw [Heap.size_push]; simp only [List.mem_cons, List.mem_singleton, List.not_mem_nil, or_false, not_or]
          exact ⟨Nat.ne_of_lt (Nat.lt_succ_self _), Nat.ne_of_gt lt⟩
        have hn : items.size = ns.length := by
          have q := congrArg List.length (SrtO.iv_ints hi)
          rw [List.length_map] at q
          rw [← Array.length_toList]
          exact q
        have W := (Walks.list (prog := prog) (w := w) hh3 (s.heap.push ({ cls := .type "set", dict := none, data := .set #[] 0 (.fresh 0 0 led) } : Obj)).objs.size l ne1 items).toS
        rw [hn] at W
        refine fill_set W s.heap.objs.size off (fun i v hv => ?_) hb ns.length 0 _ (by omega) (Nat.zero_le _) ⟨⟨_, Heap.get?_push_size _ rfl, rfl, rfl⟩, (hl1.push _)⟩ ?hS0 ?hR
        · obtain ⟨t, e⟩ := IntsAre.int_at hi i v (by rw [Array.getElem?_toList]; exact hv)
          have hlt : i < ns.length := by
            rw [← hn]
            exact (Array.getElem?_eq_some_iff.mp hv).1
          exact ⟨ns[i], t, List.getElem?_eq_getElem hlt, by rw [e, List.getD_eq_getElem?_getD, List.getElem?_eq_getElem hlt]; rfl⟩
        case hS0 =>
          exact (R0.at fun o ho => Heap.get?_push_of_some _ ho).congr fun j => by simp
        case hR =>
          intro s' hm hS'
          obtain ⟨h', g', d', tk', os'⟩ := s'
          obtain rfl : g' = s.gens := hm.gens
          obtain rfl : d' = s.drawn := hm.drawn
          obtain rfl : os' = s.os := hm.os
          show wpAny _ _ _ _ _ _
          refine wpAny_pure ?_
          show wpAny _ _ (ret Value.none) _ _ _
          refine wpAny_pure ⟨rfl, h', tk', rfl, hS', fun b o hb e => ?_⟩
          have hb1 : b ≠ s.heap.objs.size := Nat.ne_of_lt hb
          have hb2 : b ≠ (s.heap.push ({ cls := .type "set", dict := none, data := .set #[] 0 (.fresh 0 0 led) } : Obj)).objs.size := by
            rw [Heap.size_push]; exact Nat.ne_of_lt (Nat.lt_succ_of_lt hb)
          exact hm.heap b o (by simp only [List.mem_cons, List.mem_singleton, List.not_mem_nil, or_false, not_or]; exact ⟨hb1, hb2⟩) (Heap.get?_push_of_some _ (Heap.get?_push_of_some _ e))
      · cases r₂ with
        | error e => exact hr₂
        | ok fl₂ =>
          cases fl₂ with
          | ret r =>
            obtain ⟨rfl, h', tk, rfl, hS', hk'⟩ := hr₂
            repeat (any_goals (first | assumption | wp_step))
            exact h _ _ hS' hk'
          | next => exact hr₂.elim
          | brk => exact hr₂.elim
          | cont => exact hr₂.elim
    | next => exact hr.elim
    | brk => exact hr.elim
    | cont => exact hr.elim
/-- sorted(found), a set of any size -/
theorem sorted_of {a : Addr} {S : Int → Bool} {n : Nat} {Q : Value → Shared → Prop} (R : SetR w s.heap a S n) (hh : A.handled = none) (hn : n < scanBound)
    (hQ : ∀ s' p (out : Array Value) (c : Nat) (ns : List Int), (∀ b o, s.heap.get? b = some o → s'.heap.get? b = some o) → s'.gens = s.gens → s'.os = s.os → s.heap.objs.size ≤ p →
      s'.heap.get? p = some (seqObj "list" out c) → IntsAre out.toList ns → ns.Pairwise (· < ·) → (∀ k, k ∈ ns ↔ S k = true) → ns.length = n → Q (.ref p) s') :
    wpAny (model prog w) A (call (.builtin "sorted") [.ref a]) Q E s := by
  obtain ⟨o, es, ep, t, ho, hex, hd, g, nd, hm, hb, hf, hn0, hr, hl⟩ := R
  refine Calls.call_function_entry kind_sorted plain_sorted entry_sorted (args_sorted1 _) ?_
  unfold Builtin.«sorted»
  refine wpAny_bind (m := checkCount "sorted" 1 1 _) (wpAny_pure ?_)
  refine wpAny_bind (collect_set (A := A.in1) hh ⟨o, ho, hex.1, hd⟩ hf hb hr hl fun s1 vs k1 hz g1 o1 pm => ?_)
  have len : vs.length = n := by rw [pm.length_eq, List.length_map, Array.length_toList]; exact hn0
  have big : vs.length ≤ sizeLine := by rw [len]; exact fits_of_scanBound hn
  have hI : IntsAre vs (vs.map SrtO.iv) := SrtO.ints_iv fun v hv => by
    obtain ⟨e, he, q⟩ := List.mem_map.mp (pm.mem_iff.mp hv)
    obtain ⟨k, tk, h1, _⟩ := g e he
    exact ⟨k, tk, by rw [← q]; exact h1⟩
  have keys : (vs.map SrtO.iv).Perm (es.toList.map keyOf) := by
    have q := pm.map SrtO.iv
    rw [List.map_map] at q
    have e : es.toList.map (SrtO.iv ∘ fun e : Int × Value => e.2) = es.toList.map keyOf := List.map_congr_left fun e he => by
      obtain ⟨k, tk, h1, _⟩ := g e he
      show SrtO.iv e.2 = keyOf e
      unfold keyOf
      rw [h1]
      rfl
    rw [← e]
    exact q
  refine wpAny_bind (wpAny_newList ?_ big)
  have hoL : (s1.heap.push (seqObj "list" vs.toArray 0)).get? s1.heap.objs.size = some (seqObj "list" vs.toArray 0) := Heap.get?_push_size _ rfl
  refine wpAny_bind (wpAny_holding (wpAny_call_entry slot_list_sort ⟨_, hoL, rfl⟩ entry_list_sort
    (SrtO.list_sort_ord SrtO.swo_int hoL big (fun h2 => SrtO.ints_sortable hI h2) fun out a1 a2 => ⟨_, rfl, ?_⟩) (args_list_sort _)))
  obtain ⟨b1, b2, b3⟩ := SrtO.ints_out hI a1 a2
  obtain ⟨c, hc⟩ := sortedHeap_at (vs := vs) (out := out.toArray) hoL
  have pn : (out.map SrtO.iv).Perm (es.toList.map keyOf) := b2.trans keys
  refine wpAny_pure ⟨_, rfl, hQ _ s1.heap.objs.size out.toArray c (out.map SrtO.iv) (fun b u e => ?_) g1 o1 hz hc b1 (lt_of_le_nodup _ b3 (pn.nodup_iff.mpr nd)) (fun k => by rw [pn.mem_iff, ← hm k]) ?_⟩
  · have q := k1 b u e
    have hlt := Heap.lt_size q
    show (sortedHeap (s1.heap.push (seqObj "list" vs.toArray 0)) s1.heap.objs.size vs out.toArray).get? b = some u
    rw [sortedHeap_old (Nat.ne_of_lt hlt) (by rw [size_push']; exact Nat.lt_succ_of_lt hlt)]
    exact Heap.get?_push_of_some _ q
  · rw [pn.length_eq, List.length_map, Array.length_toList]; exact hn0
end
/-! ### sorted(set(xs)) -/
def sortUM : PyData → Option (List PyData)
  | .list ds => (asInts ds).bind fun ns => if (sortU ns).length < 4000 then some ((sortU ns).map PyData.int) else none
  | _ => none
def mSortU (m : M PyData) : M (List PyData) := m.bind fun d => M.lift (sortUM d)
def tSortU (K : PySem.W.Frag) (ta : TE) : TE := fun σ H Q => ta σ H fun x H1 => ∃ (l : Addr) (ns : List Int), x = V.ref l ∧ SqL K H1 l (ns.map V.int) ∧ (sortU ns).length < 4000 ∧ ∀ p, H1 p = none → Q (.ref p) (upd H1 p (.lst ((sortU ns).map V.int)))
section
variable {K : PySem.W.Frag} {E : XE} {X : Cx} {a : Expr} {ma : M PyData} {ta : TE} {p p2 q pos : Pos}
theorem pe_sortU (hc : X.calm = true) (hg : Gl X "sorted") (hm : X.mg "sorted" = none) (hg2 : Gl X "set") (hm2 : X.mg "set" = none) (ha : PE X a ta)
    (na : starEach [a] X.env = (false, eval a X.env) :: starEach [] X.env := by rfl) : PE X (.Call (.Name "sorted" p) [.Call (.Name "set" p2) [a] [] q] [] pos) (tSortU X.K ta) := by
  refine ⟨fun pins s σ H Q I h => ?_⟩
  refine Call_ (ld_blt I hg hm PyProof.Rows.boot_sorted ?_)
  refine callWith_builtin1 (args_cons ?_ rfl) rfl rfl
  refine Call_ (ld_blt I hg2 hm2 PyProof.Rows.boot_set ?_)
  refine callWith_type1 (args_cons (thn (ha.run pins s σ H _ I h) fun v s1 ⟨x, H1, I1, r1, q1⟩ => args_nil ?_) na) na rfl
  obtain ⟨l, ns, rfl, hq, hn, q1⟩ := q1
  cases r1
  obtain ⟨its, r, pl, hz⟩ := I1.list hq
  refine set_of (I1.ok.hd hc) pl.isList (ns := ns) (by simpa using r.ints) (by unfold scanBound; omega) fun h' tk hS hk => args_nil ?_
  have I2 : Inv X pins σ H1 { s1 with heap := h', toks := tk } := I1.kept fun b o e => hk b o (Heap.lt_size e) e
  refine sorted_of hS (I1.ok.hd hc) (by unfold scanBound; omega) fun s' p out c us k g o hp hg' hi hs hmm hl => ?_
  have eu : us = sortU ns := up_unique hs (sortU_up ns) fun j => by
    rw [hmm j, mem_sortU]
    simp
  subst eu
  have big : ((sortU ns).map V.int).length ≤ sizeLine := by rw [List.length_map]; exact fits_of_scanBound (by unfold scanBound; omega)
  have hnone : H1 p = none := I2.hok.fresh hp
  have J : Inv X pins σ (upd H1 p (.lst ((sortU ns).map V.int))) { ({ s1 with heap := h', toks := tk } : Shared) with heap := s'.heap, gens := s'.gens, drawn := s'.drawn, toks := s'.toks } :=
    I2.call (ch := []) (Un.laid k hp hnone) (I2.hok.laid k hp ⟨big, out.toList, c, vals_of_ints hi, hg'⟩) (by rw [g]; exact I2.bare) (fun _ z => nomatch z)
  have e : s' = { s1 with heap := s'.heap, gens := s'.gens, drawn := s'.drawn, toks := s'.toks } := by
    cases s'
    cases s1
    cases o
    rfl
  rw [e]
  exact ⟨.ref p, _, J, rfl, q1 p hnone⟩
theorem df_sortU (hc : X.calm = true) (hg : Gl X "sorted") (hm : X.mg "sorted" = none) (hg2 : Gl X "set") (hm2 : X.mg "set" = none) (ha : DE K E X a ma)
    (na : starEach [a] X.env = (false, eval a X.env) :: starEach [] X.env := by rfl) : DF K E X (.Call (.Name "sorted" p) [.Call (.Name "set" p2) [a] [] q] [] pos) (mSortU ma) := ⟨fun hK => by
  subst hK
  refine PE.imp (pe_sortU hc hg hm hg2 hm2 (ha.pe rfl) na) fun σ H Q ⟨F, O, G, r, out, P, em, f⟩ => ?_
  refine tM.run P f em fun d r1 x G1 H1 P1 g1 q1 e1 f1 => ?_
  obtain ⟨z, hz, rfl⟩ := lift_ok e1
  cases d with
  | list ds =>
    unfold sortUM at hz
    obtain ⟨ns, h1, h2⟩ := Option.bind_eq_some_iff.mp hz
    have := asInts_some h1
    subst this
    split at h2
    · rename_i hlt
      cases h2
      cases q1 with
      | lst hs hd =>
        have := hd.of_ints
        subst this
        refine ⟨_, ns, rfl, P1.sub.seq hs, hlt, fun p hp => ?_⟩
        exact f1.ok (Ps.of_same P1.sub (same_new hp)) P1 ⟨p, _, rfl, hp, P1.sub.free hp, P1.nf _ hp, fun i z => (P1.on i p z).2.2.1 hp, upd_same, DqAll.ints _⟩
    · cases h2
  | _ => cases hz⟩
end
end DL
namespace DL
open PySem PySem.Spec PyProof.Rows L2 Lk
def c_JOINING_WORDS : PyData := .tuple [.str "and", .str "or", .str "odd"]
def c_LONE_COMMANDS : PyData := .tuple [.str "undo", .str "show", .str "answer", .str "reasons", .str "missing", .str "asks", .str "count"]
def c_OTHER_WORDS : PyData := .tuple [.str "yes", .str "no", .str "is", .str "tree", .str "rules", .str "card", .str "table", .str "not"]
def c_PLAIN_WORDS : PyData := .tuple [.str "say", .str "tree"]
def v_is_integer : SM := (sRet (mAndV (mIsi "int" (mV 0)) (mNotV (mIsi "bool" (mV 0)))))
def g_is_integer : List PyData → Option PyData := runD ["value"] 1 v_is_integer
theorem r_is_integer (x0 : PyData) : g_is_integer [x0] = outD (v_is_integer [.pl x0]) := rfl
def v_is_integer_below : SM := (sRet (mAndV (mCall g_is_integer (mCons (mV 0) mNil)) (mChain leM ltM (M.ret (.int 0)) (mV 0) (mV 1))))
def g_is_integer_below : List PyData → Option PyData := runD ["value", "limit"] 2 v_is_integer_below
theorem r_is_integer_below (x0 : PyData) (x1 : PyData) : g_is_integer_below [x0, x1] = outD (v_is_integer_below [.pl x0, .pl x1]) := rfl
def v_are_ascending_below : SM := (sSeq (sSet 2 (M.ret (.int 0)))
  (sSeq (sFor (mSeq (mV 0)) (gN 3)
    (sSeq (sIf (mOr (mNotT (mTru (mCall g_is_integer_below (mCons (mV 3) (mCons (mV 1) mNil))))) (mOpT ltM (mV 3) (mV 2)))
    (sRet (M.ret (.bool false)))
    sNil)
  (sSet 2 (mOp2 addM (mV 3) (M.ret (.int 1))))))
  (sRet (M.ret (.bool true)))))
def g_are_ascending_below : List PyData → Option PyData := runD ["values", "limit", "least", "value"] 2 v_are_ascending_below
theorem r_are_ascending_below (x0 : PyData) (x1 : PyData) : g_are_ascending_below [x0, x1] = outD (v_are_ascending_below [.pl x0, .pl x1, .un, .un]) := rfl
def v_ascending_numbers : SM := (sRet (mNew (mCallF sortedM (mCons (mNew (mLc [1] (mSeq (mV 0)) (gN 1) mYes (mCall intM (mCons (mV 1) mNil)))) mNil))))
def g_ascending_numbers : List PyData → Option PyData := runD ["numbers", "number"] 1 v_ascending_numbers
theorem r_ascending_numbers (x0 : PyData) : g_ascending_numbers [x0] = outD (v_ascending_numbers [.pl x0, .un]) := rfl
end DL
namespace DL
open PySem PySem.Spec PyProof.Rows L2 Lk
def v_is_sizes : SM := (sSeq (sIf (mOr (mNotT (mTru (mIsi "list" (mV 0)))) (mOpT gtM (mCall lenM (mCons (mV 0) mNil)) (M.ret (.int 24))))
    (sRet (M.ret (.bool false)))
    sNil)
  (sRet (mCall allM (mCons (mNew (mLc [1] (mSeq (mV 0)) (gN 1) mYes (mAndV (mCall g_is_integer (mCons (mV 1) mNil)) (mChain leM leM (M.ret (.int 2)) (mV 1) (M.ret (.int 6)))))) mNil))))
def g_is_sizes : List PyData → Option PyData := runD ["value", "size"] 1 v_is_sizes
theorem r_is_sizes (x0 : PyData) : g_is_sizes [x0] = outD (v_is_sizes [.pl x0, .un]) := rfl
def v_check_sizes : SM := (sIf (mNotT (mTru (mCall g_is_sizes (mCons (mV 0) mNil))))
    sNo
    sNil)
def g_check_sizes : List PyData → Option PyData := runD ["sizes"] 1 v_check_sizes
theorem r_check_sizes (x0 : PyData) : g_check_sizes [x0] = outD (v_check_sizes [.pl x0]) := rfl
def v_check_field : SM := (sIf (mNotT (mTru (mCall g_is_integer_below (mCons (mV 1) (mCons (mCall lenM (mCons (mV 0) mNil)) mNil)))))
    sNo
    sNil)
def g_check_field : List PyData → Option PyData := runD ["sizes", "field"] 2 v_check_field
theorem r_check_field (x0 : PyData) (x1 : PyData) : g_check_field [x0, x1] = outD (v_check_field [.pl x0, .pl x1]) := rfl
def v_number_of_cases : SM := (sSeq (sSet 1 (M.ret (.int 1)))
  (sSeq (sFor (mSeq (mV 0)) (gN 2)
    (sSet 1 (mOp2 mulM (mV 1) (mV 2))))
  (sRet (mV 1))))
def g_number_of_cases : List PyData → Option PyData := runD ["sizes", "number", "size"] 1 v_number_of_cases
theorem r_number_of_cases (x0 : PyData) : g_number_of_cases [x0] = outD (v_number_of_cases [.pl x0, .un, .un]) := rfl
def v_is_small_sheet : SM := (sRet (mOp2 leM (mCall g_number_of_cases (mCons (mV 0) mNil)) (M.ret (.int 1024))))
def g_is_small_sheet : List PyData → Option PyData := runD ["sizes"] 1 v_is_small_sheet
theorem r_is_small_sheet (x0 : PyData) : g_is_small_sheet [x0] = outD (v_is_small_sheet [.pl x0]) := rfl
def v_check_small : SM := (sIf (mNotT (mTru (mCall g_is_small_sheet (mCons (mV 0) mNil))))
    sNo
    sNil)
def g_check_small : List PyData → Option PyData := runD ["sizes"] 1 v_check_small
theorem r_check_small (x0 : PyData) : g_check_small [x0] = outD (v_check_small [.pl x0]) := rfl
def v_place_of_case : SM := (sSeq (sSet 2 (M.ret (.int 0)))
  (sSeq (sFor (mRng1 (mCons (mCall lenM (mCons (mV 0) mNil)) mNil)) (gN 3)
    (sSet 2 (mOp2 addM (mOp2 mulM (mV 2) (mOp2 ixM (mV 0) (mV 3))) (mOp2 ixM (mV 1) (mV 3)))))
  (sRet (mV 2))))
def g_place_of_case : List PyData → Option PyData := runD ["sizes", "case", "place", "at"] 2 v_place_of_case
theorem r_place_of_case (x0 : PyData) (x1 : PyData) : g_place_of_case [x0, x1] = outD (v_place_of_case [.pl x0, .pl x1, .un, .un]) := rfl
def v_list_completing : SM := (sSeq (sSet 2 (mNew (mLst (mCons (mNew (mLst mNil)) mNil))))
  (sSeq (sFor (mRng1 (mCons (mCall lenM (mCons (mV 0) mNil)) mNil)) (gN 3)
    (sSeq (sSet 4 (mIf (mOpT isM (mOp2 ixM (mV 1) (mV 3)) (M.ret .none)) (mNew (mLRng1 (mOp2 ixM (mV 0) (mV 3)))) (mNew (mLst (mCons (mOp2 ixM (mV 1) (mV 3)) mNil)))))
  (sSet 2 (mNew (mLc2 [5, 6] [6] (mSeq (mV 2)) (gN 5) mYes (mSeq (mV 4)) (gN 6) mYes (mNew (mLst (mStar (mV 5) (mCons (mV 6) mNil)))))))))
  (sRet (mV 2))))
def g_list_completing : List PyData → Option PyData := runD ["sizes", "half", "cases", "at", "choices", "begun", "value"] 2 v_list_completing
theorem r_list_completing (x0 : PyData) (x1 : PyData) : g_list_completing [x0, x1] = outD (v_list_completing [.pl x0, .pl x1, .un, .un, .un, .un, .un]) := rfl
def v_count_cases : SM := (sSeq (sExpr (mCall g_check_sizes (mCons (mV 0) mNil)))
  (sRet (mCall g_number_of_cases (mCons (mV 0) mNil))))
def g_count_cases : List PyData → Option PyData := runD ["sizes"] 1 v_count_cases
theorem r_count_cases (x0 : PyData) : g_count_cases [x0] = outD (v_count_cases [.pl x0]) := rfl
def v_is_small : SM := (sSeq (sExpr (mCall g_check_sizes (mCons (mV 0) mNil)))
  (sRet (mCall g_is_small_sheet (mCons (mV 0) mNil))))
def g_is_small : List PyData → Option PyData := runD ["sizes"] 1 v_is_small
theorem r_is_small (x0 : PyData) : g_is_small [x0] = outD (v_is_small [.pl x0]) := rfl
def v_is_half_case : SM := (sSeq (sIf (mOr (mNotT (mTru (mIsi "list" (mV 1)))) (mOpT neM (mCall lenM (mCons (mV 1) mNil)) (mCall lenM (mCons (mV 0) mNil))))
    (sRet (M.ret (.bool false)))
    sNil)
  (sRet (mCall allM (mCons (mNew (mLc [2] (mRng1 (mCons (mCall lenM (mCons (mV 0) mNil)) mNil)) (gN 2) mYes (mOrV (mOp2 isM (mOp2 ixM (mV 1) (mV 2)) (M.ret .none)) (mCall g_is_integer_below (mCons (mOp2 ixM (mV 1) (mV 2)) (mCons (mOp2 ixM (mV 0) (mV 2)) mNil)))))) mNil))))
def g_is_half_case : List PyData → Option PyData := runD ["sizes", "value", "at"] 2 v_is_half_case
theorem r_is_half_case (x0 : PyData) (x1 : PyData) : g_is_half_case [x0, x1] = outD (v_is_half_case [.pl x0, .pl x1, .un]) := rfl
def v_is_case : SM := (sRet (mAndV (mCall g_is_half_case (mCons (mV 0) (mCons (mV 1) mNil))) (mOp2 notInM (M.ret .none) (mV 1))))
def g_is_case : List PyData → Option PyData := runD ["sizes", "value"] 2 v_is_case
theorem r_is_case (x0 : PyData) (x1 : PyData) : g_is_case [x0, x1] = outD (v_is_case [.pl x0, .pl x1]) := rfl
def v_check_case : SM := (sIf (mNotT (mTru (mCall g_is_case (mCons (mV 0) (mCons (mV 1) mNil)))))
    sNo
    sNil)
def g_check_case : List PyData → Option PyData := runD ["sizes", "case"] 2 v_check_case
theorem r_check_case (x0 : PyData) (x1 : PyData) : g_check_case [x0, x1] = outD (v_check_case [.pl x0, .pl x1]) := rfl
def v_check_index : SM := (sIf (mNotT (mTru (mCall g_is_integer_below (mCons (mV 0) (mCons (mV 1) mNil)))))
    sNo
    sNil)
def g_check_index : List PyData → Option PyData := runD ["index", "count"] 2 v_check_index
theorem r_check_index (x0 : PyData) (x1 : PyData) : g_check_index [x0, x1] = outD (v_check_index [.pl x0, .pl x1]) := rfl
def v_case_of_place : SM := (sSeq (sOwn 2 (mRep (mLst (mCons (M.ret (.int 0)) mNil)) (mCall lenM (mCons (mV 0) mNil))))
  (sSeq (sSet 3 (mV 1))
  (sSeq (sFor (mRevR (mCall lenM (mCons (mV 0) mNil))) (gN 4)
    (sSeq (sPutIx 2 (mV 4) (mOp2 modM (mV 3) (mOp2 ixM (mV 0) (mV 4))))
  (sSet 3 (mOp2 divM (mV 3) (mOp2 ixM (mV 0) (mV 4))))))
  (sFrz 2 (sRet (mV 2))))))
def g_case_of_place : List PyData → Option PyData := runD ["sizes", "place", "case", "rest", "at"] 2 v_case_of_place
theorem r_case_of_place (x0 : PyData) (x1 : PyData) : g_case_of_place [x0, x1] = outD (v_case_of_place [.pl x0, .pl x1, .un, .un, .un]) := rfl
def v_nth_case : SM := (sSeq (sExpr (mCall g_check_sizes (mCons (mV 0) mNil)))
  (sSeq (sExpr (mCall g_check_index (mCons (mV 1) (mCons (mCall g_number_of_cases (mCons (mV 0) mNil)) mNil))))
  (sRet (mCall g_case_of_place (mCons (mV 0) (mCons (mV 1) mNil))))))
def g_nth_case : List PyData → Option PyData := runD ["sizes", "index"] 2 v_nth_case
theorem r_nth_case (x0 : PyData) (x1 : PyData) : g_nth_case [x0, x1] = outD (v_nth_case [.pl x0, .pl x1]) := rfl
def v_case_index : SM := (sSeq (sExpr (mCall g_check_sizes (mCons (mV 0) mNil)))
  (sSeq (sExpr (mCall g_check_case (mCons (mV 0) (mCons (mV 1) mNil))))
  (sRet (mCall g_place_of_case (mCons (mV 0) (mCons (mV 1) mNil))))))
def g_case_index : List PyData → Option PyData := runD ["sizes", "case"] 2 v_case_index
theorem r_case_index (x0 : PyData) (x1 : PyData) : g_case_index [x0, x1] = outD (v_case_index [.pl x0, .pl x1]) := rfl
def v_check_half : SM := (sIf (mNotT (mTru (mCall g_is_half_case (mCons (mV 0) (mCons (mV 1) mNil)))))
    sNo
    sNil)
def g_check_half : List PyData → Option PyData := runD ["sizes", "half"] 2 v_check_half
theorem r_check_half (x0 : PyData) (x1 : PyData) : g_check_half [x0, x1] = outD (v_check_half [.pl x0, .pl x1]) := rfl
def v_unlike_fields : SM := (sRet (mNew (mLc [2] (mRng1 (mCons (mCall lenM (mCons (mV 0) mNil)) mNil)) (gN 2) (mOpT neM (mOp2 ixM (mV 0) (mV 2)) (mOp2 ixM (mV 1) (mV 2))) (mV 2))))
def g_unlike_fields : List PyData → Option PyData := runD ["case", "second_case", "at"] 2 v_unlike_fields
theorem r_unlike_fields (x0 : PyData) (x1 : PyData) : g_unlike_fields [x0, x1] = outD (v_unlike_fields [.pl x0, .pl x1, .un]) := rfl
def v_completing : SM := (sSeq (sExpr (mCall g_check_sizes (mCons (mV 0) mNil)))
  (sSeq (sExpr (mCall g_check_half (mCons (mV 0) (mCons (mV 1) mNil))))
  (sSeq (sExpr (mCall g_check_small (mCons (mV 0) mNil)))
  (sRet (mCall g_list_completing (mCons (mV 0) (mCons (mV 1) mNil)))))))
def g_completing : List PyData → Option PyData := runD ["sizes", "half"] 2 v_completing
theorem r_completing (x0 : PyData) (x1 : PyData) : g_completing [x0, x1] = outD (v_completing [.pl x0, .pl x1]) := rfl
def v_differing : SM := (sSeq (sExpr (mCall g_check_sizes (mCons (mV 0) mNil)))
  (sSeq (sExpr (mCall g_check_case (mCons (mV 0) (mCons (mV 1) mNil))))
  (sSeq (sExpr (mCall g_check_case (mCons (mV 0) (mCons (mV 2) mNil))))
  (sRet (mCall g_unlike_fields (mCons (mV 1) (mCons (mV 2) mNil)))))))
def g_differing : List PyData → Option PyData := runD ["sizes", "case", "second_case"] 3 v_differing
theorem r_differing (x0 : PyData) (x1 : PyData) (x2 : PyData) : g_differing [x0, x1, x2] = outD (v_differing [.pl x0, .pl x1, .pl x2]) := rfl
def v_unknown_fields : SM := (sRet (mNew (mLc [1] (mRng1 (mCons (mCall lenM (mCons (mV 0) mNil)) mNil)) (gN 1) (mOpT isM (mOp2 ixM (mV 0) (mV 1)) (M.ret .none)) (mV 1))))
def g_unknown_fields : List PyData → Option PyData := runD ["half", "field"] 1 v_unknown_fields
theorem r_unknown_fields (x0 : PyData) : g_unknown_fields [x0] = outD (v_unknown_fields [.pl x0, .un]) := rfl
def v_check_fields : SM := (sIf (mOr (mNotT (mTru (mIsi "list" (mV 1)))) (mNotT (mTru (mCall g_are_ascending_below (mCons (mV 1) (mCons (mCall lenM (mCons (mV 0) mNil)) mNil))))))
    sNo
    sNil)
def g_check_fields : List PyData → Option PyData := runD ["sizes", "fields"] 2 v_check_fields
theorem r_check_fields (x0 : PyData) (x1 : PyData) : g_check_fields [x0, x1] = outD (v_check_fields [.pl x0, .pl x1]) := rfl
def v_p_is_order : SM := (sSeq (sIf (mOr (mNotT (mTru (mIsi "list" (mV 1)))) (mOpT neM (mCall lenM (mCons (mV 1) mNil)) (mCall lenM (mCons (mV 0) mNil))))
    (sRet (M.ret (.bool false)))
    sNil)
  (sSeq (sIf (mNotT (mTru (mCall allM (mCons (mNew (mLc [2] (mSeq (mV 1)) (gN 2) mYes (mCall g_is_integer_below (mCons (mV 2) (mCons (mCall lenM (mCons (mV 0) mNil)) mNil))))) mNil))))
    (sRet (M.ret (.bool false)))
    sNil)
  (sRet (mCall allM (mCons (mNew (mLc [2] (mRng1 (mCons (mCall lenM (mCons (mV 0) mNil)) mNil)) (gN 2) mYes (mOp2 inM (mV 2) (mV 1)))) mNil)))))
def g_p_is_order : List PyData → Option PyData := runD ["sizes", "value", "field"] 2 v_p_is_order
theorem r_p_is_order (x0 : PyData) (x1 : PyData) : g_p_is_order [x0, x1] = outD (v_p_is_order [.pl x0, .pl x1, .un]) := rfl
def v_check_order : SM := (sIf (mNotT (mTru (mCall g_p_is_order (mCons (mV 0) (mCons (mV 1) mNil)))))
    sNo
    sNil)
def g_check_order : List PyData → Option PyData := runD ["sizes", "order"] 2 v_check_order
theorem r_check_order (x0 : PyData) (x1 : PyData) : g_check_order [x0, x1] = outD (v_check_order [.pl x0, .pl x1]) := rfl
end DL
namespace DL
open PySem PySem.Spec PyProof.Rows L2 Lk
def v_inner_forms : SM := (sSeq (sIf (mOpT eqM (mOp2 ixM (mV 0) (M.ret (.int 0))) (M.ret (.str "tree")))
    (sRet (mOp2 ixM (mV 0) (M.ret (.int 2))))
    sNil)
  (sSeq (sIf (mOpT eqM (mOp2 ixM (mV 0) (M.ret (.int 0))) (M.ret (.str "not")))
    (sRet (mTup (mCons (mOp2 ixM (mV 0) (M.ret (.int 1))) mNil)))
    sNil)
  (sSeq (sIf (mOpT inM (mOp2 ixM (mV 0) (M.ret (.int 0))) (M.ret c_JOINING_WORDS))
    (sRet (mOp2 ixM (mV 0) (M.ret (.int 1))))
    sNil)
  (sRet (mTup mNil)))))
def g_inner_forms : List PyData → Option PyData := runD ["form"] 1 v_inner_forms
theorem r_inner_forms (x0 : PyData) : g_inner_forms [x0] = outD (v_inner_forms [.pl x0]) := rfl
def v_p_is_tuple_of : SM := (sRet (mAndV (mIsi "tuple" (mV 0)) (mOp2 eqM (mCall lenM (mCons (mV 0) mNil)) (mV 1))))
def g_p_is_tuple_of : List PyData → Option PyData := runD ["value", "length"] 2 v_p_is_tuple_of
theorem r_p_is_tuple_of (x0 : PyData) (x1 : PyData) : g_p_is_tuple_of [x0, x1] = outD (v_p_is_tuple_of [.pl x0, .pl x1]) := rfl
def v_p_is_results : SM := (sSeq (sIf (mOr (mNotT (mTru (mCall g_is_small_sheet (mCons (mV 0) mNil)))) (mNotT (mTru (mCall g_p_is_tuple_of (mCons (mV 1) (mCons (mCall g_number_of_cases (mCons (mV 0) mNil)) mNil))))))
    (sRet (M.ret (.bool false)))
    sNil)
  (sRet (mCall allM (mCons (mNew (mLc [2] (mSeq (mV 1)) (gN 2) mYes (mIsi "bool" (mV 2)))) mNil))))
def g_p_is_results : List PyData → Option PyData := runD ["sizes", "value", "result"] 2 v_p_is_results
theorem r_p_is_results (x0 : PyData) (x1 : PyData) : g_p_is_results [x0, x1] = outD (v_p_is_results [.pl x0, .pl x1, .un]) := rfl
def v_p_is_short_form_outside : SM := (sSeq (sIf (mOpT eqM (mV 1) (M.ret (.str "say")))
    (sRet (mIsi "bool" (mV 2)))
    sNil)
  (sSeq (sIf (mOpT eqM (mV 1) (M.ret (.str "table")))
    (sRet (mCall g_p_is_results (mCons (mV 0) (mCons (mV 2) mNil))))
    sNil)
  (sSeq (sIf (mOpT eqM (mV 1) (M.ret (.str "not")))
    (sRet (M.ret (.bool true)))
    sNil)
  (sRet (mAndV (mOp2 inM (mV 1) (M.ret c_JOINING_WORDS)) (mIsi "tuple" (mV 2)))))))
def g_p_is_short_form_outside : List PyData → Option PyData := runD ["sizes", "word", "part"] 3 v_p_is_short_form_outside
theorem r_p_is_short_form_outside (x0 : PyData) (x1 : PyData) (x2 : PyData) : g_p_is_short_form_outside [x0, x1, x2] = outD (v_p_is_short_form_outside [.pl x0, .pl x1, .pl x2]) := rfl
def v_p_is_test : SM := (sSeq (sIf (mOr (mNotT (mTru (mCall g_is_integer_below (mCons (mV 1) (mCons (mCall lenM (mCons (mV 0) mNil)) mNil))))) (mNotT (mTru (mIsi "tuple" (mV 2)))))
    (sRet (M.ret (.bool false)))
    sNil)
  (sRet (mCall g_are_ascending_below (mCons (mV 2) (mCons (mOp2 ixM (mV 0) (mV 1)) mNil)))))
def g_p_is_test : List PyData → Option PyData := runD ["sizes", "field", "values"] 3 v_p_is_test
theorem r_p_is_test (x0 : PyData) (x1 : PyData) (x2 : PyData) : g_p_is_test [x0, x1, x2] = outD (v_p_is_test [.pl x0, .pl x1, .pl x2]) := rfl
def v_p_is_condition : SM := (sRet (mAndV (mCall g_p_is_tuple_of (mCons (mV 1) (mCons (M.ret (.int 2)) mNil))) (mCall g_p_is_test (mCons (mV 0) (mCons (mOp2 ixM (mV 1) (M.ret (.int 0))) (mCons (mOp2 ixM (mV 1) (M.ret (.int 1))) mNil))))))
def g_p_is_condition : List PyData → Option PyData := runD ["sizes", "value"] 2 v_p_is_condition
theorem r_p_is_condition (x0 : PyData) (x1 : PyData) : g_p_is_condition [x0, x1] = outD (v_p_is_condition [.pl x0, .pl x1]) := rfl
def v_is_conditions : SM := (sSeq (sIf (mOr (mNotT (mTru (mIsi "tuple" (mV 1)))) (mNotT (mTru (mCall allM (mCons (mNew (mLc [2] (mSeq (mV 1)) (gN 2) mYes (mCall g_p_is_condition (mCons (mV 0) (mCons (mV 2) mNil))))) mNil)))))
    (sRet (M.ret (.bool false)))
    sNil)
  (sRet (mCall g_are_ascending_below (mCons (mNew (mLc [2] (mSeq (mV 1)) (gN 2) mYes (mOp2 ixM (mV 2) (M.ret (.int 0))))) (mCons (mCall lenM (mCons (mV 0) mNil)) mNil)))))
def g_is_conditions : List PyData → Option PyData := runD ["sizes", "value", "part"] 2 v_is_conditions
theorem r_is_conditions (x0 : PyData) (x1 : PyData) : g_is_conditions [x0, x1] = outD (v_is_conditions [.pl x0, .pl x1, .un]) := rfl
def v_p_is_rule : SM := (sRet (mAndV (mCall g_p_is_tuple_of (mCons (mV 1) (mCons (M.ret (.int 2)) mNil))) (mAndV (mCall g_is_conditions (mCons (mV 0) (mCons (mOp2 ixM (mV 1) (M.ret (.int 0))) mNil))) (mIsi "bool" (mOp2 ixM (mV 1) (M.ret (.int 1)))))))
def g_p_is_rule : List PyData → Option PyData := runD ["sizes", "value"] 2 v_p_is_rule
theorem r_p_is_rule (x0 : PyData) (x1 : PyData) : g_p_is_rule [x0, x1] = outD (v_p_is_rule [.pl x0, .pl x1]) := rfl
def v_p_is_rules : SM := (sRet (mAndV (mIsi "tuple" (mV 1)) (mCall allM (mCons (mNew (mLc [2] (mSeq (mV 1)) (gN 2) mYes (mCall g_p_is_rule (mCons (mV 0) (mCons (mV 2) mNil))))) mNil))))
def g_p_is_rules : List PyData → Option PyData := runD ["sizes", "value", "part"] 2 v_p_is_rules
theorem r_p_is_rules (x0 : PyData) (x1 : PyData) : g_p_is_rules [x0, x1] = outD (v_p_is_rules [.pl x0, .pl x1, .un]) := rfl
def v_p_are_integers : SM := (sRet (mCall allM (mCons (mNew (mLc [1] (mSeq (mV 0)) (gN 1) mYes (mCall g_is_integer (mCons (mV 1) mNil)))) mNil)))
def g_p_are_integers : List PyData → Option PyData := runD ["values", "value"] 1 v_p_are_integers
theorem r_p_are_integers (x0 : PyData) : g_p_are_integers [x0] = outD (v_p_are_integers [.pl x0, .un]) := rfl
def v_p_is_weights : SM := (sSeq (sIf (mNotT (mTru (mCall g_p_is_tuple_of (mCons (mV 1) (mCons (mCall lenM (mCons (mV 0) mNil)) mNil)))))
    (sRet (M.ret (.bool false)))
    sNil)
  (sRet (mCall allM (mCons (mNew (mLc [2] (mRng1 (mCons (mCall lenM (mCons (mV 0) mNil)) mNil)) (gN 2) mYes (mAndV (mCall g_p_is_tuple_of (mCons (mOp2 ixM (mV 1) (mV 2)) (mCons (mOp2 ixM (mV 0) (mV 2)) mNil))) (mCall g_p_are_integers (mCons (mOp2 ixM (mV 1) (mV 2)) mNil))))) mNil))))
def g_p_is_weights : List PyData → Option PyData := runD ["sizes", "value", "at"] 2 v_p_is_weights
theorem r_p_is_weights (x0 : PyData) (x1 : PyData) : g_p_is_weights [x0, x1] = outD (v_p_is_weights [.pl x0, .pl x1, .un]) := rfl
def v_p_is_long_form_outside : SM := (sSeq (sIf (mOpT eqM (mV 1) (M.ret (.str "is")))
    (sRet (mCall g_p_is_test (mCons (mV 0) (mCons (mV 2) (mCons (mV 3) mNil)))))
    sNil)
  (sSeq (sIf (mOpT eqM (mV 1) (M.ret (.str "tree")))
    (sRet (mAndV (mCall g_is_integer_below (mCons (mV 2) (mCons (mCall lenM (mCons (mV 0) mNil)) mNil))) (mCall g_p_is_tuple_of (mCons (mV 3) (mCons (mOp2 ixM (mV 0) (mV 2)) mNil)))))
    sNil)
  (sSeq (sIf (mOpT eqM (mV 1) (M.ret (.str "rules")))
    (sRet (mAndV (mCall g_p_is_rules (mCons (mV 0) (mCons (mV 2) mNil))) (mIsi "bool" (mV 3))))
    sNil)
  (sRet (mAndV (mOp2 eqM (mV 1) (M.ret (.str "card"))) (mAndV (mCall g_p_is_weights (mCons (mV 0) (mCons (mV 2) mNil))) (mCall g_is_integer (mCons (mV 3) mNil))))))))
def g_p_is_long_form_outside : List PyData → Option PyData := runD ["sizes", "word", "part", "second_part"] 4 v_p_is_long_form_outside
theorem r_p_is_long_form_outside (x0 : PyData) (x1 : PyData) (x2 : PyData) (x3 : PyData) : g_p_is_long_form_outside [x0, x1, x2, x3] = outD (v_p_is_long_form_outside [.pl x0, .pl x1, .pl x2, .pl x3]) := rfl
def v_p_is_form_outside : SM := (sSeq (sIf (mOr (mNotT (mTru (mIsi "tuple" (mV 1)))) (mOr (mOpT eqM (mCall lenM (mCons (mV 1) mNil)) (M.ret (.int 0))) (mNotT (mTru (mIsi "str" (mOp2 ixM (mV 1) (M.ret (.int 0))))))))
    (sRet (M.ret (.bool false)))
    sNil)
  (sSeq (sIf (mOpT eqM (mCall lenM (mCons (mV 1) mNil)) (M.ret (.int 2)))
    (sRet (mCall g_p_is_short_form_outside (mCons (mV 0) (mCons (mOp2 ixM (mV 1) (M.ret (.int 0))) (mCons (mOp2 ixM (mV 1) (M.ret (.int 1))) mNil)))))
    sNil)
  (sRet (mAndV (mOp2 eqM (mCall lenM (mCons (mV 1) mNil)) (M.ret (.int 3))) (mCall g_p_is_long_form_outside (mCons (mV 0) (mCons (mOp2 ixM (mV 1) (M.ret (.int 0))) (mCons (mOp2 ixM (mV 1) (M.ret (.int 1))) (mCons (mOp2 ixM (mV 1) (M.ret (.int 2))) mNil)))))))))
def g_p_is_form_outside : List PyData → Option PyData := runD ["sizes", "value"] 2 v_p_is_form_outside
theorem r_p_is_form_outside (x0 : PyData) (x1 : PyData) : g_p_is_form_outside [x0, x1] = outD (v_p_is_form_outside [.pl x0, .pl x1]) := rfl
def v_has_form_shape : SM := (sSeq (sOwn 2 (mLst (mCons (mV 1) mNil)))
  (sSeq (whGo (mTruO 2)
    (sSeq (sSet 3 (mPop 2))
  (sSeq (sIf (mNotT (mTru (mCall g_p_is_form_outside (mCons (mV 0) (mCons (mV 3) mNil)))))
    (sRet (M.ret (.bool false)))
    sNil)
  (sExt 2 (mCall g_inner_forms (mCons (mV 3) mNil))))) WH)
  (sRet (M.ret (.bool true)))))
def g_has_form_shape : List PyData → Option PyData := runD ["sizes", "value", "left", "part"] 2 v_has_form_shape
theorem r_has_form_shape (x0 : PyData) (x1 : PyData) : g_has_form_shape [x0, x1] = outD (v_has_form_shape [.pl x0, .pl x1, .un, .un]) := rfl
def v_all_forms : SM := (sSeq (sOwn 1 (mLst mNil))
  (sSeq (sOwn 2 (mLst (mCons (mV 0) mNil)))
  (sSeq (whGo (mTruO 2)
    (sSeq (sSet 3 (mPop 2))
  (sSeq (sApp 1 (mV 3))
  (sExt 2 (mCall g_inner_forms (mCons (mV 3) mNil))))) WH)
  (sFrz 1 (sRet (mV 1))))))
def g_all_forms : List PyData → Option PyData := runD ["form", "found", "left", "part"] 1 v_all_forms
theorem r_all_forms (x0 : PyData) : g_all_forms [x0] = outD (v_all_forms [.pl x0, .un, .un, .un]) := rfl
def v_has_plain_words : SM := (sRet (mCall allM (mCons (mNew (mLc [1] (mSeq (mCall g_all_forms (mCons (mV 0) mNil))) (gN 1) mYes (mOp2 inM (mOp2 ixM (mV 1) (M.ret (.int 0))) (M.ret c_PLAIN_WORDS)))) mNil)))
def g_has_plain_words : List PyData → Option PyData := runD ["form", "part"] 1 v_has_plain_words
theorem r_has_plain_words (x0 : PyData) : g_has_plain_words [x0] = outD (v_has_plain_words [.pl x0, .un]) := rfl
def v_has_plain_tree_shape : SM := (sRet (mAndV (mCall g_has_form_shape (mCons (mV 0) (mCons (mV 1) mNil))) (mCall g_has_plain_words (mCons (mV 1) mNil))))
def g_has_plain_tree_shape : List PyData → Option PyData := runD ["sizes", "value"] 2 v_has_plain_tree_shape
theorem r_has_plain_tree_shape (x0 : PyData) (x1 : PyData) : g_has_plain_tree_shape [x0, x1] = outD (v_has_plain_tree_shape [.pl x0, .pl x1]) := rfl
end DL
namespace DL
open PySem PySem.Spec PyProof.Rows L2 Lk
def v_check_form : SM := (sIf (mNotT (mTru (mCall g_has_form_shape (mCons (mV 0) (mCons (mV 1) mNil)))))
    sNo
    sNil)
def g_check_form : List PyData → Option PyData := runD ["sizes", "form"] 2 v_check_form
theorem r_check_form (x0 : PyData) (x1 : PyData) : g_check_form [x0, x1] = outD (v_check_form [.pl x0, .pl x1]) := rfl
def v_check_small_form : SM := (sSeq (sExpr (mCall g_check_sizes (mCons (mV 0) mNil)))
  (sSeq (sExpr (mCall g_check_form (mCons (mV 0) (mCons (mV 1) mNil))))
  (sExpr (mCall g_check_small (mCons (mV 0) mNil)))))
def g_check_small_form : List PyData → Option PyData := runD ["sizes", "form"] 2 v_check_small_form
theorem r_check_small_form (x0 : PyData) (x1 : PyData) : g_check_small_form [x0, x1] = outD (v_check_small_form [.pl x0, .pl x1]) := rfl
def v_p_join_answers : SM := (sSeq (sIf (mOpT eqM (mV 0) (M.ret (.str "and")))
    (sRet (mOp2 notInM (M.ret (.bool false)) (mV 1)))
    sNil)
  (sSeq (sIf (mOpT eqM (mV 0) (M.ret (.str "or")))
    (sRet (mOp2 inM (M.ret (.bool true)) (mV 1)))
    sNil)
  (sRet (mOp2 eqM (mOp2 modM (mMt "list" countM (mV 1) (mCons (M.ret (.bool true)) mNil)) (M.ret (.int 2))) (M.ret (.int 1))))))
def g_p_join_answers : List PyData → Option PyData := runD ["word", "results"] 2 v_p_join_answers
theorem r_p_join_answers (x0 : PyData) (x1 : PyData) : g_p_join_answers [x0, x1] = outD (v_p_join_answers [.pl x0, .pl x1]) := rfl
def v_sum_of_weights : SM := (sRet (mCall sumM (mCons (mNew (mLc [2] (mRng1 (mCons (mCall lenM (mCons (mV 1) mNil)) mNil)) (gN 2) mYes (mOp2 ixM (mOp2 ixM (mV 0) (mV 2)) (mOp2 ixM (mV 1) (mV 2))))) mNil)))
def g_sum_of_weights : List PyData → Option PyData := runD ["weights", "case", "at"] 2 v_sum_of_weights
theorem r_sum_of_weights (x0 : PyData) (x1 : PyData) : g_sum_of_weights [x0, x1] = outD (v_sum_of_weights [.pl x0, .pl x1, .un]) := rfl
def v_fits : SM := (sRet (mCall allM (mCons (mNew (mLc [2, 3] (mSeq (mV 0)) (gTupD 2 (gConsD (gN 2) (gConsD (gN 3) gNilD))) mYes (mOp2 inM (mOp2 ixM (mV 1) (mV 2)) (mV 3)))) mNil)))
def g_fits : List PyData → Option PyData := runD ["conditions", "case", "field", "values"] 2 v_fits
theorem r_fits (x0 : PyData) (x1 : PyData) : g_fits [x0, x1] = outD (v_fits [.pl x0, .pl x1, .un, .un]) := rfl
def v_p_first_result : SM := (sSeq (sFor (mSeq (mV 0)) (gTupD 2 (gConsD (gN 3) (gConsD (gN 4) gNilD)))
    (sIf (mTru (mCall g_fits (mCons (mV 3) (mCons (mV 2) mNil))))
    (sRet (mV 4))
    sNil))
  (sRet (mV 1)))
def g_p_first_result : List PyData → Option PyData := runD ["rules", "last", "case", "conditions", "result"] 3 v_p_first_result
theorem r_p_first_result (x0 : PyData) (x1 : PyData) (x2 : PyData) : g_p_first_result [x0, x1, x2] = outD (v_p_first_result [.pl x0, .pl x1, .pl x2, .un, .un]) := rfl
def v_p_says_alone : SM := (sSeq (sIf (mOpT eqM (mOp2 ixM (mV 1) (M.ret (.int 0))) (M.ret (.str "say")))
    (sRet (mOp2 ixM (mV 1) (M.ret (.int 1))))
    sNil)
  (sSeq (sIf (mOpT eqM (mOp2 ixM (mV 1) (M.ret (.int 0))) (M.ret (.str "is")))
    (sRet (mOp2 inM (mOp2 ixM (mV 2) (mOp2 ixM (mV 1) (M.ret (.int 1)))) (mOp2 ixM (mV 1) (M.ret (.int 2)))))
    sNil)
  (sSeq (sIf (mOpT eqM (mOp2 ixM (mV 1) (M.ret (.int 0))) (M.ret (.str "rules")))
    (sRet (mCall g_p_first_result (mCons (mOp2 ixM (mV 1) (M.ret (.int 1))) (mCons (mOp2 ixM (mV 1) (M.ret (.int 2))) (mCons (mV 2) mNil)))))
    sNil)
  (sSeq (sIf (mOpT eqM (mOp2 ixM (mV 1) (M.ret (.int 0))) (M.ret (.str "card")))
    (sRet (mOp2 geM (mCall g_sum_of_weights (mCons (mOp2 ixM (mV 1) (M.ret (.int 1))) (mCons (mV 2) mNil))) (mOp2 ixM (mV 1) (M.ret (.int 2)))))
    sNil)
  (sRet (mOp2 ixM (mOp2 ixM (mV 1) (M.ret (.int 1))) (mCall g_place_of_case (mCons (mV 0) (mCons (mV 2) mNil)))))))))
def g_p_says_alone : List PyData → Option PyData := runD ["sizes", "form", "case"] 3 v_p_says_alone
theorem r_p_says_alone (x0 : PyData) (x1 : PyData) (x2 : PyData) : g_p_says_alone [x0, x1, x2] = outD (v_p_says_alone [.pl x0, .pl x1, .pl x2]) := rfl
def v_says (self : List PyData → Option PyData) : SM := (sSeq (sIf (mOpT eqM (mOp2 ixM (mV 1) (M.ret (.int 0))) (M.ret (.str "tree")))
    (sRet (mCall self (mCons (mV 0) (mCons (mOp2 ixM (mOp2 ixM (mV 1) (M.ret (.int 2))) (mOp2 ixM (mV 2) (mOp2 ixM (mV 1) (M.ret (.int 1))))) (mCons (mV 2) mNil)))))
    sNil)
  (sSeq (sIf (mOpT eqM (mOp2 ixM (mV 1) (M.ret (.int 0))) (M.ret (.str "not")))
    (sRet (mNotV (mCall self (mCons (mV 0) (mCons (mOp2 ixM (mV 1) (M.ret (.int 1))) (mCons (mV 2) mNil))))))
    sNil)
  (sSeq (sIf (mOpT inM (mOp2 ixM (mV 1) (M.ret (.int 0))) (M.ret c_JOINING_WORDS))
    (sRet (mCall g_p_join_answers (mCons (mOp2 ixM (mV 1) (M.ret (.int 0))) (mCons (mNew (mLc [3] (mSeq (mOp2 ixM (mV 1) (M.ret (.int 1)))) (gN 3) mYes (mCall self (mCons (mV 0) (mCons (mV 3) (mCons (mV 2) mNil)))))) mNil))))
    sNil)
  (sRet (mCall g_p_says_alone (mCons (mV 0) (mCons (mV 1) (mCons (mV 2) mNil))))))))
def g_says : Nat → List PyData → Option PyData
  | 0 => fun _ => none
  | n + 1 => runD ["sizes", "form", "case", "part"] 3 (v_says (g_says n))
theorem r_says {n : Nat} (x0 : PyData) (x1 : PyData) (x2 : PyData) : g_says (n + 1) [x0, x1, x2] = outD ((v_says (g_says n)) [.pl x0, .pl x1, .pl x2, .un]) := rfl
def v_answers_completing : SM := (sRet (mNew (mLc [3] (mSeq (mCall g_list_completing (mCons (mV 0) (mCons (mV 2) mNil)))) (gN 3) mYes (mCall (g_says FU) (mCons (mV 0) (mCons (mV 1) (mCons (mV 3) mNil)))))))
def g_answers_completing : List PyData → Option PyData := runD ["sizes", "form", "half", "case"] 3 v_answers_completing
theorem r_answers_completing (x0 : PyData) (x1 : PyData) (x2 : PyData) : g_answers_completing [x0, x1, x2] = outD (v_answers_completing [.pl x0, .pl x1, .pl x2, .un]) := rfl
def v_is_form : SM := (sSeq (sExpr (mCall g_check_sizes (mCons (mV 0) mNil)))
  (sRet (mCall g_has_form_shape (mCons (mV 0) (mCons (mV 1) mNil)))))
def g_is_form : List PyData → Option PyData := runD ["sizes", "value"] 2 v_is_form
theorem r_is_form (x0 : PyData) (x1 : PyData) : g_is_form [x0, x1] = outD (v_is_form [.pl x0, .pl x1]) := rfl
def v_is_plain_tree : SM := (sSeq (sExpr (mCall g_check_sizes (mCons (mV 0) mNil)))
  (sRet (mCall g_has_plain_tree_shape (mCons (mV 0) (mCons (mV 1) mNil)))))
def g_is_plain_tree : List PyData → Option PyData := runD ["sizes", "value"] 2 v_is_plain_tree
theorem r_is_plain_tree (x0 : PyData) (x1 : PyData) : g_is_plain_tree [x0, x1] = outD (v_is_plain_tree [.pl x0, .pl x1]) := rfl
def v_all_answers : SM := (sRet (mCall g_answers_completing (mCons (mV 0) (mCons (mV 1) (mCons (mNew (mRep (mLst (mCons (M.ret .none) mNil)) (mCall lenM (mCons (mV 0) mNil)))) mNil)))))
def g_all_answers : List PyData → Option PyData := runD ["sizes", "form"] 2 v_all_answers
theorem r_all_answers (x0 : PyData) (x1 : PyData) : g_all_answers [x0, x1] = outD (v_all_answers [.pl x0, .pl x1]) := rfl
def v_answer : SM := (sSeq (sExpr (mCall g_check_sizes (mCons (mV 0) mNil)))
  (sSeq (sExpr (mCall g_check_form (mCons (mV 0) (mCons (mV 1) mNil))))
  (sSeq (sExpr (mCall g_check_case (mCons (mV 0) (mCons (mV 2) mNil))))
  (sRet (mCall (g_says FU) (mCons (mV 0) (mCons (mV 1) (mCons (mV 2) mNil))))))))
def g_answer : List PyData → Option PyData := runD ["sizes", "form", "case"] 3 v_answer
theorem r_answer (x0 : PyData) (x1 : PyData) (x2 : PyData) : g_answer [x0, x1, x2] = outD (v_answer [.pl x0, .pl x1, .pl x2]) := rfl
def v_answers : SM := (sSeq (sExpr (mCall g_check_small_form (mCons (mV 0) (mCons (mV 1) mNil))))
  (sRet (mCall tupleM (mCons (mCall g_all_answers (mCons (mV 0) (mCons (mV 1) mNil))) mNil))))
def g_answers : List PyData → Option PyData := runD ["sizes", "form"] 2 v_answers
theorem r_answers (x0 : PyData) (x1 : PyData) : g_answers [x0, x1] = outD (v_answers [.pl x0, .pl x1]) := rfl
def v_measure : SM := (sSeq (sExpr (mCall g_check_sizes (mCons (mV 0) mNil)))
  (sSeq (sExpr (mCall g_check_form (mCons (mV 0) (mCons (mV 1) mNil))))
  (sSeq (sSet 2 (M.ret (.int 0)))
  (sSeq (sSet 3 (M.ret (.int 0)))
  (sSeq (sSet 4 (mNew (mLst (mCons (mV 1) mNil))))
  (sSeq (whGo (mTru (mV 4))
    (sSeq (sSet 2 (mOp2 addM (mV 2) (mCall lenM (mCons (mV 4) mNil))))
  (sSeq (sAug 3 (intG (fun a b => a + b)) (M.ret (.int 1)))
  (sSet 4 (mNew (mLc2 [5, 6] [6] (mSeq (mV 4)) (gN 5) mYes (mSeq (mCall g_inner_forms (mCons (mV 5) mNil))) (gN 6) mYes (mV 6)))))) WH)
  (sRet (mTup (mCons (mV 2) (mCons (mV 3) mNil))))))))))
def g_measure : List PyData → Option PyData := runD ["sizes", "form", "forms", "levels", "layer", "part", "inner"] 2 v_measure
theorem r_measure (x0 : PyData) (x1 : PyData) : g_measure [x0, x1] = outD (v_measure [.pl x0, .pl x1, .un, .un, .un, .un, .un]) := rfl
def v_p_own_fields : SM := (sSeq (sIf (mOpT inM (mOp2 ixM (mV 1) (M.ret (.int 0))) (mTup (mCons (M.ret (.str "is")) (mCons (M.ret (.str "tree")) mNil))))
    (sRet (mNew (mLst (mCons (mOp2 ixM (mV 1) (M.ret (.int 1))) mNil))))
    sNil)
  (sSeq (sIf (mOpT eqM (mOp2 ixM (mV 1) (M.ret (.int 0))) (M.ret (.str "rules")))
    (sRet (mNew (mLc2 [2, 3] [3] (mSeq (mOp2 ixM (mV 1) (M.ret (.int 1)))) (gN 2) mYes (mSeq (mOp2 ixM (mV 2) (M.ret (.int 0)))) (gN 3) mYes (mOp2 ixM (mV 3) (M.ret (.int 0))))))
    sNil)
  (sSeq (sIf (mOpT inM (mOp2 ixM (mV 1) (M.ret (.int 0))) (mTup (mCons (M.ret (.str "card")) (mCons (M.ret (.str "table")) mNil))))
    (sRet (mNew (mLRng1 (mCall lenM (mCons (mV 0) mNil)))))
    sNil)
  (sRet (mNew (mLst mNil))))))
def g_p_own_fields : List PyData → Option PyData := runD ["sizes", "form", "rule", "condition"] 2 v_p_own_fields
theorem r_p_own_fields (x0 : PyData) (x1 : PyData) : g_p_own_fields [x0, x1] = outD (v_p_own_fields [.pl x0, .pl x1, .un, .un]) := rfl
def v_named_fields : SM := (sSeq (sExpr (mCall g_check_sizes (mCons (mV 0) mNil)))
  (sSeq (sExpr (mCall g_check_form (mCons (mV 0) (mCons (mV 1) mNil))))
  (sSeq (sSet 2 (mNew (mLc2 [3, 4] [4] (mSeq (mCall g_all_forms (mCons (mV 1) mNil))) (gN 3) mYes (mSeq (mCall g_p_own_fields (mCons (mV 0) (mCons (mV 3) mNil)))) (gN 4) mYes (mV 4))))
  (sRet (mNew (mLc [4] (mRng1 (mCons (mCall lenM (mCons (mV 0) mNil)) mNil)) (gN 4) (mOpT inM (mV 4) (mV 2)) (mV 4)))))))
def g_named_fields : List PyData → Option PyData := runD ["sizes", "form", "named", "part", "field"] 2 v_named_fields
theorem r_named_fields (x0 : PyData) (x1 : PyData) : g_named_fields [x0, x1] = outD (v_named_fields [.pl x0, .pl x1, .un, .un, .un]) := rfl
def v_tested : SM := (sSeq (sIf (mOpT eqM (mCntT 1 (mCons (mOp2 ixM (mV 1) (M.ret (.int 0))) mNil)) (mCall lenM (mCons (mV 1) mNil))) (sRet (mOp2 ixM (mV 1) (M.ret (.int 0)))) sNil) (sRet (mTup (mCons (M.ret (.str "tree")) (mCons (mV 0) (mCons (mV 1) mNil))))))
def g_tested : List PyData → Option PyData := runD ["field", "branches"] 2 v_tested
theorem r_tested (x0 : PyData) (x1 : PyData) : g_tested [x0, x1] = outD (v_tested [.pl x0, .pl x1]) := rfl
def v_ordered_tree_completing : SM := (sSeq (sSet 3 (mNew (mLc [6] (mSeq (mCall g_answers_completing (mCons (mV 0) (mCons (mV 1) (mCons (mV 2) mNil))))) (gN 6) mYes (mTup (mCons (M.ret (.str "say")) (mCons (mV 6) mNil))))))
  (sSeq (sFor (mSeq (mNew (mRevL (mCall g_unknown_fields (mCons (mV 2) mNil))))) (gN 4)
    (sSeq (sSet 5 (mOp2 ixM (mV 0) (mV 4)))
  (sSet 3 (mNew (mLc [7] (mRng3 (mCons (M.ret (.int 0)) (mCons (mCall lenM (mCons (mV 3) mNil)) (mCons (mV 5) mNil)))) (gN 7) mYes (mTested g_tested (mV 4) (mNew (mSlice (mV 3) (mPart (mV 7)) (mPart (mOp2 addM (mV 7) (mV 5)))))))))))
  (sRet (mOp2 ixM (mV 3) (M.ret (.int 0))))))
def g_ordered_tree_completing : List PyData → Option PyData := runD ["sizes", "form", "half", "trees", "field", "size", "result", "at"] 3 v_ordered_tree_completing
theorem r_ordered_tree_completing (x0 : PyData) (x1 : PyData) (x2 : PyData) : g_ordered_tree_completing [x0, x1, x2] = outD (v_ordered_tree_completing [.pl x0, .pl x1, .pl x2, .un, .un, .un, .un, .un]) := rfl
def v_ordered_tree : SM := (sSeq (sExpr (mCall g_check_small_form (mCons (mV 0) (mCons (mV 1) mNil))))
  (sRet (mCall g_ordered_tree_completing (mCons (mV 0) (mCons (mV 1) (mCons (mNew (mRep (mLst (mCons (M.ret .none) mNil)) (mCall lenM (mCons (mV 0) mNil)))) mNil))))))
def g_ordered_tree : List PyData → Option PyData := runD ["sizes", "form"] 2 v_ordered_tree
theorem r_ordered_tree (x0 : PyData) (x1 : PyData) : g_ordered_tree [x0, x1] = outD (v_ordered_tree [.pl x0, .pl x1]) := rfl
def v_fixed : SM := (sSeq (sExpr (mCall g_check_sizes (mCons (mV 0) mNil)))
  (sSeq (sExpr (mCall g_check_form (mCons (mV 0) (mCons (mV 1) mNil))))
  (sSeq (sExpr (mCall g_check_half (mCons (mV 0) (mCons (mV 2) mNil))))
  (sSeq (sExpr (mCall g_check_small (mCons (mV 0) mNil)))
  (sRet (mCall g_ordered_tree_completing (mCons (mV 0) (mCons (mV 1) (mCons (mV 2) mNil)))))))))
def g_fixed : List PyData → Option PyData := runD ["sizes", "form", "half"] 3 v_fixed
theorem r_fixed (x0 : PyData) (x1 : PyData) (x2 : PyData) : g_fixed [x0, x1, x2] = outD (v_fixed [.pl x0, .pl x1, .pl x2]) := rfl
def v_check_answer : SM := (sIf (mNotT (mTru (mIsi "bool" (mV 0))))
    sNo
    sNil)
def g_check_answer : List PyData → Option PyData := runD ["result"] 1 v_check_answer
theorem r_check_answer (x0 : PyData) : g_check_answer [x0] = outD (v_check_answer [.pl x0]) := rfl
end DL
namespace DL
open PySem PySem.Spec PyProof.Rows L2 Lk
def v_mask_of : SM := (sSeq (sSet 2 (M.ret (.int 0)))
  (sSeq (sFor (mSeq (mV 1)) (gN 3)
    (sSet 2 (mOp2 orM (mV 2) (mOp2 shlM (M.ret (.int 1)) (mOp2 subM (mOp2 subM (mV 0) (M.ret (.int 1))) (mV 3))))))
  (sRet (mV 2))))
def g_mask_of : List PyData → Option PyData := runD ["size", "members", "mask", "member"] 2 v_mask_of
theorem r_mask_of (x0 : PyData) (x1 : PyData) : g_mask_of [x0, x1] = outD (v_mask_of [.pl x0, .pl x1, .un, .un]) := rfl
def v_members_of : SM := (sRet (mNew (mLc [2] (mRng1 (mCons (mV 0) mNil)) (gN 2) (mTru (mOp2 andM (mOp2 shrM (mV 1) (mOp2 subM (mOp2 subM (mV 0) (M.ret (.int 1))) (mV 2))) (M.ret (.int 1)))) (mV 2))))
def g_members_of : List PyData → Option PyData := runD ["size", "mask", "member"] 2 v_members_of
theorem r_members_of (x0 : PyData) (x1 : PyData) : g_members_of [x0, x1] = outD (v_members_of [.pl x0, .pl x1, .un]) := rfl
def v_least_masks : SM := (sSeq (sOwn 1 (mLst mNil))
  (sSeq (sFor (mSeq (mCall g_ascending_numbers (mCons (mV 0) mNil))) (gN 2)
    (sIf (mPeek (mNotT (mTru (mCall anyM (mCons (mNew (mLc [3] (mSeq (mV 1)) (gN 3) mYes (mOp2 eqM (mOp2 andM (mV 3) (mV 2)) (mV 3)))) mNil)))))
    (sApp 1 (mV 2))
    sNil))
  (sFrz 1 (sRet (mV 1)))))
def g_least_masks : List PyData → Option PyData := runD ["masks", "least", "mask", "part"] 1 v_least_masks
theorem r_least_masks (x0 : PyData) : g_least_masks [x0] = outD (v_least_masks [.pl x0, .un, .un, .un]) := rfl
def v_meets_each : SM := (sRet (mCall allM (mCons (mNew (mLc [2] (mSeq (mV 1)) (gN 2) mYes (mOp2 neM (mOp2 andM (mV 0) (mV 2)) (M.ret (.int 0))))) mNil)))
def g_meets_each : List PyData → Option PyData := runD ["mask", "masks", "other"] 2 v_meets_each
theorem r_meets_each (x0 : PyData) (x1 : PyData) : g_meets_each [x0, x1] = outD (v_meets_each [.pl x0, .pl x1, .un]) := rfl
def v_p_tell_holding : SM := (sSeq (sOwn 2 (mRep (mLst (mCons (M.ret (.bool false)) mNil)) (mOp2 shlM (M.ret (.int 1)) (mV 0))))
  (sSeq (sFor (mSeq (mV 1)) (gN 3)
    (sPutIx 2 (mV 3) (M.ret (.bool true))))
  (sSeq (sSet 4 (mNew (mLc [5] (mRng1 (mCons (mV 0) mNil)) (gN 5) mYes (mOp2 shlM (M.ret (.int 1)) (mV 5)))))
  (sSeq (sFor (mRng1 (mCons (mOp2 shlM (M.ret (.int 1)) (mV 0)) mNil)) (gN 3)
    (sIf (mTru (mCall anyM (mCons (mNew (mLc [6] (mSeq (mV 4)) (gN 6) (mTru (mOp2 andM (mV 3) (mV 6))) (mIxO 2 (mOp2 xorM (mV 3) (mV 6))))) mNil)))
    (sPutIx 2 (mV 3) (M.ret (.bool true)))
    sNil))
  (sFrz 2 (sRet (mV 2)))))))
def g_p_tell_holding : List PyData → Option PyData := runD ["size", "masks", "holding", "mask", "bits", "at", "bit"] 2 v_p_tell_holding
theorem r_p_tell_holding (x0 : PyData) (x1 : PyData) : g_p_tell_holding [x0, x1] = outD (v_p_tell_holding [.pl x0, .pl x1, .un, .un, .un, .un, .un]) := rfl
def v_meeting_masks : SM := (sSeq (sSet 2 (mCall g_p_tell_holding (mCons (mV 0) (mCons (mV 1) mNil))))
  (sSeq (sSet 3 (mOp2 subM (mOp2 shlM (M.ret (.int 1)) (mV 0)) (M.ret (.int 1))))
  (sRet (mNew (mLc [4] (mRng1 (mCons (mOp2 shlM (M.ret (.int 1)) (mV 0)) mNil)) (gN 4) (mNotT (mTru (mOp2 ixM (mV 2) (mOp2 subM (mV 3) (mV 4))))) (mV 4))))))
def g_meeting_masks : List PyData → Option PyData := runD ["size", "masks", "holding", "whole", "mask"] 2 v_meeting_masks
theorem r_meeting_masks (x0 : PyData) (x1 : PyData) : g_meeting_masks [x0, x1] = outD (v_meeting_masks [.pl x0, .pl x1, .un, .un, .un]) := rfl
def v_shortest_length : SM := (sRet (mMinDef (mNew (mLc [2] (mSeq (mV 1)) (gN 2) mYes (mCall lenM (mCons (mCall g_members_of (mCons (mV 0) (mCons (mV 2) mNil))) mNil))))))
def g_shortest_length : List PyData → Option PyData := runD ["size", "masks", "mask"] 2 v_shortest_length
theorem r_shortest_length (x0 : PyData) (x1 : PyData) : g_shortest_length [x0, x1] = outD (v_shortest_length [.pl x0, .pl x1, .un]) := rfl
def v_remaining_members : SM := (sSeq (sSet 3 (mOp2 subM (mOp2 shlM (M.ret (.int 1)) (mV 0)) (M.ret (.int 1))))
  (sSeq (sFor (mSeq (mV 1)) (gN 4)
    (sSeq (sSet 5 (mOp2 subM (mV 3) (mCall g_mask_of (mCons (mV 0) (mCons (mNew (mLst (mCons (mV 4) mNil))) mNil)))))
  (sIf (mTru (mCall g_meets_each (mCons (mV 5) (mCons (mV 2) mNil))))
    (sSet 3 (mV 5))
    sNil)))
  (sRet (mCall g_members_of (mCons (mV 0) (mCons (mV 3) mNil))))))
def g_remaining_members : List PyData → Option PyData := runD ["size", "order", "masks", "rest", "member", "fewer"] 3 v_remaining_members
theorem r_remaining_members (x0 : PyData) (x1 : PyData) (x2 : PyData) : g_remaining_members [x0, x1, x2] = outD (v_remaining_members [.pl x0, .pl x1, .pl x2, .un, .un, .un]) := rfl
end DL
namespace DL
open PySem PySem.Spec PyProof.Rows L2 Lk
def v_p_is_set : SM := (sRet (mAndV (mIsi "list" (mV 1)) (mCall g_are_ascending_below (mCons (mV 1) (mCons (mV 0) mNil)))))
def g_p_is_set : List PyData → Option PyData := runD ["size", "value"] 2 v_p_is_set
theorem r_p_is_set (x0 : PyData) (x1 : PyData) : g_p_is_set [x0, x1] = outD (v_p_is_set [.pl x0, .pl x1]) := rfl
def v_p_read_family : SM := (sSeq (sIf (mNotT (mTru (mCall g_is_integer_below (mCons (mV 0) (mCons (mOp2 addM (M.ret (.int 10)) (M.ret (.int 1))) mNil)))))
    sNo
    sNil)
  (sSeq (sIf (mOr (mNotT (mTru (mIsi "list" (mV 1)))) (mOr (mOpT gtM (mCall lenM (mCons (mV 1) mNil)) (M.ret (.int 300))) (mNotT (mTru (mCall allM (mCons (mNew (mLc [2] (mSeq (mV 1)) (gN 2) mYes (mCall g_p_is_set (mCons (mV 0) (mCons (mV 2) mNil))))) mNil))))))
    sNo
    sNil)
  (sRet (mNew (mLc [2] (mSeq (mV 1)) (gN 2) mYes (mCall g_mask_of (mCons (mV 0) (mCons (mV 2) mNil))))))))
def g_p_read_family : List PyData → Option PyData := runD ["size", "family", "part"] 2 v_p_read_family
theorem r_p_read_family (x0 : PyData) (x1 : PyData) : g_p_read_family [x0, x1] = outD (v_p_read_family [.pl x0, .pl x1, .un]) := rfl
def v_p_read_members : SM := (sSeq (sIf (mNotT (mTru (mCall g_p_is_set (mCons (mV 0) (mCons (mV 1) mNil)))))
    sNo
    sNil)
  (sRet (mCall g_mask_of (mCons (mV 0) (mCons (mV 1) mNil)))))
def g_p_read_members : List PyData → Option PyData := runD ["size", "members"] 2 v_p_read_members
theorem r_p_read_members (x0 : PyData) (x1 : PyData) : g_p_read_members [x0, x1] = outD (v_p_read_members [.pl x0, .pl x1]) := rfl
def v_meets_all : SM := (sSeq (sSet 3 (mCall g_p_read_family (mCons (mV 0) (mCons (mV 1) mNil))))
  (sRet (mCall g_meets_each (mCons (mCall g_p_read_members (mCons (mV 0) (mCons (mV 2) mNil))) (mCons (mV 3) mNil)))))
def g_meets_all : List PyData → Option PyData := runD ["size", "family", "members", "masks"] 3 v_meets_all
theorem r_meets_all (x0 : PyData) (x1 : PyData) (x2 : PyData) : g_meets_all [x0, x1, x2] = outD (v_meets_all [.pl x0, .pl x1, .pl x2, .un]) := rfl
def v_count_meeting : SM := (sSeq (sSet 2 (mCall g_p_read_family (mCons (mV 0) (mCons (mV 1) mNil))))
  (sRet (mCall lenM (mCons (mCall g_meeting_masks (mCons (mV 0) (mCons (mV 2) mNil))) mNil))))
def g_count_meeting : List PyData → Option PyData := runD ["size", "family", "masks"] 2 v_count_meeting
theorem r_count_meeting (x0 : PyData) (x1 : PyData) : g_count_meeting [x0, x1] = outD (v_count_meeting [.pl x0, .pl x1, .un]) := rfl
def v_in_some : SM := (sSeq (sSet 2 (mCall g_least_masks (mCons (mCall g_p_read_family (mCons (mV 0) (mCons (mV 1) mNil))) mNil)))
  (sRet (mNew (mLc [3] (mRng1 (mCons (mV 0) mNil)) (gN 3) (mTru (mCall anyI (mCons (mNew (mLc [4] (mSeq (mV 2)) (gN 4) mYes (mOp2 andM (mV 4) (mCall g_mask_of (mCons (mV 0) (mCons (mNew (mLst (mCons (mV 3) mNil))) mNil)))))) mNil))) (mV 3)))))
def g_in_some : List PyData → Option PyData := runD ["size", "family", "masks", "member", "mask"] 2 v_in_some
theorem r_in_some (x0 : PyData) (x1 : PyData) : g_in_some [x0, x1] = outD (v_in_some [.pl x0, .pl x1, .un, .un, .un]) := rfl
def v_in_all : SM := (sSeq (sSet 2 (mCall g_least_masks (mCons (mCall g_p_read_family (mCons (mV 0) (mCons (mV 1) mNil))) mNil)))
  (sRet (mNew (mLc [3] (mRng1 (mCons (mV 0) mNil)) (gN 3) (mTru (mCall allI (mCons (mNew (mLc [4] (mSeq (mV 2)) (gN 4) mYes (mOp2 andM (mV 4) (mCall g_mask_of (mCons (mV 0) (mCons (mNew (mLst (mCons (mV 3) mNil))) mNil)))))) mNil))) (mV 3)))))
def g_in_all : List PyData → Option PyData := runD ["size", "family", "masks", "member", "mask"] 2 v_in_all
theorem r_in_all (x0 : PyData) (x1 : PyData) : g_in_all [x0, x1] = outD (v_in_all [.pl x0, .pl x1, .un, .un, .un]) := rfl
def v_shortest_meeting : SM := (sSeq (sSet 2 (mCall g_p_read_family (mCons (mV 0) (mCons (mV 1) mNil))))
  (sRet (mCall g_shortest_length (mCons (mV 0) (mCons (mCall g_meeting_masks (mCons (mV 0) (mCons (mV 2) mNil))) mNil)))))
def g_shortest_meeting : List PyData → Option PyData := runD ["size", "family", "masks"] 2 v_shortest_meeting
theorem r_shortest_meeting (x0 : PyData) (x1 : PyData) : g_shortest_meeting [x0, x1] = outD (v_shortest_meeting [.pl x0, .pl x1, .un]) := rfl
def v_p_count_apart : SM := (sSeq (sSet 4 (mNew (mLc [2] (mRng1 (mCons (mOp2 addM (mV 0) (M.ret (.int 1))) mNil)) (gN 2) mYes (mNew (mLc [3] (mSeq (mV 1)) (gN 3) (mOpT eqM (mBits (mV 3)) (mV 2)) (mV 3))))))
  (sSeq (sOwn 5 (mLst (mCons (M.ret (.int 0)) mNil)))
  (sSeq (sFor (mRng2 (mCons (M.ret (.int 1)) (mCons (mOp2 shlM (M.ret (.int 1)) (mV 0)) mNil))) (gN 6)
    (sSeq (sSet 2 (mBits (mV 6)))
  (sSeq (sSet 7 (mIxO 5 (mOp2 subM (mV 6) (mOp2 shlM (M.ret (.int 1)) (mOp2 subM (mV 2) (M.ret (.int 1)))))))
  (sSeq (sFor (mSeq (mOp2 ixM (mV 4) (mV 2))) (gN 3)
    (sIf (mAnd (mOpT eqM (mOp2 andM (mV 3) (mV 6)) (mV 3)) (mOpT geM (mIxO 5 (mOp2 subM (mV 6) (mV 3))) (mV 7)))
    (sSet 7 (mOp2 addM (mIxO 5 (mOp2 subM (mV 6) (mV 3))) (M.ret (.int 1))))
    sNil))
  (sApp 5 (mV 7))))))
  (sRet (mIxO 5 (mNeg (M.ret (.int 1))))))))
def g_p_count_apart : List PyData → Option PyData := runD ["size", "masks", "length", "mask", "by_highest", "most", "room", "many"] 2 v_p_count_apart
theorem r_p_count_apart (x0 : PyData) (x1 : PyData) : g_p_count_apart [x0, x1] = outD (v_p_count_apart [.pl x0, .pl x1, .un, .un, .un, .un, .un, .un]) := rfl
def v_apart : SM := (sSeq (sSet 2 (mCall g_p_read_family (mCons (mV 0) (mCons (mV 1) mNil))))
  (sSeq (sSet 3 (mIf (mOpT inM (M.ret (.int 0)) (mV 2)) (M.ret (.int 1)) (M.ret (.int 0))))
  (sRet (mOp2 addM (mV 3) (mCall g_p_count_apart (mCons (mV 0) (mCons (mV 2) mNil)))))))
def g_apart : List PyData → Option PyData := runD ["size", "family", "masks", "alone"] 2 v_apart
theorem r_apart (x0 : PyData) (x1 : PyData) : g_apart [x0, x1] = outD (v_apart [.pl x0, .pl x1, .un, .un]) := rfl
end DL
namespace DL
open PySem PySem.Spec PyProof.Rows L2 Lk
def v_law_cell_e350a : SM := (sSeq (sIf (mOpT ltM (mV 1) (mCall lenM (mCons (mV 0) mNil)))
    (sRet (mCall intM (mCons (mOp2 ixM (mV 0) (mV 1)) mNil)))
    sNil)
  (sRet (M.ret (.int 0))))
def g_law_cell_e350a : List PyData → Option PyData := runD ["script", "k"] 2 v_law_cell_e350a
theorem r_law_cell_e350a (x0 : PyData) (x1 : PyData) : g_law_cell_e350a [x0, x1] = outD (v_law_cell_e350a [.pl x0, .pl x1]) := rfl
def v_law_set_3b7aa : SM := (sRet (mNew (mLc [2] (mRng1 (mCons (mV 1) mNil)) (gN 2) (mOpT eqM (mOp2 andM (mOp2 shrM (mV 0) (mV 2)) (M.ret (.int 1))) (M.ret (.int 1))) (mV 2))))
def g_law_set_3b7aa : List PyData → Option PyData := runD ["bits", "many", "member"] 2 v_law_set_3b7aa
theorem r_law_set_3b7aa (x0 : PyData) (x1 : PyData) : g_law_set_3b7aa [x0, x1] = outD (v_law_set_3b7aa [.pl x0, .pl x1, .un]) := rfl
def v_law_k20 : SM := (sSeq (sSet 1 (mOp2 modM (mCall intM (mCons (mCall g_law_cell_e350a (mCons (mV 0) (mCons (M.ret (.int 0)) mNil))) mNil)) (M.ret (.int 8))))
  (sSeq (sSet 2 (M.ret (.int 41)))
  (sSeq (sIf (mOpT eqM (mOp2 modM (mCall intM (mCons (mOp2 divM (mCall g_law_cell_e350a (mCons (mV 0) (mCons (M.ret (.int 0)) mNil))) (M.ret (.int 8))) mNil)) (M.ret (.int 8))) (M.ret (.int 1)))
    (sSeq (sSet 1 (mOp2 addM (M.ret (.int 8)) (mOp2 modM (mCall intM (mCons (mOp2 divM (mCall g_law_cell_e350a (mCons (mV 0) (mCons (M.ret (.int 0)) mNil))) (M.ret (.int 64))) mNil)) (M.ret (.int 3)))))
  (sSet 2 (M.ret (.int 13))))
    sNil)
  (sSeq (sSet 3 (mNew (mLc [12] (mSeq (mNew (mSlice (mV 0) (mPart (M.ret (.int 1))) (mPart (mV 2))))) (gN 12) mYes (mOp2 modM (mCall intM (mCons (mV 12) mNil)) (mOp2 shlM (M.ret (.int 1)) (mV 1))))))
  (sSeq (sSet 5 (mNew (mLc [4] (mSeq (mV 3)) (gN 4) mYes (mCall g_law_set_3b7aa (mCons (mV 4) (mCons (mV 1) mNil))))))
  (sSeq (sSet 6 (mNew (mLc [13] (mSeq (mV 5)) (gN 13) mYes (mNew (mCallF listM (mCons (mV 13) mNil))))))
  (sSeq (sSet 7 (mNew (mLst (mCons (M.ret (.int 0)) mNil))))
  (sSeq (sSet 8 (mCall intM (mCons (mOp2 inM (M.ret (.int 0)) (mV 3)) mNil)))
  (sSeq (whGo (mOpT neM (mV 7) (mNew (mLst mNil)))
    (sSeq (sSet 9 (mNew (mLst mNil)))
  (sSeq (sFor (mSeq (mV 7)) (gN 4)
    (sSet 9 (mOp2 addM (mV 9) (mNew (mLc [13] (mSeq (mV 3)) (gN 13) (mAnd (mOpT neM (mV 13) (M.ret (.int 0))) (mOpT eqM (mOp2 andM (mV 13) (mV 4)) (M.ret (.int 0)))) (mOp2 orM (mV 4) (mV 13)))))))
  (sSeq (sSet 7 (mNew (mSortU (mNew (mLc [4] (mSeq (mV 9)) (gN 4) mYes (mCall intM (mCons (mV 4) mNil)))))))
  (sSet 8 (mOp2 addM (mV 8) (mCall intM (mCons (mOp2 neM (mV 7) (mNew (mLst mNil))) mNil))))))) WH)
  (sSeq (sSet 10 (mCall g_apart (mCons (mV 1) (mCons (mV 6) mNil))))
  (sSeq (sIf (mOr (mNotT (mTru (mIsi "int" (mV 10)))) (mOr (mTru (mIsi "bool" (mV 10))) (mOr (mOpT neM (mV 10) (mV 8)) (mOpT neM (mV 6) (mV 5)))))
    (sRet (M.ret (.bool false)))
    sNil)
  (sSeq (sSet 11 (mCall g_shortest_meeting (mCons (mV 1) (mCons (mV 6) mNil))))
  (sRet (mOrV (mOp2 isM (mV 11) (M.ret .none)) (mOp2 leM (mV 10) (mV 11))))))))))))))))
def g_law_k20 : List PyData → Option PyData := runD ["script", "size", "most", "rows", "bits", "kept", "passed", "covers", "many", "wider", "found", "short", "cell", "row"] 1 v_law_k20
theorem r_law_k20 (x0 : PyData) : g_law_k20 [x0] = outD (v_law_k20 [.pl x0, .un, .un, .un, .un, .un, .un, .un, .un, .un, .un, .un, .un, .un]) := rfl
end DL
namespace DL
open PySem PySem.Spec PyProof.Rows L2 Lk
def top (i : Nat) : Stmt := PySem.Challenge.pw_leastreasons_k20_sets_apart.main.body.getD i (.Pass ⟨0, 0, 0, 0⟩)
abbrev s_p_tell_holding : Stmt := top 13
theorem sc_p_tell_holding : FnScope ["size", "masks", "holding", "mask", "bits", "at", "bit"] ["size", "masks"] (defScope s_p_tell_holding) := ⟨rfl, rfl, rfl, by decide +kernel, rfl, by decide +kernel, by decide +kernel⟩
theorem f_p_tell_holding {P : Program} {w : World} {K : PySem.W.Frag} {mg : Str → Option Value} {base : Heap} {f : Addr} {fd : FuncData} {k : Nat} (F : Fun K "_tell_holding" "_tell_holding" s_p_tell_holding f fd) (hb : Binds K fd ["size", "masks"] []) (hm : mg "_tell_holding" = some (.ref f))
    (y_any : mg "any" = none)
    (y_range : mg "range" = none) : FnOk P w K mg base CX0 (k + 1) f fd ["size", "masks"] (spD K g_p_tell_holding) := fn_d F sc_p_tell_holding fun cdv A outer s H E hr =>
  (dss_cons (ds_own (i := 2) sc_p_tell_holding.nd rfl (by first | exact Or.inl rfl | exact Or.inr rfl) (xf_rep (xf_lst (xa_cons de_bl xa_nil)) (xe_op opd_shl de_int (de_v 0))))
  (dss_cons (ds_for PassesOwn.never rfl (xi_seq (de_v 1)) (dg_name 3 sc_p_tell_holding.nd rfl (by first | exact Or.inl rfl | exact Or.inr rfl))
    (dss_one (ds_putIx 2 de_bl (de_v 3))))
  (dss_cons (ds_setLc (i := 4) (own := [("at", 5)]) rfl sc_p_tell_holding.nd rfl rfl (sw_true rfl rfl rfl (by decide +kernel)) (xi_range1 (by rfl) y_range (xa_cons (de_v 0) xa_nil)) (blkOk_by (by kernel_rfl)) (fun _ _ _ _ _ => (dg_name 5 sc_p_tell_holding.nd rfl (by first | exact Or.inl rfl | exact Or.inr rfl))) (fun _ _ _ _ _ => dts_nil) (fun _ _ _ _ _ => (xe_op opd_shl de_int (de_v 5))))
  (dss_cons (ds_for PassesOwn.never rfl (xi_range1 (by rfl) y_range (xa_cons (xe_op opd_shl de_int (de_v 0)) xa_nil)) (dg_name 3 sc_p_tell_holding.nd rfl (by first | exact Or.inl rfl | exact Or.inr rfl))
    (dss_one (ds_if (xt_tru (xcB (cd_any rfl) (by rfl) y_any (by decide +kernel) (xa_cons (xe_fr (df_lc (own := [("bit", 6)]) rfl sc_p_tell_holding.nd (xi_seq (de_v 4)) (blkOk_by (by kernel_rfl)) (fun _ _ _ _ _ => (dg_name 6 sc_p_tell_holding.nd rfl (by first | exact Or.inl rfl | exact Or.inr rfl))) (fun _ _ _ _ _ => (dts_one (xt_tru (xe_op opd_and (de_v 3) (de_v 6))))) (fun _ _ _ _ _ => (de_ixO 2 (xe_op opd_xor (de_v 3) (de_v 6)) (fun _ _ => rfl))))) xa_nil)))
    (dss_one (ds_putIx 2 de_bl (de_v 3)))
    dss_nil)))
  (dss_one (ds_frz 2 (ds_ret (de_v 2))))))))
theorem t_p_tell_holding {P : Program} {w : World} {K : PySem.W.Frag} {mg : Str → Option Value} {base : Heap} {f : Addr} {fd : FuncData} {k : Nat} (F : Fun K "_tell_holding" "_tell_holding" s_p_tell_holding f fd) (hb : Binds K fd ["size", "masks"] []) (hm : mg "_tell_holding" = some (.ref f))
    (y_any : mg "any" = none)
    (y_range : mg "range" = none) : Has P w K mg base (k + 1) "_tell_holding" ["size", "masks"] (spD K g_p_tell_holding) := ⟨f, fd, f_p_tell_holding F hb hm y_any y_range, hb, hm, F.kp⟩
abbrev s_meeting_masks : Stmt := top 11
theorem sc_meeting_masks : FnScope ["size", "masks", "holding", "whole", "mask"] ["size", "masks"] (defScope s_meeting_masks) := ⟨rfl, rfl, rfl, by decide +kernel, rfl, by decide +kernel, by decide +kernel⟩
theorem f_meeting_masks {P : Program} {w : World} {K : PySem.W.Frag} {mg : Str → Option Value} {base : Heap} {f : Addr} {fd : FuncData} {k : Nat} (F : Fun K "meeting_masks" "meeting_masks" s_meeting_masks f fd) (hb : Binds K fd ["size", "masks"] []) (hm : mg "meeting_masks" = some (.ref f))
    (y_range : mg "range" = none)
    (G_p_tell_holding : Has P w K mg base k "_tell_holding" ["size", "masks"] (spD K g_p_tell_holding)) : FnOk P w K mg base CX0 (k + 1) f fd ["size", "masks"] (spD K g_meeting_masks) := fn_d F sc_meeting_masks fun cdv A outer s H E hr =>
  (dss_cons (ds_set (i := 2) sc_meeting_masks.nd rfl (by first | exact Or.inl rfl | exact Or.inr rfl) (xc G_p_tell_holding hr (by rfl) (xa_cons (de_v 0) (xa_cons (de_v 1) xa_nil))))
  (dss_cons (ds_set (i := 3) sc_meeting_masks.nd rfl (by first | exact Or.inl rfl | exact Or.inr rfl) (xe_op opd_sub (xe_op opd_shl de_int (de_v 0)) de_int))
  (dss_one (ds_ret (xe_fr (df_lc (own := [("mask", 4)]) rfl sc_meeting_masks.nd (xi_range1 (by rfl) y_range (xa_cons (xe_op opd_shl de_int (de_v 0)) xa_nil)) (blkOk_by (by kernel_rfl)) (fun _ _ _ _ _ => (dg_name 4 sc_meeting_masks.nd rfl (by first | exact Or.inl rfl | exact Or.inr rfl))) (fun _ _ _ _ _ => (dts_one (xt_not (xt_tru (xe_ix (de_v 2) (xe_op opd_sub (de_v 3) (de_v 4)) (fun _ _ => rfl)))))) (fun _ _ _ _ _ => (de_v 4))))))))
theorem t_meeting_masks {P : Program} {w : World} {K : PySem.W.Frag} {mg : Str → Option Value} {base : Heap} {f : Addr} {fd : FuncData} {k : Nat} (F : Fun K "meeting_masks" "meeting_masks" s_meeting_masks f fd) (hb : Binds K fd ["size", "masks"] []) (hm : mg "meeting_masks" = some (.ref f))
    (y_range : mg "range" = none)
    (G_p_tell_holding : Has P w K mg base k "_tell_holding" ["size", "masks"] (spD K g_p_tell_holding)) : Has P w K mg base (k + 1) "meeting_masks" ["size", "masks"] (spD K g_meeting_masks) := ⟨f, fd, f_meeting_masks F hb hm y_range G_p_tell_holding, hb, hm, F.kp⟩
abbrev s_members_of : Stmt := top 10
theorem sc_members_of : FnScope ["size", "mask", "member"] ["size", "mask"] (defScope s_members_of) := ⟨rfl, rfl, rfl, by decide +kernel, rfl, by decide +kernel, by decide +kernel⟩
theorem f_members_of {P : Program} {w : World} {K : PySem.W.Frag} {mg : Str → Option Value} {base : Heap} {f : Addr} {fd : FuncData} {k : Nat} (F : Fun K "members_of" "members_of" s_members_of f fd) (hb : Binds K fd ["size", "mask"] []) (hm : mg "members_of" = some (.ref f))
    (y_range : mg "range" = none) : FnOk P w K mg base CX0 (k + 1) f fd ["size", "mask"] (spD K g_members_of) := fn_d F sc_members_of fun cdv A outer s H E hr =>
  (dss_one (ds_ret (xe_fr (df_lc (own := [("member", 2)]) rfl sc_members_of.nd (xi_range1 (by rfl) y_range (xa_cons (de_v 0) xa_nil)) (blkOk_by (by kernel_rfl)) (fun _ _ _ _ _ => (dg_name 2 sc_members_of.nd rfl (by first | exact Or.inl rfl | exact Or.inr rfl))) (fun _ _ _ _ _ => (dts_one (xt_tru (xe_op opd_and (xe_op opd_shr (de_v 1) (xe_op opd_sub (xe_op opd_sub (de_v 0) de_int) (de_v 2))) de_int)))) (fun _ _ _ _ _ => (de_v 2))))))
theorem t_members_of {P : Program} {w : World} {K : PySem.W.Frag} {mg : Str → Option Value} {base : Heap} {f : Addr} {fd : FuncData} {k : Nat} (F : Fun K "members_of" "members_of" s_members_of f fd) (hb : Binds K fd ["size", "mask"] []) (hm : mg "members_of" = some (.ref f))
    (y_range : mg "range" = none) : Has P w K mg base (k + 1) "members_of" ["size", "mask"] (spD K g_members_of) := ⟨f, fd, f_members_of F hb hm y_range, hb, hm, F.kp⟩
abbrev s_shortest_length : Stmt := top 12
theorem sc_shortest_length : FnScope ["size", "masks", "mask"] ["size", "masks"] (defScope s_shortest_length) := ⟨rfl, rfl, rfl, by decide +kernel, rfl, by decide +kernel, by decide +kernel⟩
theorem f_shortest_length {P : Program} {w : World} {K : PySem.W.Frag} {mg : Str → Option Value} {base : Heap} {f : Addr} {fd : FuncData} {k : Nat} (F : Fun K "shortest_length" "shortest_length" s_shortest_length f fd) (hb : Binds K fd ["size", "masks"] []) (hm : mg "shortest_length" = some (.ref f))
    (y_len : mg "len" = none)
    (y_min : mg "min" = none)
    (G_members_of : Has P w K mg base k "members_of" ["size", "mask"] (spD K g_members_of)) : FnOk P w K mg base CX0 (k + 1) f fd ["size", "masks"] (spD K g_shortest_length) := fn_d F sc_shortest_length fun cdv A outer s H E hr =>
  (dss_one (ds_ret (de_minDef hr rfl (by rfl) y_min (xe_fr (df_lc (own := [("mask", 2)]) rfl sc_shortest_length.nd (xi_seq (de_v 1)) (blkOk_by (by kernel_rfl)) (fun _ _ _ _ _ => (dg_name 2 sc_shortest_length.nd rfl (by first | exact Or.inl rfl | exact Or.inr rfl))) (fun _ _ _ _ _ => dts_nil) (fun _ _ _ _ _ => (xcB cd_len (by rfl) y_len (by decide +kernel) (xa_cons (xc G_members_of hr (by rfl) (xa_cons (de_v 0) (xa_cons (de_v 2) xa_nil))) xa_nil))))))))
theorem t_shortest_length {P : Program} {w : World} {K : PySem.W.Frag} {mg : Str → Option Value} {base : Heap} {f : Addr} {fd : FuncData} {k : Nat} (F : Fun K "shortest_length" "shortest_length" s_shortest_length f fd) (hb : Binds K fd ["size", "masks"] []) (hm : mg "shortest_length" = some (.ref f))
    (y_len : mg "len" = none)
    (y_min : mg "min" = none)
    (G_members_of : Has P w K mg base k "members_of" ["size", "mask"] (spD K g_members_of)) : Has P w K mg base (k + 1) "shortest_length" ["size", "masks"] (spD K g_shortest_length) := ⟨f, fd, f_shortest_length F hb hm y_len y_min G_members_of, hb, hm, F.kp⟩
abbrev s_is_integer : Stmt := top 5
theorem sc_is_integer : FnScope ["value"] ["value"] (defScope s_is_integer) := ⟨rfl, rfl, rfl, by decide +kernel, rfl, by decide +kernel, by decide +kernel⟩
theorem f_is_integer {P : Program} {w : World} {K : PySem.W.Frag} {mg : Str → Option Value} {base : Heap} {f : Addr} {fd : FuncData} {k : Nat} (F : Fun K "is_integer" "is_integer" s_is_integer f fd) (hb : Binds K fd ["value"] []) (hm : mg "is_integer" = some (.ref f))
    (y_bool : mg "bool" = none)
    (y_int : mg "int" = none)
    (y_isinstance : mg "isinstance" = none) : FnOk P w K mg base CX0 (k + 1) f fd ["value"] (spD K g_is_integer) := fn_d F sc_is_integer fun cdv A outer s H E hr =>
  (dss_one (ds_ret (de_and (xe_isi (n := "int") (by decide) (by rfl) y_isinstance (by rfl) y_int (by decide +kernel) (de_v 0)) (de_one (xe_not (xe_isi (n := "bool") (by decide) (by rfl) y_isinstance (by rfl) y_bool (by decide +kernel) (de_v 0)))))))
theorem t_is_integer {P : Program} {w : World} {K : PySem.W.Frag} {mg : Str → Option Value} {base : Heap} {f : Addr} {fd : FuncData} {k : Nat} (F : Fun K "is_integer" "is_integer" s_is_integer f fd) (hb : Binds K fd ["value"] []) (hm : mg "is_integer" = some (.ref f))
    (y_bool : mg "bool" = none)
    (y_int : mg "int" = none)
    (y_isinstance : mg "isinstance" = none) : Has P w K mg base (k + 1) "is_integer" ["value"] (spD K g_is_integer) := ⟨f, fd, f_is_integer F hb hm y_bool y_int y_isinstance, hb, hm, F.kp⟩
abbrev s_is_integer_below : Stmt := top 6
theorem sc_is_integer_below : FnScope ["value", "limit"] ["value", "limit"] (defScope s_is_integer_below) := ⟨rfl, rfl, rfl, by decide +kernel, rfl, by decide +kernel, by decide +kernel⟩
theorem f_is_integer_below {P : Program} {w : World} {K : PySem.W.Frag} {mg : Str → Option Value} {base : Heap} {f : Addr} {fd : FuncData} {k : Nat} (F : Fun K "is_integer_below" "is_integer_below" s_is_integer_below f fd) (hb : Binds K fd ["value", "limit"] []) (hm : mg "is_integer_below" = some (.ref f))
    (G_is_integer : Has P w K mg base k "is_integer" ["value"] (spD K g_is_integer)) : FnOk P w K mg base CX0 (k + 1) f fd ["value", "limit"] (spD K g_is_integer_below) := fn_d F sc_is_integer_below fun cdv A outer s H E hr =>
  (dss_one (ds_ret (de_and (xc G_is_integer hr (by rfl) (xa_cons (de_v 0) xa_nil)) (de_one (de_chain opd_le opd_lt de_int (de_v 0) (de_v 1))))))
theorem t_is_integer_below {P : Program} {w : World} {K : PySem.W.Frag} {mg : Str → Option Value} {base : Heap} {f : Addr} {fd : FuncData} {k : Nat} (F : Fun K "is_integer_below" "is_integer_below" s_is_integer_below f fd) (hb : Binds K fd ["value", "limit"] []) (hm : mg "is_integer_below" = some (.ref f))
    (G_is_integer : Has P w K mg base k "is_integer" ["value"] (spD K g_is_integer)) : Has P w K mg base (k + 1) "is_integer_below" ["value", "limit"] (spD K g_is_integer_below) := ⟨f, fd, f_is_integer_below F hb hm G_is_integer, hb, hm, F.kp⟩
abbrev s_mask_of : Stmt := top 9
theorem sc_mask_of : FnScope ["size", "members", "mask", "member"] ["size", "members"] (defScope s_mask_of) := ⟨rfl, rfl, rfl, by decide +kernel, rfl, by decide +kernel, by decide +kernel⟩
theorem f_mask_of {P : Program} {w : World} {K : PySem.W.Frag} {mg : Str → Option Value} {base : Heap} {f : Addr} {fd : FuncData} {k : Nat} (F : Fun K "mask_of" "mask_of" s_mask_of f fd) (hb : Binds K fd ["size", "members"] []) (hm : mg "mask_of" = some (.ref f))
     : FnOk P w K mg base CX0 (k + 1) f fd ["size", "members"] (spD K g_mask_of) := fn_d F sc_mask_of fun cdv A outer s H E hr =>
  (dss_cons (ds_set (i := 2) sc_mask_of.nd rfl (by first | exact Or.inl rfl | exact Or.inr rfl) de_int)
  (dss_cons (ds_for PassesOwn.never rfl (xi_seq (de_v 1)) (dg_name 3 sc_mask_of.nd rfl (by first | exact Or.inl rfl | exact Or.inr rfl))
    (dss_one (ds_set (i := 2) sc_mask_of.nd rfl (by first | exact Or.inl rfl | exact Or.inr rfl) (xe_op opd_or (de_v 2) (xe_op opd_shl de_int (xe_op opd_sub (xe_op opd_sub (de_v 0) de_int) (de_v 3)))))))
  (dss_one (ds_ret (de_v 2)))))
theorem t_mask_of {P : Program} {w : World} {K : PySem.W.Frag} {mg : Str → Option Value} {base : Heap} {f : Addr} {fd : FuncData} {k : Nat} (F : Fun K "mask_of" "mask_of" s_mask_of f fd) (hb : Binds K fd ["size", "members"] []) (hm : mg "mask_of" = some (.ref f))
     : Has P w K mg base (k + 1) "mask_of" ["size", "members"] (spD K g_mask_of) := ⟨f, fd, f_mask_of F hb hm , hb, hm, F.kp⟩
abbrev s_are_ascending_below : Stmt := top 7
theorem sc_are_ascending_below : FnScope ["values", "limit", "least", "value"] ["values", "limit"] (defScope s_are_ascending_below) := ⟨rfl, rfl, rfl, by decide +kernel, rfl, by decide +kernel, by decide +kernel⟩
theorem f_are_ascending_below {P : Program} {w : World} {K : PySem.W.Frag} {mg : Str → Option Value} {base : Heap} {f : Addr} {fd : FuncData} {k : Nat} (F : Fun K "are_ascending_below" "are_ascending_below" s_are_ascending_below f fd) (hb : Binds K fd ["values", "limit"] []) (hm : mg "are_ascending_below" = some (.ref f))
    (G_is_integer_below : Has P w K mg base k "is_integer_below" ["value", "limit"] (spD K g_is_integer_below)) : FnOk P w K mg base CX0 (k + 1) f fd ["values", "limit"] (spD K g_are_ascending_below) := fn_d F sc_are_ascending_below fun cdv A outer s H E hr =>
  (dss_cons (ds_set (i := 2) sc_are_ascending_below.nd rfl (by first | exact Or.inl rfl | exact Or.inr rfl) de_int)
  (dss_cons (ds_for PassesOwn.never rfl (xi_seq (de_v 0)) (dg_name 3 sc_are_ascending_below.nd rfl (by first | exact Or.inl rfl | exact Or.inr rfl))
    (dss_cons (ds_if (DW.pt (dw_or (xt_not (xt_tru (xc G_is_integer_below hr (by rfl) (xa_cons (de_v 3) (xa_cons (de_v 1) xa_nil))))) (dw_or1 (xt_cmp opd_lt (de_v 3) (de_v 2) (nomark _)))))
    (dss_one (ds_ret de_bl))
    dss_nil)
  (dss_one (ds_set (i := 2) sc_are_ascending_below.nd rfl (by first | exact Or.inl rfl | exact Or.inr rfl) (xe_op opd_add (de_v 3) de_int)))))
  (dss_one (ds_ret de_bl))))
theorem t_are_ascending_below {P : Program} {w : World} {K : PySem.W.Frag} {mg : Str → Option Value} {base : Heap} {f : Addr} {fd : FuncData} {k : Nat} (F : Fun K "are_ascending_below" "are_ascending_below" s_are_ascending_below f fd) (hb : Binds K fd ["values", "limit"] []) (hm : mg "are_ascending_below" = some (.ref f))
    (G_is_integer_below : Has P w K mg base k "is_integer_below" ["value", "limit"] (spD K g_is_integer_below)) : Has P w K mg base (k + 1) "are_ascending_below" ["values", "limit"] (spD K g_are_ascending_below) := ⟨f, fd, f_are_ascending_below F hb hm G_is_integer_below, hb, hm, F.kp⟩
abbrev s_p_is_set : Stmt := top 21
theorem sc_p_is_set : FnScope ["size", "value"] ["size", "value"] (defScope s_p_is_set) := ⟨rfl, rfl, rfl, by decide +kernel, rfl, by decide +kernel, by decide +kernel⟩
theorem f_p_is_set {P : Program} {w : World} {K : PySem.W.Frag} {mg : Str → Option Value} {base : Heap} {f : Addr} {fd : FuncData} {k : Nat} (F : Fun K "_is_set" "_is_set" s_p_is_set f fd) (hb : Binds K fd ["size", "value"] []) (hm : mg "_is_set" = some (.ref f))
    (y_isinstance : mg "isinstance" = none)
    (y_list : mg "list" = none)
    (G_are_ascending_below : Has P w K mg base k "are_ascending_below" ["values", "limit"] (spD K g_are_ascending_below)) : FnOk P w K mg base CX0 (k + 1) f fd ["size", "value"] (spD K g_p_is_set) := fn_d F sc_p_is_set fun cdv A outer s H E hr =>
  (dss_one (ds_ret (de_and (xe_isi (n := "list") (by decide) (by rfl) y_isinstance (by rfl) y_list (by decide +kernel) (de_v 1)) (de_one (xc G_are_ascending_below hr (by rfl) (xa_cons (de_v 1) (xa_cons (de_v 0) xa_nil)))))))
theorem t_p_is_set {P : Program} {w : World} {K : PySem.W.Frag} {mg : Str → Option Value} {base : Heap} {f : Addr} {fd : FuncData} {k : Nat} (F : Fun K "_is_set" "_is_set" s_p_is_set f fd) (hb : Binds K fd ["size", "value"] []) (hm : mg "_is_set" = some (.ref f))
    (y_isinstance : mg "isinstance" = none)
    (y_list : mg "list" = none)
    (G_are_ascending_below : Has P w K mg base k "are_ascending_below" ["values", "limit"] (spD K g_are_ascending_below)) : Has P w K mg base (k + 1) "_is_set" ["size", "value"] (spD K g_p_is_set) := ⟨f, fd, f_p_is_set F hb hm y_isinstance y_list G_are_ascending_below, hb, hm, F.kp⟩
abbrev s_p_read_family : Stmt := top 20
theorem sc_p_read_family : FnScope ["size", "family", "part"] ["size", "family"] (defScope s_p_read_family) := ⟨rfl, rfl, rfl, by decide +kernel, rfl, by decide +kernel, by decide +kernel⟩
theorem f_p_read_family {P : Program} {w : World} {K : PySem.W.Frag} {mg : Str → Option Value} {base : Heap} {f : Addr} {fd : FuncData} {k : Nat} (F : Fun K "_read_family" "_read_family" s_p_read_family f fd) (hb : Binds K fd ["size", "family"] []) (hm : mg "_read_family" = some (.ref f))
    (y_all : mg "all" = none)
    (m_GREATEST_SET_SIZE : ∃ t, mg "GREATEST_SET_SIZE" = some (.int 10 t))
    (m_MOST_SETS : ∃ t, mg "MOST_SETS" = some (.int 300 t))
    (y_isinstance : mg "isinstance" = none)
    (y_len : mg "len" = none)
    (y_list : mg "list" = none)
    (G_is_integer_below : Has P w K mg base k "is_integer_below" ["value", "limit"] (spD K g_is_integer_below))
    (G_mask_of : Has P w K mg base k "mask_of" ["size", "members"] (spD K g_mask_of))
    (G_p_is_set : Has P w K mg base k "_is_set" ["size", "value"] (spD K g_p_is_set)) : FnOk P w K mg base CX0 (k + 1) f fd ["size", "family"] (spD K g_p_read_family) := fn_d F sc_p_read_family fun cdv A outer s H E hr =>
  (dss_cons (ds_if (xt_not (xt_tru (xc G_is_integer_below hr (by rfl) (xa_cons (de_v 0) (xa_cons (xe_op opd_add (de_g (v := .int 10) (d := .int 10) (by rfl) m_GREATEST_SET_SIZE.choose_spec ⟨_, rfl⟩ fun _ => .int _) de_int) xa_nil)))))
    (dss_one xs_no)
    dss_nil)
  (dss_cons (ds_if (DW.pt (dw_or (xt_not (xt_tru (xe_isi (n := "list") (by decide) (by rfl) y_isinstance (by rfl) y_list (by decide +kernel) (de_v 1)))) (dw_or (xt_cmp opd_gt (xcB cd_len (by rfl) y_len (by decide +kernel) (xa_cons (de_v 1) xa_nil)) (de_g (v := .int 300) (d := .int 300) (by rfl) m_MOST_SETS.choose_spec ⟨_, rfl⟩ fun _ => .int _) (nomark _)) (dw_or1 (xt_not (xt_tru (xcB (cd_all rfl) (by rfl) y_all (by decide +kernel) (xa_cons (xe_fr (df_lc (own := [("part", 2)]) rfl sc_p_read_family.nd (xi_seq (de_v 1)) (blkOk_by (by kernel_rfl)) (fun _ _ _ _ _ => (dg_name 2 sc_p_read_family.nd rfl (by first | exact Or.inl rfl | exact Or.inr rfl))) (fun _ _ _ _ _ => dts_nil) (fun _ _ _ _ _ => (xc G_p_is_set hr (by rfl) (xa_cons (de_v 0) (xa_cons (de_v 2) xa_nil)))))) xa_nil))))))))
    (dss_one xs_no)
    dss_nil)
  (dss_one (ds_ret (xe_fr (df_lc (own := [("part", 2)]) rfl sc_p_read_family.nd (xi_seq (de_v 1)) (blkOk_by (by kernel_rfl)) (fun _ _ _ _ _ => (dg_name 2 sc_p_read_family.nd rfl (by first | exact Or.inl rfl | exact Or.inr rfl))) (fun _ _ _ _ _ => dts_nil) (fun _ _ _ _ _ => (xc G_mask_of hr (by rfl) (xa_cons (de_v 0) (xa_cons (de_v 2) xa_nil))))))))))
theorem t_p_read_family {P : Program} {w : World} {K : PySem.W.Frag} {mg : Str → Option Value} {base : Heap} {f : Addr} {fd : FuncData} {k : Nat} (F : Fun K "_read_family" "_read_family" s_p_read_family f fd) (hb : Binds K fd ["size", "family"] []) (hm : mg "_read_family" = some (.ref f))
    (y_all : mg "all" = none)
    (m_GREATEST_SET_SIZE : ∃ t, mg "GREATEST_SET_SIZE" = some (.int 10 t))
    (m_MOST_SETS : ∃ t, mg "MOST_SETS" = some (.int 300 t))
    (y_isinstance : mg "isinstance" = none)
    (y_len : mg "len" = none)
    (y_list : mg "list" = none)
    (G_is_integer_below : Has P w K mg base k "is_integer_below" ["value", "limit"] (spD K g_is_integer_below))
    (G_mask_of : Has P w K mg base k "mask_of" ["size", "members"] (spD K g_mask_of))
    (G_p_is_set : Has P w K mg base k "_is_set" ["size", "value"] (spD K g_p_is_set)) : Has P w K mg base (k + 1) "_read_family" ["size", "family"] (spD K g_p_read_family) := ⟨f, fd, f_p_read_family F hb hm y_all m_GREATEST_SET_SIZE m_MOST_SETS y_isinstance y_len y_list G_is_integer_below G_mask_of G_p_is_set, hb, hm, F.kp⟩
abbrev s_shortest_meeting : Stmt := top 17
theorem sc_shortest_meeting : FnScope ["size", "family", "masks"] ["size", "family"] (defScope s_shortest_meeting) := ⟨rfl, rfl, rfl, by decide +kernel, rfl, by decide +kernel, by decide +kernel⟩
theorem f_shortest_meeting {P : Program} {w : World} {K : PySem.W.Frag} {mg : Str → Option Value} {base : Heap} {f : Addr} {fd : FuncData} {k : Nat} (F : Fun K "shortest_meeting" "shortest_meeting" s_shortest_meeting f fd) (hb : Binds K fd ["size", "family"] []) (hm : mg "shortest_meeting" = some (.ref f))
    (G_meeting_masks : Has P w K mg base k "meeting_masks" ["size", "masks"] (spD K g_meeting_masks))
    (G_shortest_length : Has P w K mg base k "shortest_length" ["size", "masks"] (spD K g_shortest_length))
    (G_p_read_family : Has P w K mg base k "_read_family" ["size", "family"] (spD K g_p_read_family)) : FnOk P w K mg base CX0 (k + 1) f fd ["size", "family"] (spD K g_shortest_meeting) := fn_d F sc_shortest_meeting fun cdv A outer s H E hr =>
  (dss_cons (ds_set (i := 2) sc_shortest_meeting.nd rfl (by first | exact Or.inl rfl | exact Or.inr rfl) (xc G_p_read_family hr (by rfl) (xa_cons (de_v 0) (xa_cons (de_v 1) xa_nil))))
  (dss_one (ds_ret (xc G_shortest_length hr (by rfl) (xa_cons (de_v 0) (xa_cons (xc G_meeting_masks hr (by rfl) (xa_cons (de_v 0) (xa_cons (de_v 2) xa_nil))) xa_nil))))))
theorem t_shortest_meeting {P : Program} {w : World} {K : PySem.W.Frag} {mg : Str → Option Value} {base : Heap} {f : Addr} {fd : FuncData} {k : Nat} (F : Fun K "shortest_meeting" "shortest_meeting" s_shortest_meeting f fd) (hb : Binds K fd ["size", "family"] []) (hm : mg "shortest_meeting" = some (.ref f))
    (G_meeting_masks : Has P w K mg base k "meeting_masks" ["size", "masks"] (spD K g_meeting_masks))
    (G_shortest_length : Has P w K mg base k "shortest_length" ["size", "masks"] (spD K g_shortest_length))
    (G_p_read_family : Has P w K mg base k "_read_family" ["size", "family"] (spD K g_p_read_family)) : Has P w K mg base (k + 1) "shortest_meeting" ["size", "family"] (spD K g_shortest_meeting) := ⟨f, fd, f_shortest_meeting F hb hm G_meeting_masks G_shortest_length G_p_read_family, hb, hm, F.kp⟩
abbrev s_p_count_apart : Stmt := top 19
theorem sc_p_count_apart : FnScope ["size", "masks", "length", "mask", "by_highest", "most", "room", "many"] ["size", "masks"] (defScope s_p_count_apart) := ⟨rfl, rfl, rfl, by decide +kernel, rfl, by decide +kernel, by decide +kernel⟩
theorem f_p_count_apart {P : Program} {w : World} {K : PySem.W.Frag} {mg : Str → Option Value} {base : Heap} {f : Addr} {fd : FuncData} {k : Nat} (F : Fun K "_count_apart" "_count_apart" s_p_count_apart f fd) (hb : Binds K fd ["size", "masks"] []) (hm : mg "_count_apart" = some (.ref f))
    (y_range : mg "range" = none) : FnOk P w K mg base CX0 (k + 1) f fd ["size", "masks"] (spD K g_p_count_apart) := fn_d F sc_p_count_apart fun cdv A outer s H E hr =>
  (dss_cons (ds_setLc (i := 4) (own := [("length", 2)]) rfl sc_p_count_apart.nd rfl rfl (sw_true rfl rfl rfl (by decide +kernel)) (xi_range1 (by rfl) y_range (xa_cons (xe_op opd_add (de_v 0) de_int) xa_nil)) (blkOk_by (by kernel_rfl)) (fun _ _ _ _ _ => (dg_name 2 sc_p_count_apart.nd rfl (by first | exact Or.inl rfl | exact Or.inr rfl))) (fun _ _ _ _ _ => dts_nil) (fun _ _ _ _ _ => (xe_fr (df_lc (own := [("mask", 3)]) rfl sc_p_count_apart.nd (xi_seq (de_v 1)) (blkOk_by (by kernel_rfl)) (fun _ _ _ _ _ => (dg_name 3 sc_p_count_apart.nd rfl (by first | exact Or.inl rfl | exact Or.inr rfl))) (fun _ _ _ _ _ => (dts_one (xt_cmp (opd_eq hr) (de_bits (de_v 3)) (de_v 2) (nomark _)))) (fun _ _ _ _ _ => (de_v 3))))))
  (dss_cons (ds_own (i := 5) sc_p_count_apart.nd rfl (by first | exact Or.inl rfl | exact Or.inr rfl) (xf_lst (xa_cons de_int xa_nil)))
  (dss_cons (ds_for PassesOwn.never rfl (xi_range2 (by rfl) y_range (xa_cons de_int (xa_cons (xe_op opd_shl de_int (de_v 0)) xa_nil))) (dg_name 6 sc_p_count_apart.nd rfl (by first | exact Or.inl rfl | exact Or.inr rfl))
    (dss_cons (ds_set (i := 2) sc_p_count_apart.nd rfl (by first | exact Or.inl rfl | exact Or.inr rfl) (de_bits (de_v 6)))
  (dss_cons (ds_set (i := 7) sc_p_count_apart.nd rfl (by first | exact Or.inl rfl | exact Or.inr rfl) (de_ixO 5 (xe_op opd_sub (de_v 6) (xe_op opd_shl de_int (xe_op opd_sub (de_v 2) de_int))) (fun _ _ => rfl)))
  (dss_cons (ds_for PassesOwn.never rfl (xi_seq (xe_ix (de_v 4) (de_v 2) (fun _ _ => rfl))) (dg_name 3 sc_p_count_apart.nd rfl (by first | exact Or.inl rfl | exact Or.inr rfl))
    (dss_one (ds_if (DW.pt (dw_and (xt_cmp (opd_eq hr) (xe_op opd_and (de_v 3) (de_v 6)) (de_v 3) (nomark _)) (dw_and1 (xt_cmp opd_ge (de_ixO 5 (xe_op opd_sub (de_v 6) (de_v 3)) (fun _ _ => rfl)) (de_v 7) (nomark _)))))
    (dss_one (ds_set (i := 7) sc_p_count_apart.nd rfl (by first | exact Or.inl rfl | exact Or.inr rfl) (xe_op opd_add (de_ixO 5 (xe_op opd_sub (de_v 6) (de_v 3)) (fun _ _ => rfl)) de_int)))
    dss_nil)))
  (dss_one (ds_app 5 (te := _) (fun _ _ _ _ h => h) (ps_expr (pe_bm PySem.F.plainAttrs_list PySem.F.slot_list_append PySem.F.type_list_append mt_append (pv 5) (pa_cons ((show DE _ _ _ _ _ from (de_v 7)).pe rfl) pa_nil)))))))))
  (dss_one (ds_ret (de_ixO 5 (xe_neg de_int) (fun _ _ => rfl)))))))
theorem t_p_count_apart {P : Program} {w : World} {K : PySem.W.Frag} {mg : Str → Option Value} {base : Heap} {f : Addr} {fd : FuncData} {k : Nat} (F : Fun K "_count_apart" "_count_apart" s_p_count_apart f fd) (hb : Binds K fd ["size", "masks"] []) (hm : mg "_count_apart" = some (.ref f))
    (y_range : mg "range" = none) : Has P w K mg base (k + 1) "_count_apart" ["size", "masks"] (spD K g_p_count_apart) := ⟨f, fd, f_p_count_apart F hb hm y_range, hb, hm, F.kp⟩
abbrev s_apart : Stmt := top 18
theorem sc_apart : FnScope ["size", "family", "masks", "alone"] ["size", "family"] (defScope s_apart) := ⟨rfl, rfl, rfl, by decide +kernel, rfl, by decide +kernel, by decide +kernel⟩
theorem f_apart {P : Program} {w : World} {K : PySem.W.Frag} {mg : Str → Option Value} {base : Heap} {f : Addr} {fd : FuncData} {k : Nat} (F : Fun K "apart" "apart" s_apart f fd) (hb : Binds K fd ["size", "family"] []) (hm : mg "apart" = some (.ref f))
    (G_p_count_apart : Has P w K mg base k "_count_apart" ["size", "masks"] (spD K g_p_count_apart))
    (G_p_read_family : Has P w K mg base k "_read_family" ["size", "family"] (spD K g_p_read_family)) : FnOk P w K mg base CX0 (k + 1) f fd ["size", "family"] (spD K g_apart) := fn_d F sc_apart fun cdv A outer s H E hr =>
  (dss_cons (ds_set (i := 2) sc_apart.nd rfl (by first | exact Or.inl rfl | exact Or.inr rfl) (xc G_p_read_family hr (by rfl) (xa_cons (de_v 0) (xa_cons (de_v 1) xa_nil))))
  (dss_cons (ds_set (i := 3) sc_apart.nd rfl (by first | exact Or.inl rfl | exact Or.inr rfl) (de_if (xt_cmp (opd_in hr) de_int (de_v 2) (by rfl)) de_int de_int))
  (dss_one (ds_ret (xe_op opd_add (de_v 3) (xc G_p_count_apart hr (by rfl) (xa_cons (de_v 0) (xa_cons (de_v 2) xa_nil))))))))
theorem t_apart {P : Program} {w : World} {K : PySem.W.Frag} {mg : Str → Option Value} {base : Heap} {f : Addr} {fd : FuncData} {k : Nat} (F : Fun K "apart" "apart" s_apart f fd) (hb : Binds K fd ["size", "family"] []) (hm : mg "apart" = some (.ref f))
    (G_p_count_apart : Has P w K mg base k "_count_apart" ["size", "masks"] (spD K g_p_count_apart))
    (G_p_read_family : Has P w K mg base k "_read_family" ["size", "family"] (spD K g_p_read_family)) : Has P w K mg base (k + 1) "apart" ["size", "family"] (spD K g_apart) := ⟨f, fd, f_apart F hb hm G_p_count_apart G_p_read_family, hb, hm, F.kp⟩
abbrev s_law_cell_e350a : Stmt := top 23
theorem sc_law_cell_e350a : FnScope ["script", "k"] ["script", "k"] (defScope s_law_cell_e350a) := ⟨rfl, rfl, rfl, by decide +kernel, rfl, by decide +kernel, by decide +kernel⟩
theorem f_law_cell_e350a {P : Program} {w : World} {K : PySem.W.Frag} {mg : Str → Option Value} {base : Heap} {f : Addr} {fd : FuncData} {k : Nat} (F : Fun K "_law_cell" "_law_cell" s_law_cell_e350a f fd) (hb : Binds K fd ["script", "k"] []) (hm : mg "_law_cell" = some (.ref f))
    (y_int : mg "int" = none)
    (y_len : mg "len" = none) : FnOk P w K mg base CX0 (k + 1) f fd ["script", "k"] (spD K g_law_cell_e350a) := fn_d F sc_law_cell_e350a fun cdv A outer s H E hr =>
  (dss_cons (ds_if (xt_cmp opd_lt (de_v 1) (xcB cd_len (by rfl) y_len (by decide +kernel) (xa_cons (de_v 0) xa_nil)) (nomark _))
    (dss_one (ds_ret (xcT cd_int (by rfl) y_int (by decide +kernel) (xa_cons (xe_ix (de_v 0) (de_v 1) (fun _ _ => rfl)) xa_nil))))
    dss_nil)
  (dss_one (ds_ret de_int)))
theorem t_law_cell_e350a {P : Program} {w : World} {K : PySem.W.Frag} {mg : Str → Option Value} {base : Heap} {f : Addr} {fd : FuncData} {k : Nat} (F : Fun K "_law_cell" "_law_cell" s_law_cell_e350a f fd) (hb : Binds K fd ["script", "k"] []) (hm : mg "_law_cell" = some (.ref f))
    (y_int : mg "int" = none)
    (y_len : mg "len" = none) : Has P w K mg base (k + 1) "_law_cell" ["script", "k"] (spD K g_law_cell_e350a) := ⟨f, fd, f_law_cell_e350a F hb hm y_int y_len, hb, hm, F.kp⟩
abbrev s_law_set_3b7aa : Stmt := top 24
theorem sc_law_set_3b7aa : FnScope ["bits", "many", "member"] ["bits", "many"] (defScope s_law_set_3b7aa) := ⟨rfl, rfl, rfl, by decide +kernel, rfl, by decide +kernel, by decide +kernel⟩
theorem f_law_set_3b7aa {P : Program} {w : World} {K : PySem.W.Frag} {mg : Str → Option Value} {base : Heap} {f : Addr} {fd : FuncData} {k : Nat} (F : Fun K "_law_set" "_law_set" s_law_set_3b7aa f fd) (hb : Binds K fd ["bits", "many"] []) (hm : mg "_law_set" = some (.ref f))
    (y_range : mg "range" = none) : FnOk P w K mg base CX0 (k + 1) f fd ["bits", "many"] (spD K g_law_set_3b7aa) := fn_d F sc_law_set_3b7aa fun cdv A outer s H E hr =>
  (dss_one (ds_ret (xe_fr (df_lc (own := [("member", 2)]) rfl sc_law_set_3b7aa.nd (xi_range1 (by rfl) y_range (xa_cons (de_v 1) xa_nil)) (blkOk_by (by kernel_rfl)) (fun _ _ _ _ _ => (dg_name 2 sc_law_set_3b7aa.nd rfl (by first | exact Or.inl rfl | exact Or.inr rfl))) (fun _ _ _ _ _ => (dts_one (xt_cmp (opd_eq hr) (xe_op opd_and (xe_op opd_shr (de_v 0) (de_v 2)) de_int) de_int (nomark _)))) (fun _ _ _ _ _ => (de_v 2))))))
theorem t_law_set_3b7aa {P : Program} {w : World} {K : PySem.W.Frag} {mg : Str → Option Value} {base : Heap} {f : Addr} {fd : FuncData} {k : Nat} (F : Fun K "_law_set" "_law_set" s_law_set_3b7aa f fd) (hb : Binds K fd ["bits", "many"] []) (hm : mg "_law_set" = some (.ref f))
    (y_range : mg "range" = none) : Has P w K mg base (k + 1) "_law_set" ["bits", "many"] (spD K g_law_set_3b7aa) := ⟨f, fd, f_law_set_3b7aa F hb hm y_range, hb, hm, F.kp⟩
abbrev s_law_k20 : Stmt := top 25
theorem sc_law_k20 : FnScope ["script", "size", "most", "rows", "bits", "kept", "passed", "covers", "many", "wider", "found", "short", "cell", "row"] ["script"] (defScope s_law_k20) := ⟨rfl, rfl, rfl, by decide +kernel, rfl, by decide +kernel, by decide +kernel⟩
theorem f_law_k20 {P : Program} {w : World} {K : PySem.W.Frag} {mg : Str → Option Value} {base : Heap} {f : Addr} {fd : FuncData} {k : Nat} (F : Fun K "law" "law" s_law_k20 f fd) (hb : Binds K fd ["script"] []) (hm : mg "law" = some (.ref f))
    (y_bool : mg "bool" = none)
    (y_int : mg "int" = none)
    (y_isinstance : mg "isinstance" = none)
    (y_list : mg "list" = none)
    (y_set : mg "set" = none)
    (y_sorted : mg "sorted" = none)
    (G_shortest_meeting : Has P w K mg base k "shortest_meeting" ["size", "family"] (spD K g_shortest_meeting))
    (G_apart : Has P w K mg base k "apart" ["size", "family"] (spD K g_apart))
    (G_law_cell_e350a : Has P w K mg base k "_law_cell" ["script", "k"] (spD K g_law_cell_e350a))
    (G_law_set_3b7aa : Has P w K mg base k "_law_set" ["bits", "many"] (spD K g_law_set_3b7aa)) : FnOk P w K mg base CX0 (k + 1) f fd ["script"] (spD K g_law_k20) := fn_d F sc_law_k20 fun cdv A outer s H E hr =>
  (dss_cons (ds_set (i := 1) sc_law_k20.nd rfl (by first | exact Or.inl rfl | exact Or.inr rfl) (xe_op opd_mod (xcT cd_int (by rfl) y_int (by decide +kernel) (xa_cons (xc G_law_cell_e350a hr (by rfl) (xa_cons (de_v 0) (xa_cons de_int xa_nil))) xa_nil)) de_int))
  (dss_cons (ds_set (i := 2) sc_law_k20.nd rfl (by first | exact Or.inl rfl | exact Or.inr rfl) de_int)
  (dss_cons (ds_if (xt_cmp (opd_eq hr) (xe_op opd_mod (xcT cd_int (by rfl) y_int (by decide +kernel) (xa_cons (xe_op opd_div (xc G_law_cell_e350a hr (by rfl) (xa_cons (de_v 0) (xa_cons de_int xa_nil))) de_int) xa_nil)) de_int) de_int (nomark _))
    (dss_cons (ds_set (i := 1) sc_law_k20.nd rfl (by first | exact Or.inl rfl | exact Or.inr rfl) (xe_op opd_add de_int (xe_op opd_mod (xcT cd_int (by rfl) y_int (by decide +kernel) (xa_cons (xe_op opd_div (xc G_law_cell_e350a hr (by rfl) (xa_cons (de_v 0) (xa_cons de_int xa_nil))) de_int) xa_nil)) de_int)))
  (dss_one (ds_set (i := 2) sc_law_k20.nd rfl (by first | exact Or.inl rfl | exact Or.inr rfl) de_int)))
    dss_nil)
  (dss_cons (ds_setLc (i := 3) (own := [("cell", 12)]) rfl sc_law_k20.nd rfl rfl (sw_true rfl rfl rfl (by decide +kernel)) (xi_seq (xe_fr (xf_slice (de_v 0) (xo_some de_int) (xo_some (de_v 2))))) (blkOk_by (by kernel_rfl)) (fun _ _ _ _ _ => (dg_name 12 sc_law_k20.nd rfl (by first | exact Or.inl rfl | exact Or.inr rfl))) (fun _ _ _ _ _ => dts_nil) (fun _ _ _ _ _ => (xe_op opd_mod (xcT cd_int (by rfl) y_int (by decide +kernel) (xa_cons (de_v 12) xa_nil)) (xe_op opd_shl de_int (de_v 1)))))
  (dss_cons (ds_setLc (i := 5) (own := [("bits", 4)]) rfl sc_law_k20.nd rfl rfl (sw_true rfl rfl rfl (by decide +kernel)) (xi_seq (de_v 3)) (blkOk_by (by kernel_rfl)) (fun _ _ _ _ _ => (dg_name 4 sc_law_k20.nd rfl (by first | exact Or.inl rfl | exact Or.inr rfl))) (fun _ _ _ _ _ => dts_nil) (fun _ _ _ _ _ => (xc G_law_set_3b7aa hr (by rfl) (xa_cons (de_v 4) (xa_cons (de_v 1) xa_nil)))))
  (dss_cons (ds_setLc (i := 6) (own := [("row", 13)]) rfl sc_law_k20.nd rfl rfl (sw_true rfl rfl rfl (by decide +kernel)) (xi_seq (de_v 5)) (blkOk_by (by kernel_rfl)) (fun _ _ _ _ _ => (dg_name 13 sc_law_k20.nd rfl (by first | exact Or.inl rfl | exact Or.inr rfl))) (fun _ _ _ _ _ => dts_nil) (fun _ _ _ _ _ => (xe_fr (xcTF cf_list (by rfl) y_list (by decide +kernel) (xa_cons (de_v 13) xa_nil)))))
  (dss_cons (ds_set (i := 7) sc_law_k20.nd rfl (by first | exact Or.inl rfl | exact Or.inr rfl) (xe_fr (xf_lst (xa_cons de_int xa_nil))))
  (dss_cons (ds_set (i := 8) sc_law_k20.nd rfl (by first | exact Or.inl rfl | exact Or.inr rfl) (xcT cd_int (by rfl) y_int (by decide +kernel) (xa_cons (xe_cmp (opd_in hr) de_int (de_v 3) (by rfl)) xa_nil)))
  (dss_cons (ds_while WH PassesOwn.never (xt_cmp (opd_ne hr) (de_v 7) (xe_fr (xf_lst xa_nil)) (nomark _))
    (dss_cons (ds_set (i := 9) sc_law_k20.nd rfl (by first | exact Or.inl rfl | exact Or.inr rfl) (xe_fr (xf_lst xa_nil)))
  (dss_cons (ds_for PassesOwn.never rfl (xi_seq (de_v 7)) (dg_name 4 sc_law_k20.nd rfl (by first | exact Or.inl rfl | exact Or.inr rfl))
    (dss_one (ds_set (i := 9) sc_law_k20.nd rfl (by first | exact Or.inl rfl | exact Or.inr rfl) (xe_op opd_add (de_v 9) (xe_fr (df_lc (own := [("row", 13)]) rfl sc_law_k20.nd (xi_seq (de_v 3)) (blkOk_by (by kernel_rfl)) (fun _ _ _ _ _ => (dg_name 13 sc_law_k20.nd rfl (by first | exact Or.inl rfl | exact Or.inr rfl))) (fun _ _ _ _ _ => (dts_one (DW.pt (dw_and (xt_cmp (opd_ne hr) (de_v 13) de_int (nomark _)) (dw_and1 (xt_cmp (opd_eq hr) (xe_op opd_and (de_v 13) (de_v 4)) de_int (nomark _))))))) (fun _ _ _ _ _ => (xe_op opd_or (de_v 4) (de_v 13)))))))))
  (dss_cons (ds_set (i := 7) sc_law_k20.nd rfl (by first | exact Or.inl rfl | exact Or.inr rfl) (xe_fr (df_sortU rfl (by rfl) y_sorted (by rfl) y_set (xe_fr (df_lc (own := [("bits", 4)]) rfl sc_law_k20.nd (xi_seq (de_v 9)) (blkOk_by (by kernel_rfl)) (fun _ _ _ _ _ => (dg_name 4 sc_law_k20.nd rfl (by first | exact Or.inl rfl | exact Or.inr rfl))) (fun _ _ _ _ _ => dts_nil) (fun _ _ _ _ _ => (xcT cd_int (by rfl) y_int (by decide +kernel) (xa_cons (de_v 4) xa_nil))))))))
  (dss_one (ds_set (i := 8) sc_law_k20.nd rfl (by first | exact Or.inl rfl | exact Or.inr rfl) (xe_op opd_add (de_v 8) (xcT cd_int (by rfl) y_int (by decide +kernel) (xa_cons (xe_cmp (opd_ne hr) (de_v 7) (xe_fr (xf_lst xa_nil)) (nomark _)) xa_nil)))))))))
  (dss_cons (ds_set (i := 10) sc_law_k20.nd rfl (by first | exact Or.inl rfl | exact Or.inr rfl) (xc G_apart hr (by rfl) (xa_cons (de_v 1) (xa_cons (de_v 6) xa_nil))))
  (dss_cons (ds_if (DW.pt (dw_or (xt_not (xt_tru (xe_isi (n := "int") (by decide) (by rfl) y_isinstance (by rfl) y_int (by decide +kernel) (de_v 10)))) (dw_or (xt_tru (xe_isi (n := "bool") (by decide) (by rfl) y_isinstance (by rfl) y_bool (by decide +kernel) (de_v 10))) (dw_or (xt_cmp (opd_ne hr) (de_v 10) (de_v 8) (nomark _)) (dw_or1 (xt_cmp (opd_ne hr) (de_v 6) (de_v 5) (nomark _)))))))
    (dss_one (ds_ret de_bl))
    dss_nil)
  (dss_cons (ds_set (i := 11) sc_law_k20.nd rfl (by first | exact Or.inl rfl | exact Or.inr rfl) (xc G_shortest_meeting hr (by rfl) (xa_cons (de_v 1) (xa_cons (de_v 6) xa_nil))))
  (dss_one (ds_ret (de_or (xe_cmp opd_is (de_v 11) de_non (nomark _)) (de_one (xe_cmp opd_le (de_v 10) (de_v 11) (nomark _))))))))))))))))))
theorem t_law_k20 {P : Program} {w : World} {K : PySem.W.Frag} {mg : Str → Option Value} {base : Heap} {f : Addr} {fd : FuncData} {k : Nat} (F : Fun K "law" "law" s_law_k20 f fd) (hb : Binds K fd ["script"] []) (hm : mg "law" = some (.ref f))
    (y_bool : mg "bool" = none)
    (y_int : mg "int" = none)
    (y_isinstance : mg "isinstance" = none)
    (y_list : mg "list" = none)
    (y_set : mg "set" = none)
    (y_sorted : mg "sorted" = none)
    (G_shortest_meeting : Has P w K mg base k "shortest_meeting" ["size", "family"] (spD K g_shortest_meeting))
    (G_apart : Has P w K mg base k "apart" ["size", "family"] (spD K g_apart))
    (G_law_cell_e350a : Has P w K mg base k "_law_cell" ["script", "k"] (spD K g_law_cell_e350a))
    (G_law_set_3b7aa : Has P w K mg base k "_law_set" ["bits", "many"] (spD K g_law_set_3b7aa)) : Has P w K mg base (k + 1) "law" ["script"] (spD K g_law_k20) := ⟨f, fd, f_law_k20 F hb hm y_bool y_int y_isinstance y_list y_set y_sorted G_shortest_meeting G_apart G_law_cell_e350a G_law_set_3b7aa, hb, hm, F.kp⟩
end DL
namespace Fa
open PySem PySem.Spec PyProof.Rows L2
/-! ## masks: the mathematics -/
theorem nodup_len : ∀ (l D : List Nat), l.Nodup → (∀ x ∈ l, x ∈ D) → l.length ≤ D.length := by
  intro l
  induction l with
  | nil => intro D _ _; exact Nat.zero_le _
  | cons a l ih =>
    intro D hn hs
    have ha : a ∈ D := hs a (List.mem_cons_self ..)
    have hn' := List.nodup_cons.mp hn
    have h1 := ih (D.erase a) hn'.2 fun x hx => by
      have : x ≠ a := fun e => hn'.1 (e ▸ hx)
      exact (List.mem_erase_of_ne this).mpr (hs x (List.mem_cons_of_mem _ hx))
    rw [List.length_erase_of_mem ha] at h1
    have : 0 < D.length := List.length_pos_of_mem ha
    rw [List.length_cons]
    omega
def maskOf (n : Nat) (ms : List Nat) : Nat := ms.foldl (fun a m => a ||| 2 ^ (n - 1 - m)) 0
def lset (n b : Nat) : List Nat := (List.range n).filter b.testBit
def rev (n b : Nat) : Nat := maskOf n (lset n b)
theorem fold_bit (n : Nat) (i : Nat) : ∀ (ms : List Nat) (a : Nat), (ms.foldl (fun a m => a ||| 2 ^ (n - 1 - m)) a).testBit i = (a.testBit i || ms.any fun m => decide (n - 1 - m = i))
  | [], a => by simp
  | m :: ms, a => by
    rw [List.foldl_cons, fold_bit n i ms, Nat.testBit_or, List.any_cons, Nat.testBit_two_pow, Bool.or_assoc]
theorem maskOf_bit (n i : Nat) (ms : List Nat) : (maskOf n ms).testBit i = ms.any fun m => decide (n - 1 - m = i) := by
  unfold maskOf
  rw [fold_bit, Nat.zero_testBit, Bool.false_or]
theorem lset_mem {n b m : Nat} : m ∈ lset n b ↔ m < n ∧ b.testBit m = true := by
  unfold lset
  rw [List.mem_filter, List.mem_range]
theorem rev_bit (n b i : Nat) : (rev n b).testBit i = (decide (i < n) && b.testBit (n - 1 - i)) := by
  unfold rev
  rw [maskOf_bit]
  apply Bool.eq_iff_iff.mpr
  rw [List.any_eq_true, Bool.and_eq_true, decide_eq_true_eq]
  constructor
  · rintro ⟨m, hm, e⟩
    obtain ⟨h1, h2⟩ := lset_mem.mp hm
    have e := of_decide_eq_true e
    have : n - 1 - i = m := by omega
    rw [this]
    exact ⟨by omega, h2⟩
  · rintro ⟨h1, h2⟩
    exact ⟨n - 1 - i, lset_mem.mpr ⟨by omega, h2⟩, decide_eq_true (by omega)⟩
theorem lt_of_bits {n b : Nat} (h : ∀ i, n ≤ i → b.testBit i = false) : b < 2 ^ n := Nat.lt_pow_two_of_testBit b h
theorem bit_lt {n b i : Nat} (h : b < 2 ^ n) (hi : n ≤ i) : b.testBit i = false := Nat.testBit_lt_two_pow (Nat.lt_of_lt_of_le h (Nat.pow_le_pow_right (by decide) hi))
theorem bit_dec {n b i : Nat} (h : b < 2 ^ n) : (decide (i < n) && b.testBit i) = b.testBit i := by
  by_cases e : i < n
  · rw [decide_eq_true e, Bool.true_and]
  · rw [bit_lt h (by omega), Bool.and_false]
theorem rev_lt (n b : Nat) : rev n b < 2 ^ n := lt_of_bits fun i hi => by
  rw [rev_bit, decide_eq_false (by omega), Bool.false_and]
theorem rev_rev {n b : Nat} (h : b < 2 ^ n) : rev n (rev n b) = b := by
  apply Nat.eq_of_testBit_eq
  intro i
  rw [rev_bit, rev_bit]
  by_cases e : i < n
  · rw [decide_eq_true e, decide_eq_true (by omega), Bool.true_and, Bool.true_and]
    congr 1
    omega
  · rw [decide_eq_false e, Bool.false_and, bit_lt h (by omega)]
theorem rev_and (n a b : Nat) : rev n a &&& rev n b = rev n (a &&& b) := by
  apply Nat.eq_of_testBit_eq
  intro i
  rw [Nat.testBit_and, rev_bit, rev_bit, rev_bit, Nat.testBit_and]
  cases decide (i < n) <;> simp
theorem rev_or (n a b : Nat) : rev n a ||| rev n b = rev n (a ||| b) := by
  apply Nat.eq_of_testBit_eq
  intro i
  rw [Nat.testBit_or, rev_bit, rev_bit, rev_bit, Nat.testBit_or]
  cases decide (i < n) <;> simp
theorem rev_zero (n : Nat) : rev n 0 = 0 := by
  apply Nat.eq_of_testBit_eq
  intro i
  rw [rev_bit, Nat.zero_testBit, Nat.zero_testBit, Bool.and_false]
theorem rev_inj {n a b : Nat} (ha : a < 2 ^ n) (hb : b < 2 ^ n) (h : rev n a = rev n b) : a = b := by
  rw [← rev_rev ha, ← rev_rev hb, h]
theorem rev_eq_zero {n b : Nat} (h : b < 2 ^ n) : rev n b = 0 ↔ b = 0 := by
  constructor
  · intro e
    exact rev_inj h (Nat.two_pow_pos n) (by rw [e, rev_zero])
  · rintro rfl
    exact rev_zero n
theorem and_lt {n a b : Nat} (h : a < 2 ^ n) : a &&& b < 2 ^ n := Nat.lt_of_le_of_lt Nat.and_le_left h
/-- the other members -/
theorem comp_bit {n m : Nat} (h : m < 2 ^ n) (i : Nat) : (2 ^ n - 1 - m).testBit i = (decide (i < n) && !m.testBit i) := by
  rw [Nat.sub_sub, Nat.add_comm 1 m]
  exact Nat.testBit_two_pow_sub_succ h i
theorem part_comp {n a m : Nat} (ha : a < 2 ^ n) (hm : m < 2 ^ n) : (a &&& (2 ^ n - 1 - m) = a) ↔ m &&& a = 0 := by
  constructor
  · intro e
    apply Nat.eq_of_testBit_eq
    intro i
    rw [Nat.testBit_and, Nat.zero_testBit]
    have := congrArg (fun z => z.testBit i) e
    simp only [Nat.testBit_and, comp_bit hm] at this
    revert this
    cases a.testBit i <;> cases m.testBit i <;> simp
  · intro e
    apply Nat.eq_of_testBit_eq
    intro i
    rw [Nat.testBit_and, comp_bit hm]
    have := congrArg (fun z => z.testBit i) e
    simp only [Nat.testBit_and, Nat.zero_testBit] at this
    have b := bit_dec (i := i) ha
    revert this b
    cases a.testBit i <;> cases m.testBit i <;> cases decide (i < n) <;> simp
/-- whether one of the masks is part of x -/
def hold (ms : List Nat) (x : Nat) : Bool := ms.any fun a => decide (a &&& x = a)
def meetAll (ms : List Nat) (m : Nat) : Bool := ms.all fun a => decide (m &&& a ≠ 0)
theorem hold_comp {n : Nat} {ms : List Nat} {m : Nat} (h : ∀ a ∈ ms, a < 2 ^ n) (hm : m < 2 ^ n) : (!hold ms (2 ^ n - 1 - m)) = meetAll ms m := by
  unfold hold meetAll
  rw [List.not_any_eq_all_not]
  apply Bool.eq_iff_iff.mpr
  rw [List.all_eq_true, List.all_eq_true]
  constructor
  · intro g a ha
    have := g a ha
    rw [Bool.not_eq_true', decide_eq_false_iff_not, part_comp (h a ha) hm] at this
    exact decide_eq_true this
  · intro g a ha
    have := of_decide_eq_true (g a ha)
    rw [Bool.not_eq_true', decide_eq_false_iff_not, part_comp (h a ha) hm]
    exact this
theorem xor_add : ∀ (a b : Nat), (a ^^^ b) + 2 * (a &&& b) = a + b := by
  intro a
  induction a using Nat.strongRecOn with
  | _ a ih =>
    intro b
    by_cases h : a = 0
    · subst h
      rw [Nat.zero_xor, Nat.zero_and, Nat.mul_zero]
      omega
    · have e := ih (a / 2) (by omega) (b / 2)
      have x1 := Nat.xor_div_two (a := a) (b := b)
      have x2 := Nat.and_div_two (a := a) (b := b)
      have y1 := Nat.xor_mod_two_eq_one (a := a) (b := b)
      have y2 := Nat.and_mod_two_eq_one (a := a) (b := b)
      rw [← x1, ← x2] at e
      omega
/-- one bit less -/
theorem sub_bit {x k : Nat} (h : x.testBit k = true) : x ^^^ 2 ^ k < x ∧ ∀ i, (x ^^^ 2 ^ k).testBit i = (x.testBit i && !decide (k = i)) := by
  have hp := Nat.two_pow_pos k
  have hb : ∀ i, (x ^^^ 2 ^ k).testBit i = (x.testBit i && !decide (k = i)) := fun i => by
    rw [Nat.testBit_xor, Nat.testBit_two_pow]
    by_cases e : k = i
    · subst e
      rw [h, decide_eq_true rfl]
      rfl
    · rw [decide_eq_false e]
      cases x.testBit i <;> rfl
  have e : x &&& 2 ^ k = 2 ^ k := by
    apply Nat.eq_of_testBit_eq
    intro i
    rw [Nat.testBit_and, Nat.testBit_two_pow]
    by_cases e : k = i
    · subst e
      rw [h, decide_eq_true rfl]
      rfl
    · rw [decide_eq_false e, Bool.and_false]
  have s := xor_add x (2 ^ k)
  rw [e] at s
  exact ⟨by omega, hb⟩
theorem hold_step {n : Nat} {ms : List Nat} {x : Nat} (hx : x < 2 ^ n) : hold ms x = (decide (x ∈ ms) || (List.range n).any fun k => x.testBit k && hold ms (x ^^^ 2 ^ k)) := by
  apply Bool.eq_iff_iff.mpr
  unfold hold
  rw [Bool.or_eq_true, List.any_eq_true, List.any_eq_true, decide_eq_true_eq]
  constructor
  · rintro ⟨a, ha, e⟩
    have e := of_decide_eq_true e
    by_cases ax : a = x
    · exact .inl (ax ▸ ha)
    · obtain ⟨k, hk⟩ := Nat.exists_testBit_ne_of_ne ax
      have ek := congrArg (fun z => z.testBit k) e
      simp only [Nat.testBit_and] at ek
      have xk : x.testBit k = true := by
        revert hk ek
        cases a.testBit k <;> cases x.testBit k <;> simp
      have ak : a.testBit k = false := by
        revert hk
        rw [xk]
        cases a.testBit k <;> simp
      have kn : k < n := Decidable.byContradiction fun z => by
        rw [bit_lt hx (by omega)] at xk
        cases xk
      refine .inr ⟨k, List.mem_range.mpr kn, ?_⟩
      rw [xk, Bool.true_and, List.any_eq_true]
      refine ⟨a, ha, decide_eq_true ?_⟩
      apply Nat.eq_of_testBit_eq
      intro i
      rw [Nat.testBit_and, (sub_bit xk).2]
      have ei := congrArg (fun z => z.testBit i) e
      simp only [Nat.testBit_and] at ei
      by_cases ki : k = i
      · subst ki
        rw [ak]
        rfl
      · rw [decide_eq_false ki]
        revert ei
        cases a.testBit i <;> cases x.testBit i <;> simp
  · rintro (h | ⟨k, hk, h⟩)
    · exact ⟨x, h, decide_eq_true (Nat.and_self x)⟩
    · rw [Bool.and_eq_true, List.any_eq_true] at h
      obtain ⟨xk, a, ha, e⟩ := h
      refine ⟨a, ha, decide_eq_true ?_⟩
      have e := of_decide_eq_true e
      apply Nat.eq_of_testBit_eq
      intro i
      rw [Nat.testBit_and]
      have ei := congrArg (fun z => z.testBit i) e
      simp only [Nat.testBit_and, (sub_bit xk).2] at ei
      revert ei
      cases a.testBit i <;> cases x.testBit i <;> simp
/-- counting by the sets turned about -/
theorem count_rev {n : Nat} {p q : Nat → Bool} (h : ∀ m, m < 2 ^ n → p (rev n m) = q m) : ((List.range (2 ^ n)).filter p).length = ((List.range (2 ^ n)).filter q).length := by
  have nd : ∀ (l : List Nat), (∀ x ∈ l, x < 2 ^ n) → l.Nodup → (l.map (rev n)).Nodup := by
    intro l
    induction l with
    | nil => intro _ _; exact List.nodup_nil
    | cons a l ih =>
      intro hl hd
      have hd := List.nodup_cons.mp hd
      rw [List.map_cons, List.nodup_cons]
      refine ⟨fun hm => ?_, ih (fun x hx => hl x (List.mem_cons_of_mem _ hx)) hd.2⟩
      obtain ⟨b, hb, e⟩ := List.mem_map.mp hm
      have := rev_inj (hl b (List.mem_cons_of_mem _ hb)) (hl a (List.mem_cons_self ..)) e
      exact hd.1 (this ▸ hb)
  have rn : (List.range (2 ^ n)).Nodup := List.nodup_range
  apply Nat.le_antisymm
  · have a := nd ((List.range (2 ^ n)).filter p) (fun x hx => List.mem_range.mp (List.mem_filter.mp hx).1) (List.Nodup.sublist List.filter_sublist rn)
    have b := nodup_len _ ((List.range (2 ^ n)).filter q) a fun x hx => by
      obtain ⟨m, hm, rfl⟩ := List.mem_map.mp hx
      obtain ⟨h1, h2⟩ := List.mem_filter.mp hm
      have h1 := List.mem_range.mp h1
      refine List.mem_filter.mpr ⟨List.mem_range.mpr (rev_lt _ _), ?_⟩
      rw [← h _ (rev_lt n m), rev_rev h1]
      exact h2
    rw [List.length_map] at b
    exact b
  · have a := nd ((List.range (2 ^ n)).filter q) (fun x hx => List.mem_range.mp (List.mem_filter.mp hx).1) (List.Nodup.sublist List.filter_sublist rn)
    have b := nodup_len _ ((List.range (2 ^ n)).filter p) a fun x hx => by
      obtain ⟨m, hm, rfl⟩ := List.mem_map.mp hx
      obtain ⟨h1, h2⟩ := List.mem_filter.mp hm
      have h1 := List.mem_range.mp h1
      refine List.mem_filter.mpr ⟨List.mem_range.mpr (rev_lt _ _), ?_⟩
      rw [h _ h1]
      exact h2
    rw [List.length_map] at b
    exact b
end Fa
namespace DL
open PySem PySem.Spec PyProof.Rows L2 Lk
/-! ## reckoning with readings -/
section
variable {α β : Type} {r r' : En} {m : M α} {k : α → M β} {a : α} {d e z : PyData} {ds es : List PyData} {i : Nat} {ma mb mc : M PyData} {ml : M (List PyData)} {mt mu : M Bool}
@[simp] theorem e_bind : M.bind m k r = (match m r with
  | some (.ok a r') => k a r'
  | some (.ex c p) => some (.ex c p)
  | none => none) := rfl
@[simp] theorem e_ret : (M.ret a : M α) r = some (.ok a r) := rfl
@[simp] theorem e_lift_some : (M.lift (some a) : M α) r = some (.ok a r) := rfl
@[simp] theorem e_lift_none : (M.lift none : M α) r = none := rfl
@[simp] theorem e_map {f : α → β} : M.map f m r = M.bind m (fun a => M.ret (f a)) r := rfl
@[simp] theorem e_V : mV i r = (match r[i]? with
  | some (.pl d) => some (.ok d r)
  | _ => none) := rfl
@[simp] theorem e_op2 {g : PyData → PyData → Option PyData} : mOp2 g ma mb r = M.bind ma (fun d => mb.bind fun e => M.lift (g d e)) r := rfl
@[simp] theorem e_opT {g : PyData → PyData → Option PyData} : mOpT g ma mb r = M.bind ma (fun d => mb.bind fun e => M.lift ((g d e).bind asBool)) r := rfl
@[simp] theorem e_cons : mCons ma ml r = M.bind ma (fun d => ml.bind fun ds => M.ret (d :: ds)) r := rfl
@[simp] theorem e_nil : mNil r = some (.ok [] r) := rfl
@[simp] theorem e_call {g : List PyData → Option PyData} : mCall g ml r = M.bind ml (fun ds => M.lift (g ds)) r := rfl
@[simp] theorem e_callK {gD : List PyData → List PyData} {g : List PyData → Option PyData} : mCallK gD g ml r = M.bind ml (fun ds => M.lift (g (gD ds))) r := rfl
@[simp] theorem e_callF {g : List PyData → Option (List PyData)} : mCallF g ml r = M.bind ml (fun ds => M.lift (g ds)) r := rfl
@[simp] theorem e_tup : mTup ml r = M.bind ml (fun ds => M.lift (tupM ds)) r := rfl
@[simp] theorem e_lst : mLst ml r = M.bind ml (fun ds => M.lift (lstM ds)) r := rfl
@[simp] theorem e_new : mNew ml r = M.bind ml (fun ds => M.ret (.list ds)) r := rfl
@[simp] theorem e_val : mVal ma r = M.bind ma (fun d => M.lift (asBool d)) r := rfl
@[simp] theorem e_tru : mTru ma r = M.bind ma (fun d => M.lift (truD d)) r := rfl
@[simp] theorem e_notT : mNotT mt r = M.bind mt (fun b => M.ret (!b)) r := rfl
@[simp] theorem e_notV : mNotV ma r = M.bind ma (fun d => (M.lift (asBool d)).bind fun b => M.ret (.bool (!b))) r := rfl
@[simp] theorem e_isi {n : String} : mIsi n ma r = M.bind ma (fun d => M.ret (.bool (isTy n d))) r := rfl
@[simp] theorem e_neg : mNeg ma r = M.bind ma (fun d => M.lift (negM d)) r := rfl
@[simp] theorem e_seqI : mSeq ma r = M.bind ma (fun d => M.lift (asSeq d)) r := rfl
@[simp] theorem e_rng1 : mRng1 ml r = (match ml r with
  | some (.ok [d] r') => M.lift (rngM [d]) r'
  | some (.ok _ _) => none
  | some (.ex c p) => some (.ex c p)
  | none => none) := by
  unfold mRng1 M.bind
  cases ml r with
  | none => rfl
  | some o =>
    cases o with
    | ex c p => rfl
    | ok ds r' =>
      dsimp only
      match ds with
      | [] => rfl
      | [d] => rw [if_pos (show [d].length = 1 from rfl)]
      | _ :: _ :: _ => rw [if_neg (by simp)]; rfl
@[simp] theorem e_rng2 : mRng2 ml r = (match ml r with
  | some (.ok [d, e] r') => M.lift (rngM [d, e]) r'
  | some (.ok _ _) => none
  | some (.ex c p) => some (.ex c p)
  | none => none) := by
  unfold mRng2 M.bind
  cases ml r with
  | none => rfl
  | some o =>
    cases o with
    | ex c p => rfl
    | ok ds r' =>
      dsimp only
      match ds with
      | [] => rfl
      | [_] => rw [if_neg (by simp)]; rfl
      | [d, e] => rw [if_pos (show [d, e].length = 2 from rfl)]
      | _ :: _ :: _ :: _ => rw [if_neg (by simp)]; rfl
@[simp] theorem e_part : mPart ma r = M.bind ma (fun d => M.lift ((asInt d).map some)) r := rfl
@[simp] theorem e_nopart : mNoPart r = some (.ok none r) := rfl
@[simp] theorem e_slice {mlo mhi : M (Option Int)} : mSlice ma mlo mhi r = M.bind ma (fun d => mlo.bind fun l => mhi.bind fun h => M.lift ((asList d).map fun ds => cutD ds l h)) r := rfl
@[simp] theorem e_star : mStar ma ml r = M.bind ma (fun d => (M.lift (asSeq d)).bind fun xs => ml.bind fun ds => M.ret (xs ++ ds)) r := rfl
@[simp] theorem e_rep : mRep ml mb r = M.bind ml (fun xs => mb.bind fun d => M.lift (repM xs d)) r := rfl
@[simp] theorem e_and : mAnd mt mu r = M.bind mt (fun b => if b then mu else M.ret false) r := rfl
@[simp] theorem e_or : mOr mt mu r = M.bind mt (fun b => if b then M.ret true else mu) r := rfl
@[simp] theorem e_andV : mAndV ma mb r = M.bind ma (fun d => (M.lift (asBool d)).bind fun b => if b then mb else M.ret (.bool false)) r := rfl
@[simp] theorem e_orV : mOrV ma mb r = M.bind ma (fun d => (M.lift (asBool d)).bind fun b => if b then M.ret (.bool true) else mb) r := rfl
@[simp] theorem e_if {m n : M α} : mIf mt m n r = M.bind mt (fun b => if b then m else n) r := rfl
@[simp] theorem e_chain {f g : PyData → PyData → Option PyData} : mChain f g ma mb mc r = M.bind ma (fun d => mb.bind fun e => (M.lift ((f d e).bind asBool)).bind fun k => if k then mc.bind fun h => M.lift ((g e h).bind fun z => (asBool z).map PyData.bool) else M.ret (.bool false)) r := rfl
@[simp] theorem e_mt {T : String} {g : PyData → List PyData → Option PyData} : mMt T g ma ml r = M.bind ma (fun d => if hasT T d then ml.bind fun ds => M.lift (g d ds) else fun _ => none) r := rfl
@[simp] theorem e_lrng1 : mLRng1 ma r = M.bind ma (fun d => M.lift ((asInt d).bind fun n => if n.natAbs ≤ 1000000 then some (rngL 0 n.toNat) else none)) r := rfl
@[simp] theorem e_lenO : mLenO i r = (match ownOf r[i]? with
  | some ds => some (.ok (.int ds.length) r)
  | none => none) := rfl
@[simp] theorem e_ixO : mIxO i ma r = if (ownOf r[i]?).isSome then (ma.bind fun d r => match ownOf r[i]?, asInt d with
  | some ds, some j => (atI ds j).map fun z => .ok z r
  | _, _ => none) r else none := rfl
@[simp] theorem e_truO : mTruO i r = (match ownOf r[i]? with
  | some ds => some (.ok (!ds.isEmpty) r)
  | none => none) := rfl
@[simp] theorem e_pop : mPop i r = (match ownOf r[i]? with
  | some ds => (ds[ds.length - 1]?).map fun z => .ok z (upO i ds.dropLast r)
  | none => none) := rfl
@[simp] theorem e_own_ow : ownOf (some (.ow ds)) = some ds := rfl
@[simp] theorem e_own_io : ownOf (some (.io ds)) = some ds := rfl
@[simp] theorem e_asBool {b : Bool} : asBool (.bool b) = some b := rfl
@[simp] theorem e_asInt {b : Int} : asInt (.int b) = some b := rfl
@[simp] theorem e_asList : asList (.list ds) = some ds := rfl
@[simp] theorem e_asTup : asTup (.tuple ds) = some ds := rfl
@[simp] theorem e_asSeqL : asSeq (.list ds) = some ds := rfl
@[simp] theorem e_asSeqT : asSeq (.tuple ds) = some ds := rfl
@[simp] theorem e_truB {b : Bool} : truD (.bool b) = some b := rfl
@[simp] theorem e_truL : truD (.list ds) = some (!ds.isEmpty) := rfl
@[simp] theorem e_truT : truD (.tuple ds) = some (!ds.isEmpty) := rfl
@[simp] theorem e_addI {a b : Int} : addM (.int a) (.int b) = some (.int (a + b)) := rfl
@[simp] theorem e_subI {a b : Int} : subM (.int a) (.int b) = some (.int (a - b)) := rfl
@[simp] theorem e_ltI {a b : Int} : ltM (.int a) (.int b) = some (.bool (decide (a < b))) := rfl
@[simp] theorem e_leI {a b : Int} : leM (.int a) (.int b) = some (.bool (decide (a ≤ b))) := rfl
@[simp] theorem e_gtI {a b : Int} : gtM (.int a) (.int b) = some (.bool (decide (b < a))) := rfl
@[simp] theorem e_geI {a b : Int} : geM (.int a) (.int b) = some (.bool (decide (b ≤ a))) := rfl
@[simp] theorem e_eqI {a b : Int} : eqM (.int a) (.int b) = some (.bool (a == b)) := rfl
@[simp] theorem e_neI {a b : Int} : neM (.int a) (.int b) = some (.bool (!(a == b))) := rfl
@[simp] theorem e_eqB {a b : Bool} : eqM (.bool a) (.bool b) = some (.bool (a == b)) := rfl
@[simp] theorem e_neB {a b : Bool} : neM (.bool a) (.bool b) = some (.bool (!(a == b))) := rfl
@[simp] theorem e_isN : isM d .none = some (.bool (isNone d)) := rfl
@[simp] theorem e_isNotN : isNotM d .none = some (.bool (!isNone d)) := rfl
@[simp] theorem e_isNone : isNone .none = true := rfl
@[simp] theorem e_isNoneI {a : Int} : isNone (.int a) = false := rfl
@[simp] theorem e_isNoneB {a : Bool} : isNone (.bool a) = false := rfl
@[simp] theorem e_isNoneT : isNone (.tuple ds) = false := rfl
@[simp] theorem e_isNoneL : isNone (.list ds) = false := rfl
@[simp] theorem e_lenL : lenM [.list ds] = some (.int ds.length) := rfl
@[simp] theorem e_lenT : lenM [.tuple ds] = some (.int ds.length) := rfl
@[simp] theorem e_intI {a : Int} : intM [.int a] = some (.int a) := rfl
@[simp] theorem e_intB {b : Bool} : intM [.bool b] = some (.int (if b then 1 else 0)) := rfl
@[simp] theorem e_tupleL : tupleM [.list ds] = some (.tuple ds) := rfl
@[simp] theorem e_tupleT : tupleM [.tuple ds] = some (.tuple ds) := rfl
@[simp] theorem e_listL : listM [.list ds] = some ds := rfl
@[simp] theorem e_listT : listM [.tuple ds] = some ds := rfl
@[simp] theorem e_negI {a : Int} : negM (.int a) = some (.int (-a)) := rfl
@[simp] theorem e_tup0 : tupM [] = some (.tuple []) := rfl
@[simp] theorem e_tup1 : tupM [d] = some (.tuple [d]) := rfl
@[simp] theorem e_tup2 : tupM [d, e] = some (.tuple [d, e]) := rfl
@[simp] theorem e_tup3 : tupM [d, e, z] = some (.tuple [d, e, z]) := rfl
@[simp] theorem e_tup4 {y : PyData} : tupM [d, e, z, y] = some (.tuple [d, e, z, y]) := rfl
@[simp] theorem e_lst0 : lstM [] = some [] := rfl
@[simp] theorem e_lst1 : lstM [d] = some [d] := rfl
@[simp] theorem e_lst2 : lstM [d, e] = some [d, e] := rfl
@[simp] theorem e_lst3 : lstM [d, e, z] = some [d, e, z] := rfl
@[simp] theorem e_ixL {j : Int} : ixM (.list ds) (.int j) = atI ds j := rfl
@[simp] theorem e_ixT {j : Int} : ixM (.tuple ds) (.int j) = atI ds j := rfl
@[simp] theorem e_isTyInt {a : Int} : isTy "int" (.int a) = true := rfl
@[simp] theorem e_isTyIntB {a : Bool} : isTy "int" (.bool a) = true := rfl
@[simp] theorem e_isTyBoolI {a : Int} : isTy "bool" (.int a) = false := rfl
@[simp] theorem e_isTyBool {a : Bool} : isTy "bool" (.bool a) = true := rfl
@[simp] theorem e_isTyList : isTy "list" (.list ds) = true := rfl
@[simp] theorem e_isTyListT : isTy "list" (.tuple ds) = false := rfl
@[simp] theorem e_isTyTuple : isTy "tuple" (.tuple ds) = true := rfl
@[simp] theorem e_isTyStr {x : Str} : isTy "str" (.str x) = true := rfl
@[simp] theorem e_isTyIntN : isTy "int" .none = false := rfl
@[simp] theorem e_isTyBoolN : isTy "bool" .none = false := rfl
@[simp] theorem e_hasTL : hasT "list" (.list ds) = true := rfl
@[simp] theorem e_asBoolMap {b : Bool} : (asBool (.bool b)).map PyData.bool = some (.bool b) := rfl
theorem e_mulI {a b : Int} (ha : a.natAbs < 2 ^ 1000) (hb : b.natAbs < 2 ^ 1000) : mulM (.int a) (.int b) = some (.int (a * b)) := by
  have h1 := PySem.Flt.log2_lt_of (by decide : 0 < 1000) ha
  have h2 := PySem.Flt.log2_lt_of (by decide : 0 < 1000) hb
  show (if _ then _ else _) = _
  rw [if_pos (by omega)]
theorem e_divI {a b : Int} (h : 0 < b) (hb : b.natAbs < 2 ^ 1000) : divM (.int a) (.int b) = some (.int (a / b)) := by
  have h2 := PySem.Flt.log2_lt_of (by decide : 0 < 1000) hb
  show (if _ then _ else _) = _
  rw [if_pos ⟨h, by omega⟩]
theorem e_modI {a b : Int} (h : 0 < b) : modM (.int a) (.int b) = some (.int (a % b)) := by
  show (if _ then _ else _) = _
  rw [if_pos h]
theorem e_shrI {a b : Int} (h : 0 ≤ b) : shrM (.int a) (.int b) = some (.int (a / 2 ^ b.toNat)) := by
  show (if _ then _ else _) = _
  rw [if_pos h]
theorem e_addL (h : ds.length + es.length ≤ 1000000) : addM (.list ds) (.list es) = some (.list (ds ++ es)) := by
  show (if _ then _ else _) = _
  rw [if_pos h]
theorem e_addT (h : ds.length + es.length ≤ 1000000) (hn : ds ≠ []) : addM (.tuple ds) (.tuple es) = some (.tuple (ds ++ es)) := by
  show (if _ then _ else (if _ then _ else _)) = _
  rw [if_neg (by cases ds; exact absurd rfl hn; exact Bool.false_ne_true), if_pos h]
theorem e_at {xs : List α} {j : Nat} {v : α} (h : xs[j]? = some v) : atI xs (j : Int) = some v := atI_nat h
@[simp] theorem e_at0 {x : α} {xs : List α} : atI (x :: xs) 0 = some x := atI_nat (j := 0) rfl
@[simp] theorem e_at1 {x y : α} {xs : List α} : atI (x :: y :: xs) 1 = some y := atI_nat (j := 1) rfl
@[simp] theorem e_at2 {x y w : α} {xs : List α} : atI (x :: y :: w :: xs) 2 = some w := atI_nat (j := 2) rfl
@[simp] theorem e_asum {ns : List Int} : sumM [.list (ns.map PyData.int)] = some (.int ns.sum) := by
  show (intsOf _).map _ = _
  rw [intsOf_map]
  rfl
@[simp] theorem e_all {bs : List Bool} : allM [.list (bs.map PyData.bool)] = some (.bool (bs.all id)) := by
  show (boolsOf _).map _ = _
  rw [boolsOf_map]
  rfl
@[simp] theorem e_any {bs : List Bool} : anyM [.list (bs.map PyData.bool)] = some (.bool (bs.any id)) := by
  show (boolsOf _).map _ = _
  rw [boolsOf_map]
  rfl
end
/-! ### statements -/
section
variable {α : Type} {r r' : En} {m : M α} {k : α → SM} {a b : SM} {mc : M Bool} {ma mb : M PyData} {ml : M (List PyData)} {i j : Nat} {d : PyData} {ds : List PyData}
@[simp] theorem s_bind : sBind m k r = (match m r with
  | some (.ok a r') => k a r'
  | some (.ex c p) => some (.ex c p)
  | none => none) := rfl
@[simp] theorem s_nil : sNil r = some (.nx r) := rfl
@[simp] theorem s_seq : sSeq a b r = (match a r with
  | some (.nx r') => b r'
  | o => o) := rfl
@[simp] theorem s_expr : sExpr ma r = sBind ma (fun _ => sNil) r := rfl
@[simp] theorem s_ret : sRet ma r = sBind ma (fun d r => some (.rt d r)) r := rfl
@[simp] theorem s_retN : sRetN r = some (.rt .none r) := rfl
@[simp] theorem s_if : sIf mc a b r = sBind mc (fun k => if k then a else b) r := rfl
@[simp] theorem s_put : sPut i d r = (match r[i]? with
  | some (.io _) => none
  | some _ => some (.nx (r.set i (.pl d)))
  | none => none) := rfl
@[simp] theorem s_set : sSet i ma r = sBind ma (sPut i) r := rfl
@[simp] theorem s_putO : sPutO i ds r = (match r[i]? with
  | some (.io _) => none
  | some _ => some (.nx (r.set i (.ow ds)))
  | none => none) := rfl
@[simp] theorem s_own : sOwn i ml r = sBind ml (sPutO i) r := rfl
@[simp] theorem s_frz : sFrz i a r = (match r[i]? with
  | some (.ow ds) => a (r.set i (.pl (.list ds)))
  | _ => a r) := rfl
@[simp] theorem s_app : sApp i ma r = if (ownOf r[i]?).isSome then sBind ma (fun d r => match ownOf r[i]? with
  | some ds => if ds.length ≤ 1000000 then some (.nx (upO i (ds ++ [d]) r)) else none
  | none => none) r else none := rfl
@[simp] theorem s_putIx : sPutIx i ma mb r = sBind mb (fun d r1 => if (ownOf r1[i]?).isSome then sBind ma (fun j r => match ownOf r[i]?, asInt j with
  | some ds, some j => (ixN ds.length j).map fun n => .nx (upO i (ds.set n d) r)
  | _, _ => none) r1 else none) r := rfl
@[simp] theorem s_par : sPar i j ml r = sBind ml (fun ds r => match ds with
  | [d, e] => sSeq (sPut i d) (sPut j e) r
  | _ => none) r := rfl
@[simp] theorem s_asg {g : PyData → En → Option En} : sAsg ma g r = sBind ma (fun d r => (g d r).map .nx) r := rfl
@[simp] theorem s_ext : sExt i ma r = if (ownOf r[i]?).isSome then sBind ma (fun d r => match ownOf r[i]?, asTup d with
  | some ds, some es => if ds.length + es.length ≤ 1000000 then some (.nx (upO i (ds ++ es) r)) else none
  | _, _ => none) r else none := rfl
@[simp] theorem s_no : sNo r = none := rfl
@[simp] theorem s_brk : sBrk r = some (.bk r) := rfl
@[simp] theorem s_cont : sCont r = some (.ct r) := rfl
@[simp] theorem s_upO : upO i ds r = (match r[i]? with
  | some c => r.set i (reOwn ds c)
  | none => r) := rfl
@[simp] theorem s_re_ow {es : List PyData} : reOwn ds (.ow es) = .ow ds := rfl
@[simp] theorem s_re_io {es : List PyData} : reOwn ds (.io es) = .io ds := rfl
@[simp] theorem o_rt : outD (some (.rt d r)) = some d := rfl
@[simp] theorem o_nx : outD (some (.nx r)) = some .none := rfl
@[simp] theorem s_gN : gN i d r = (match r[i]? with
  | some c => if c.own then none else some (r.set i (.pl d))
  | none => none) := rfl
@[simp] theorem s_ownU : Cel.own .un = false := rfl
@[simp] theorem s_ownP : Cel.own (.pl d) = false := rfl
@[simp] theorem s_gTup {n : Nat} {g : List PyData → En → Option En} {es : List PyData} : gTupD n g (.tuple es) r = if es.length = n then g es r else none := rfl
@[simp] theorem s_gCons {g : PyData → En → Option En} {h : List PyData → En → Option En} {es : List PyData} : gConsD g h (d :: es) r = (g d r).bind (h es) := rfl
@[simp] theorem s_gNil : gNilD [] r = some r := rfl
@[simp] theorem s_wipe0 : wipeE r [] = r := rfl
@[simp] theorem s_wipeS {vs : List Nat} : wipeE r (i :: vs) = (wipeE r vs).set i .un := rfl
end
/-! ## comprehensions -/
theorem restE_wipe {r : En} : ∀ {vs : List Nat} {r' : En}, r'.length = r.length → (∀ j, j ∉ vs → r'[j]? = r[j]?) → restE r r' vs = r
  | [], r', hl, h => List.ext_getElem? fun j => h j (by simp)
  | v :: vs, r', hl, h => by
    show (restE r (r'.set v .un) vs).set v ((r[v]?).getD .un) = r
    by_cases hv : v < r.length
    · have e : r[v]? = some r[v] := List.getElem?_eq_getElem hv
      -- the slot v first restored, then the others
      have key : ∀ {vs : List Nat} {r' : En}, r'.length = r.length → (∀ j, j ∉ vs → j ≠ v → r'[j]? = r[j]?) → (restE r r' vs).set v r[v] = r := by
        intro vs
        induction vs with
        | nil =>
          intro r' hl h
          show r'.set v r[v] = r
          refine List.ext_getElem? fun j => ?_
          by_cases z : v = j
          · subst z
            rw [List.getElem?_set_self (by omega), e]
          · rw [List.getElem?_set_ne z]
            exact h j (by simp) (Ne.symm z)
        | cons w ws ih =>
          intro r' hl h
          show ((restE r (r'.set w .un) ws).set w ((r[w]?).getD .un)).set v r[v] = r
          have step : (restE r (r'.set w .un) ws).set v r[v] = r ∨ w ∉ ws := by
            by_cases hw : w ∈ ws
            · exact .inl (ih (by rw [List.length_set]; exact hl) fun j hj hjv => by
                rw [List.getElem?_set_ne fun z => hj (by rw [← z]; exact hw)]
                exact h j (by
                  rw [List.mem_cons, not_or]
                  exact ⟨fun z => hj (by rw [z]; exact hw), hj⟩) hjv)
            · exact .inr hw
          have lenR : ∀ {vs : List Nat} {r' : En}, (restE r r' vs).length = r'.length := by
            intro vs
            induction vs with
            | nil => intro r'; rfl
            | cons a l ih => intro r'; show ((restE r (r'.set a .un) l).set a _).length = _; rw [List.length_set, ih, List.length_set]
          have outR : ∀ {vs : List Nat} {r' : En} {j : Nat}, j ∉ vs → (restE r r' vs)[j]? = r'[j]? := by
            intro vs
            induction vs with
            | nil => intro r' j _; rfl
            | cons a l ih =>
              intro r' j hj
              rw [List.mem_cons, not_or] at hj
              show ((restE r (r'.set a .un) l).set a _)[j]? = _
              rw [List.getElem?_set_ne (Ne.symm hj.1), ih hj.2, List.getElem?_set_ne (Ne.symm hj.1)]
          have inR : ∀ {vs : List Nat} {r' : En} {j : Nat}, r'.length = r.length → j ∈ vs → (restE r r' vs)[j]? = r[j]? := by
            intro vs
            induction vs with
            | nil => intro r' j _ hj; cases hj
            | cons a l ih =>
              intro r' j hl hj
              show ((restE r (r'.set a .un) l).set a ((r[a]?).getD .un))[j]? = _
              by_cases z : a = j
              · subst z
                by_cases hb : a < r.length
                · rw [List.getElem?_set_self (by rw [lenR, List.length_set, hl]; exact hb), List.getElem?_eq_getElem hb]
                  rfl
                · rw [List.getElem?_eq_none (by rw [List.length_set, lenR, List.length_set, hl]; omega), List.getElem?_eq_none (by omega)]
              · rw [List.getElem?_set_ne z]
                exact ih (by rw [List.length_set]; exact hl) ((List.mem_cons.mp hj).resolve_left (Ne.symm z))
          refine List.ext_getElem? fun j => ?_
          by_cases z : v = j
          · subst z
            rw [List.getElem?_set_self (by rw [List.length_set, lenR, List.length_set, hl]; exact hv), e]
          · rw [List.getElem?_set_ne z]
            by_cases hj : j ∈ w :: ws
            · exact inR (vs := w :: ws) hl hj
            · show (restE r r' (w :: ws))[j]? = _
              rw [outR hj]
              exact h j hj (Ne.symm z)
      rw [e]
      exact key (by rw [List.length_set]; exact hl) fun j hj hjv => by
        rw [List.getElem?_set_ne (Ne.symm hjv)]
        exact h j (by rw [List.mem_cons, not_or]; exact ⟨hjv, hj⟩)
    · rw [List.set_eq_of_length_le]
      · have hv' : r'.set v .un = r' := List.set_eq_of_length_le (by omega)
        rw [hv']
        refine restE_wipe hl fun j hj => ?_
        by_cases z : j = v
        · subst z
          rw [List.getElem?_eq_none (by omega), List.getElem?_eq_none (by omega)]
        · exact h j (by rw [List.mem_cons, not_or]; exact ⟨z, hj⟩)
      · have lenR : ∀ {vs : List Nat} {r' : En}, (restE r r' vs).length = r'.length := by
          intro vs
          induction vs with
          | nil => intro r'; rfl
          | cons a l ih => intro r'; show ((restE r (r'.set a .un) l).set a _).length = _; rw [List.length_set, ih, List.length_set]
        rw [lenR, List.length_set]
        omega
theorem wipeE_length {r : En} : ∀ {vs : List Nat}, (wipeE r vs).length = r.length
  | [] => rfl
  | v :: vs => by rw [s_wipeS, List.length_set, wipeE_length]
theorem wipeE_out {r : En} {j : Nat} : ∀ {vs : List Nat}, j ∉ vs → (wipeE r vs)[j]? = r[j]?
  | [], _ => rfl
  | v :: vs, h => by
    rw [List.mem_cons, not_or] at h
    rw [s_wipeS, List.getElem?_set_ne (Ne.symm h.1), wipeE_out h.2]
theorem lcGo_pure {vs : List Nat} {g : PyData → En → Option En} {mt : M Bool} {me : M PyData} {p : PyData → Bool} {f : PyData → PyData} {e : PyData → En} : ∀ {items : List PyData} {r : En}, (∀ x ∈ items, g x (wipeE r vs) = some (e x)) → (∀ x ∈ items, wipeE (e x) vs = wipeE r vs) →
    (∀ x ∈ items, mt (e x) = some (.ok (p x) (e x))) → (∀ x ∈ items, p x = true → me (e x) = some (.ok (f x) (e x))) → lcGo vs g mt me items r = some ((items.filter p).map f, wipeE r vs)
  | [], _, _, _, _, _ => rfl
  | x :: xs, r, hg, hw, ht, he => by
    have h1 := hg x (List.mem_cons_self ..)
    have h2 := ht x (List.mem_cons_self ..)
    have h3 := hw x (List.mem_cons_self ..)
    have ih := lcGo_pure (vs := vs) (g := g) (mt := mt) (me := me) (p := p) (f := f) (e := e) (items := xs) (r := e x) (fun y hy => by rw [h3]; exact hg y (List.mem_cons_of_mem _ hy)) (fun y hy => by rw [h3]; exact hw y (List.mem_cons_of_mem _ hy))
      (fun y hy => ht y (List.mem_cons_of_mem _ hy)) fun y hy => he y (List.mem_cons_of_mem _ hy)
    show (g x (wipeE r vs)).bind _ = _
    rw [h1]
    show (match mt (e x) with
      | some (.ok true r2) => (match me r2 with
        | some (.ok d r3) => (lcGo vs g mt me xs r3).map fun (z : List PyData × En) => (d :: z.1, z.2)
        | _ => none)
      | some (.ok false r2) => lcGo vs g mt me xs r2
      | _ => none) = _
    rw [h2]
    cases hp : p x with
    | false =>
      show lcGo vs g mt me xs (e x) = _
      rw [ih, h3, List.filter_cons, if_neg (by rw [hp]; exact Bool.false_ne_true)]
    | true =>
      have h4 := he x (List.mem_cons_self ..) hp
      show (match me (e x) with
        | some (.ok d r3) => (lcGo vs g mt me xs r3).map fun (z : List PyData × En) => (d :: z.1, z.2)
        | _ => none) = _
      rw [h4]
      show (lcGo vs g mt me xs (e x)).map (fun (z : List PyData × En) => (f x :: z.1, z.2)) = _
      rw [ih, h3, List.filter_cons, if_pos hp]
      rfl
/-- [f x for x in items if p x], the names as they were -/
theorem lc_pure {vs : List Nat} {mi : M (List PyData)} {g : PyData → En → Option En} {mt : M Bool} {me : M PyData} {r0 r : En} {items : List PyData} (p : PyData → Bool) (f : PyData → PyData) (e : PyData → En) (hi : mi r0 = some (.ok items r)) (hf : freeAt r vs = true) (hl : items.length ≤ 1000000)
    (hg : ∀ x ∈ items, g x (wipeE r vs) = some (e x)) (hw : ∀ x ∈ items, wipeE (e x) vs = wipeE r vs) (ht : ∀ x ∈ items, mt (e x) = some (.ok (p x) (e x))) (he : ∀ x ∈ items, p x = true → me (e x) = some (.ok (f x) (e x))) :
    mLc vs mi g mt me r0 = some (.ok ((items.filter p).map f) r) := by
  unfold mLc M.bind
  rw [hi]
  dsimp only
  rw [hf, decide_eq_true hl, lcGo_pure hg hw ht he]
  show some (Out.ok _ (restE r (wipeE r vs) vs)) = _
  rw [restE_wipe wipeE_length fun j hj => wipeE_out hj]
theorem filter_true {α : Type} {l : List α} : l.filter (fun _ => true) = l := List.filter_eq_self.mpr fun _ _ => rfl
theorem lc_map {vs : List Nat} {mi : M (List PyData)} {g : PyData → En → Option En} {me : M PyData} {r0 r : En} {items : List PyData} (f : PyData → PyData) (e : PyData → En) (hi : mi r0 = some (.ok items r)) (hf : freeAt r vs = true) (hl : items.length ≤ 1000000)
    (hg : ∀ x ∈ items, g x (wipeE r vs) = some (e x)) (hw : ∀ x ∈ items, wipeE (e x) vs = wipeE r vs) (he : ∀ x ∈ items, me (e x) = some (.ok (f x) (e x))) :
    mLc vs mi g mYes me r0 = some (.ok (items.map f) r) := by
  have := lc_pure (vs := vs) (mi := mi) (g := g) (mt := mYes) (me := me) (fun _ => true) f e hi hf hl hg hw (fun _ _ => rfl) fun x hx _ => he x hx
  rw [filter_true] at this
  exact this
/-! ## loops -/
theorem forGo_nil {g : PyData → En → Option En} {b : SM} {r : En} : forGo g b [] r = some (.nx r) := rfl
theorem forGo_cons {g : PyData → En → Option En} {b : SM} {r : En} {x : PyData} {xs : List PyData} : forGo g b (x :: xs) r = (g x r).bind fun r1 => match b r1 with
    | some (.nx r2) => forGo g b xs r2
    | some (.ct r2) => forGo g b xs r2
    | some (.bk r2) => some (.nx r2)
    | o => o := rfl
/-- a loop without a way out: a state that is carried along -/
theorem forGo_fold {β : Type} {g : PyData → En → Option En} {b : SM} (enc : β → En) (step : β → PyData → β) (I : β → List PyData → Prop) : ∀ {items : List PyData} {s : β}, I s items → (∀ s x xs, I s (x :: xs) → ∃ r1, g x (enc s) = some r1 ∧ b r1 = some (.nx (enc (step s x))) ∧ I (step s x) xs) →
    forGo g b items (enc s) = some (.nx (enc (items.foldl step s)))
  | [], _, _, _ => rfl
  | x :: xs, s, h0, h => by
    obtain ⟨r1, h1, h2, h3⟩ := h s x xs h0
    rw [forGo_cons, h1]
    show (match b r1 with
      | some (.nx r2) => forGo g b xs r2
      | some (.ct r2) => forGo g b xs r2
      | some (.bk r2) => some (.nx r2)
      | o => o) = _
    rw [h2]
    exact forGo_fold enc step I h3 h
/-- a loop by an invariant: what it leaves, or what it returns -/
theorem forGo_inv {g : PyData → En → Option En} {b : SM} (I : List PyData → En → Prop) (Q : Option Fl → Prop) : ∀ {items : List PyData} {r : En}, I items r → (∀ r, I [] r → Q (some (.nx r))) →
    (∀ x xs r, I (x :: xs) r → ∃ r1, g x r = some r1 ∧ ((∃ r2, (b r1 = some (.nx r2) ∨ b r1 = some (.ct r2)) ∧ I xs r2) ∨ (∃ r2, b r1 = some (.bk r2) ∧ Q (some (.nx r2))) ∨ ∃ d r2, b r1 = some (.rt d r2) ∧ Q (some (.rt d r2)))) → Q (forGo g b items r)
  | [], r, h0, hn, _ => hn r h0
  | x :: xs, r, h0, hn, h => by
    obtain ⟨r1, h1, h2⟩ := h x xs r h0
    rw [forGo_cons, h1]
    show Q (match b r1 with
      | some (.nx r2) => forGo g b xs r2
      | some (.ct r2) => forGo g b xs r2
      | some (.bk r2) => some (.nx r2)
      | o => o)
    rcases h2 with ⟨r2, h2 | h2, h3⟩ | ⟨r2, h2, h3⟩ | ⟨d, r2, h2, h3⟩
    · rw [h2]; exact forGo_inv I Q h3 hn h
    · rw [h2]; exact forGo_inv I Q h3 hn h
    · rw [h2]; exact h3
    · rw [h2]; exact h3
theorem whGo_step {c : M Bool} {b : SM} {n : Nat} {r r1 : En} {k : Bool} (h : c r = some (.ok k r1)) : whGo c b (n + 1) r = if k then (match b r1 with
    | some (.nx r2) => whGo c b n r2
    | some (.ct r2) => whGo c b n r2
    | some (.bk r2) => some (.nx r2)
    | o => o) else some (.nx r1) := by
  rw [whGo, sBind, h]
  cases k <;> rfl
@[simp] theorem s_for {mi : M (List PyData)} {g : PyData → En → Option En} {b : SM} {r : En} : sFor mi g b r = sBind mi (fun items => forGo g b items) r := rfl
end DL
namespace DL
open PySem PySem.Spec PyProof.Rows L2 Lk
/-! ## the same over lists of anything -/
section
variable {α β : Type} {vs : List Nat} {mi : M (List PyData)} {g : PyData → En → Option En} {mt : M Bool} {me : M PyData} {r0 r : En}
theorem lcGo_m {f : α → PyData} {p : α → Bool} {F : α → PyData} {e : α → En} : ∀ {xs : List α} {r : En}, (∀ x ∈ xs, g (f x) (wipeE r vs) = some (e x)) → (∀ x ∈ xs, wipeE (e x) vs = wipeE r vs) →
    (∀ x ∈ xs, mt (e x) = some (.ok (p x) (e x))) → (∀ x ∈ xs, p x = true → me (e x) = some (.ok (F x) (e x))) → lcGo vs g mt me (xs.map f) r = some ((xs.filter p).map F, wipeE r vs)
  | [], _, _, _, _, _ => rfl
  | x :: xs, r, hg, hw, ht, he => by
    have h1 := hg x (List.mem_cons_self ..)
    have h2 := ht x (List.mem_cons_self ..)
    have h3 := hw x (List.mem_cons_self ..)
    have ih := lcGo_m (f := f) (p := p) (F := F) (e := e) (xs := xs) (r := e x) (fun y hy => by rw [h3]; exact hg y (List.mem_cons_of_mem _ hy)) (fun y hy => by rw [h3]; exact hw y (List.mem_cons_of_mem _ hy))
      (fun y hy => ht y (List.mem_cons_of_mem _ hy)) fun y hy => he y (List.mem_cons_of_mem _ hy)
    rw [List.map_cons, lcGo, h1]
    dsimp only [Option.bind]
    rw [h2]
    cases hp : p x with
    | false =>
      dsimp only
      rw [ih, h3, List.filter_cons, if_neg (by rw [hp]; exact Bool.false_ne_true)]
    | true =>
      have h4 := he x (List.mem_cons_self ..) hp
      dsimp only
      rw [h4]
      dsimp only
      rw [ih, h3, List.filter_cons, if_pos hp]
      rfl
/-- [F x for x in xs if p x], the names as they were -/
theorem lc_m (f : α → PyData) (p : α → Bool) (F : α → PyData) (e : α → En) {xs : List α} (hi : mi r0 = some (.ok (xs.map f) r)) (hf : freeAt r vs = true) (hl : xs.length ≤ 1000000)
    (hg : ∀ x ∈ xs, g (f x) (wipeE r vs) = some (e x)) (hw : ∀ x ∈ xs, wipeE (e x) vs = wipeE r vs) (ht : ∀ x ∈ xs, mt (e x) = some (.ok (p x) (e x))) (he : ∀ x ∈ xs, p x = true → me (e x) = some (.ok (F x) (e x))) :
    mLc vs mi g mt me r0 = some (.ok ((xs.filter p).map F) r) := by
  unfold mLc M.bind
  rw [hi]
  dsimp only
  rw [hf, decide_eq_true (by rw [List.length_map]; exact hl), lcGo_m hg hw ht he]
  show some (Out.ok _ (restE r (wipeE r vs) vs)) = _
  rw [restE_wipe wipeE_length fun j hj => wipeE_out hj]
/-- [F x for x in xs] -/
theorem lc_y (f : α → PyData) (F : α → PyData) (e : α → En) {xs : List α} (hi : mi r0 = some (.ok (xs.map f) r)) (hf : freeAt r vs = true) (hl : xs.length ≤ 1000000)
    (hg : ∀ x ∈ xs, g (f x) (wipeE r vs) = some (e x)) (hw : ∀ x ∈ xs, wipeE (e x) vs = wipeE r vs) (he : ∀ x ∈ xs, me (e x) = some (.ok (F x) (e x))) :
    mLc vs mi g mYes me r0 = some (.ok (xs.map F) r) := by
  have := lc_m (mt := mYes) f (fun _ => true) F e hi hf hl hg hw (fun _ _ => rfl) fun x hx _ => he x hx
  rw [filter_true] at this
  exact this
theorem for_m {b : SM} (f : α → PyData) (enc : β → En) (step : β → α → β) (I : β → List α → Prop) : ∀ {xs : List α} {s : β}, I s xs → (∀ s x xs, I s (x :: xs) → ∃ r1, g (f x) (enc s) = some r1 ∧ (b r1 = some (.nx (enc (step s x))) ∨ b r1 = some (.ct (enc (step s x)))) ∧ I (step s x) xs) →
    forGo g b (xs.map f) (enc s) = some (.nx (enc (xs.foldl step s)))
  | [], _, _, _ => rfl
  | x :: xs, s, h0, h => by
    obtain ⟨r1, h1, h2, h3⟩ := h s x xs h0
    rw [List.map_cons, forGo_cons, h1]
    dsimp only [Option.bind]
    rcases h2 with h2 | h2
    · rw [h2]
      exact for_m f enc step I h3 h
    · rw [h2]
      exact for_m f enc step I h3 h
/-- for x in xs: if p x: return F x -/
theorem for_find {b : SM} (f : α → PyData) (enc : Option α → En) (p : α → Bool) (F : α → PyData) : ∀ {xs : List α} {o : Option α}, (∀ o, ∀ x ∈ xs, ∃ r1 r2, g (f x) (enc o) = some r1 ∧ b r1 = if p x then some (.rt (F x) r2) else some (.nx (enc (some x)))) →
    ∃ r2, forGo g b (xs.map f) (enc o) = match xs.find? p with
      | some x => some (.rt (F x) r2)
      | none => some (.nx r2)
  | [], o, _ => ⟨_, rfl⟩
  | x :: xs, o, h => by
    obtain ⟨r1, r2, h1, h2⟩ := h o x (List.mem_cons_self ..)
    rw [List.map_cons, forGo_cons, h1]
    dsimp only [Option.bind]
    cases hp : p x with
    | true =>
      rw [hp, if_pos rfl] at h2
      rw [h2, List.find?_cons, hp]
      exact ⟨r2, rfl⟩
    | false =>
      rw [hp, if_neg Bool.false_ne_true] at h2
      rw [h2, List.find?_cons, hp]
      exact for_find f enc p F (xs := xs) (o := some x) fun o y hy => h o y (List.mem_cons_of_mem _ hy)
end
/-! ## comprehensions of two clauses: [F x y for x in xs for y in ys x] -/
theorem lc2Go_m {α β : Type} {vs vs1 : List Nat} {g g1 : PyData → En → Option En} {mt mt1 : M Bool} {mi1 : M (List PyData)} {me : M PyData} {f : α → PyData} {f1 : β → PyData} {ys : α → List β} {F : α → β → PyData} {e : α → En} {e1 : α → β → En} {p : α → Bool} {p1 : α → β → Bool} : ∀ {xs : List α} {r : En},
    (∀ x ∈ xs, g (f x) (wipeE r vs) = some (e x)) → (∀ x ∈ xs, mt (e x) = some (.ok (p x) (e x))) → (∀ x ∈ xs, p x = true → mi1 (e x) = some (.ok ((ys x).map f1) (e x))) →
    (∀ x ∈ xs, p x = true → ∀ y ∈ ys x, g1 (f1 y) (wipeE (e x) vs1) = some (e1 x y)) → (∀ x ∈ xs, p x = true → ∀ y ∈ ys x, wipeE (e1 x y) vs1 = wipeE (e x) vs1) → (∀ x ∈ xs, p x = true → ∀ y ∈ ys x, mt1 (e1 x y) = some (.ok (p1 x y) (e1 x y))) →
    (∀ x ∈ xs, p x = true → ∀ y ∈ ys x, p1 x y = true → me (e1 x y) = some (.ok (F x y) (e1 x y))) → (∀ x ∈ xs, wipeE (e x) vs = wipeE r vs) → (∀ x ∈ xs, wipeE (wipeE (e x) vs1) vs = wipeE r vs) →
    lc2Go vs vs1 g mt mi1 g1 mt1 me (xs.map f) r = some ((xs.filter p).flatMap (fun x => ((ys x).filter (p1 x)).map (F x)), wipeE r vs)
  | [], _, _, _, _, _, _, _, _, _, _ => rfl
  | x :: xs, r, h1, h2, h3, h4, h5, h6, h7, h8, h9 => by
    have m0 : x ∈ x :: xs := List.mem_cons_self ..
    rw [List.map_cons, lc2Go, h1 x m0]
    dsimp only [Option.bind]
    rw [h2 x m0]
    cases hp : p x with
    | false =>
      dsimp only
      have ih := lc2Go_m (vs := vs) (vs1 := vs1) (g := g) (g1 := g1) (mt := mt) (mt1 := mt1) (mi1 := mi1) (me := me) (f := f) (f1 := f1) (ys := ys) (F := F) (e := e) (e1 := e1) (p := p) (p1 := p1) (xs := xs) (r := e x)
        (fun y hy => by rw [h8 x m0]; exact h1 y (List.mem_cons_of_mem _ hy)) (fun y hy => h2 y (List.mem_cons_of_mem _ hy)) (fun y hy => h3 y (List.mem_cons_of_mem _ hy)) (fun y hy => h4 y (List.mem_cons_of_mem _ hy)) (fun y hy => h5 y (List.mem_cons_of_mem _ hy)) (fun y hy => h6 y (List.mem_cons_of_mem _ hy)) (fun y hy => h7 y (List.mem_cons_of_mem _ hy))
        (fun y hy => by rw [h8 x m0]; exact h8 y (List.mem_cons_of_mem _ hy)) fun y hy => by rw [h8 x m0]; exact h9 y (List.mem_cons_of_mem _ hy)
      rw [ih, h8 x m0, List.filter_cons, if_neg (by rw [hp]; exact Bool.false_ne_true)]
    | true =>
      dsimp only
      rw [h3 x m0 hp]
      dsimp only
      rw [lcGo_m (h4 x m0 hp) (h5 x m0 hp) (h6 x m0 hp) (h7 x m0 hp)]
      dsimp only
      have w := h9 x m0
      have ih := lc2Go_m (vs := vs) (vs1 := vs1) (g := g) (g1 := g1) (mt := mt) (mt1 := mt1) (mi1 := mi1) (me := me) (f := f) (f1 := f1) (ys := ys) (F := F) (e := e) (e1 := e1) (p := p) (p1 := p1) (xs := xs) (r := wipeE (e x) vs1)
        (fun y hy => by rw [w]; exact h1 y (List.mem_cons_of_mem _ hy)) (fun y hy => h2 y (List.mem_cons_of_mem _ hy)) (fun y hy => h3 y (List.mem_cons_of_mem _ hy)) (fun y hy => h4 y (List.mem_cons_of_mem _ hy)) (fun y hy => h5 y (List.mem_cons_of_mem _ hy)) (fun y hy => h6 y (List.mem_cons_of_mem _ hy)) (fun y hy => h7 y (List.mem_cons_of_mem _ hy))
        (fun y hy => by rw [w]; exact h8 y (List.mem_cons_of_mem _ hy)) fun y hy => by rw [w]; exact h9 y (List.mem_cons_of_mem _ hy)
      rw [ih, w, List.filter_cons, if_pos hp, List.flatMap_cons]
      rfl
theorem lc2_m {α β : Type} {vs vs1 : List Nat} {mi : M (List PyData)} {g g1 : PyData → En → Option En} {mt mt1 : M Bool} {mi1 : M (List PyData)} {me : M PyData} {r0 r : En} (f : α → PyData) (f1 : β → PyData) (ys : α → List β) (p : α → Bool) (p1 : α → β → Bool) (F : α → β → PyData) (e : α → En) (e1 : α → β → En) {xs : List α}
    (hi : mi r0 = some (.ok (xs.map f) r)) (hf : freeAt r vs = true) (hl : ((xs.filter p).flatMap (fun x => ((ys x).filter (p1 x)).map (F x))).length ≤ 1000000)
    (h1 : ∀ x ∈ xs, g (f x) (wipeE r vs) = some (e x)) (h2 : ∀ x ∈ xs, mt (e x) = some (.ok (p x) (e x))) (h3 : ∀ x ∈ xs, p x = true → mi1 (e x) = some (.ok ((ys x).map f1) (e x)))
    (h4 : ∀ x ∈ xs, p x = true → ∀ y ∈ ys x, g1 (f1 y) (wipeE (e x) vs1) = some (e1 x y)) (h5 : ∀ x ∈ xs, p x = true → ∀ y ∈ ys x, wipeE (e1 x y) vs1 = wipeE (e x) vs1) (h6 : ∀ x ∈ xs, p x = true → ∀ y ∈ ys x, mt1 (e1 x y) = some (.ok (p1 x y) (e1 x y)))
    (h7 : ∀ x ∈ xs, p x = true → ∀ y ∈ ys x, p1 x y = true → me (e1 x y) = some (.ok (F x y) (e1 x y))) (h8 : ∀ x ∈ xs, wipeE (e x) vs = wipeE r vs) (h9 : ∀ x ∈ xs, wipeE (wipeE (e x) vs1) vs = wipeE r vs) :
    mLc2 vs vs1 mi g mt mi1 g1 mt1 me r0 = some (.ok ((xs.filter p).flatMap (fun x => ((ys x).filter (p1 x)).map (F x))) r) := by
  unfold mLc2 M.bind
  rw [hi]
  dsimp only
  rw [hf, lc2Go_m h1 h2 h3 h4 h5 h6 h7 h8 h9]
  dsimp only [Option.bind]
  rw [if_pos rfl, if_pos hl, restE_wipe wipeE_length fun j hj => wipeE_out hj]
theorem for_i {α : Type} {g : PyData → En → Option En} {b : SM} (f : α → PyData) (I : List α → En → Prop) : ∀ {xs : List α} {r : En}, I xs r → (∀ x xs r, I (x :: xs) r → ∃ r1 r2, g (f x) r = some r1 ∧ b r1 = some (.nx r2) ∧ I xs r2) →
    ∃ r2, forGo g b (xs.map f) r = some (.nx r2) ∧ I [] r2
  | [], r, h0, _ => ⟨r, rfl, h0⟩
  | x :: xs, r, h0, h => by
    obtain ⟨r1, r2, h1, h2, h3⟩ := h x xs r h0
    rw [List.map_cons, forGo_cons, h1]
    dsimp only [Option.bind]
    rw [h2]
    exact for_i f I h3 h
end DL
namespace DL
open PySem PySem.Spec PyProof.Rows L2 Lk
def nD (n : Nat) : PyData := .int (n : Int)
abbrev nsD (ns : List Nat) : PyData := .list (ns.map nD)
abbrev isD (ns : List Int) : PyData := .list (ns.map PyData.int)
@[simp] theorem e_lt_n {a b : Nat} : ltM (nD a) (nD b) = some (.bool (decide (a < b))) := by
  show some (PyData.bool (decide ((a : Int) < b))) = _
  simp
@[simp] theorem e_eq_n {a b : Nat} : eqM (nD a) (nD b) = some (.bool (a == b)) := by
  show some (PyData.bool ((a : Int) == b)) = _
  have : ((a : Int) == b) = (a == b) := by rw [Bool.eq_iff_iff, beq_iff_eq, beq_iff_eq]; omega
  rw [this]
@[simp] theorem e_ne_n {a b : Nat} : neM (nD a) (nD b) = some (.bool (!(a == b))) := by
  show some (PyData.bool (!((a : Int) == b))) = _
  have : ((a : Int) == b) = (a == b) := by rw [Bool.eq_iff_iff, beq_iff_eq, beq_iff_eq]; omega
  rw [this]
theorem nD0 : PyData.int 0 = nD 0 := rfl
theorem nD_succ (n : Nat) : PyData.int ((n : Int) + 1) = nD (n + 1) := rfl
@[simp] theorem e_isNone_n {a : Nat} : isNone (nD a) = false := rfl
theorem g_is_integer_int (i : Int) : g_is_integer [.int i] = some (.bool true) := by
  rw [r_is_integer]; simp [v_is_integer]
theorem g_is_integer_bool (b : Bool) : g_is_integer [.bool b] = some (.bool false) := by
  rw [r_is_integer]; simp [v_is_integer]
theorem g_is_integer_n (n : Nat) : g_is_integer [nD n] = some (.bool true) := g_is_integer_int _
theorem g_below (i l : Int) : g_is_integer_below [.int i, .int l] = some (.bool (decide (0 ≤ i ∧ i < l))) := by
  rw [r_is_integer_below]
  by_cases h : 0 ≤ i <;> simp [v_is_integer_below, g_is_integer_int, h]
theorem g_below_n (i l : Nat) : g_is_integer_below [nD i, nD l] = some (.bool (decide (i < l))) := by
  have := g_below i l
  simpa [nD] using this
/-! ## ascending -/
def AscFrom : Nat → Nat → List Nat → Prop
  | _, _, [] => True
  | lo, lim, v :: vs => lo ≤ v ∧ v < lim ∧ AscFrom (v + 1) lim vs
theorem g_asc {d : PyData} {vs : List Nat} {lim : Nat} (hd : asSeq d = some (vs.map nD)) (h : AscFrom 0 lim vs) : g_are_ascending_below [d, nD lim] = some (.bool true) := by
  rw [r_are_ascending_below]
  have L := for_m (b := sSeq (sIf (mOr (mNotT (mTru (mCall g_is_integer_below (mCons (mV 3) (mCons (mV 1) mNil))))) (mOpT ltM (mV 3) (mV 2))) (sRet (M.ret (.bool false))) sNil) (sSet 2 (mOp2 addM (mV 3) (M.ret (.int 1)))))
    (g := gN 3) nD (fun (s : Nat × Cel) => [.pl d, .pl (nD lim), .pl (nD s.1), s.2]) (fun s v => (v + 1, .pl (nD v))) (fun s xs => AscFrom s.1 lim xs ∧ s.2.own = false) (xs := vs) (s := (0, .un)) ⟨h, rfl⟩
    (by
      rintro ⟨lo, c⟩ v xs ⟨⟨h1, h2, h3⟩, hc⟩
      have nlt : ¬ v < lo := by omega
      simp only at hc h1
      refine ⟨[.pl d, .pl (nD lim), .pl (nD lo), .pl (nD v)], by simp [hc], .inl ?_, h3, rfl⟩
      simp [g_below_n, h2, nlt]
      rfl)
  simp only [nD0] at *
  simp [v_are_ascending_below, hd, nD0]
  rw [L]
  rfl
/-! ## sheets -/
def Sz (ns : List Nat) : Prop := ns.length ≤ 24 ∧ ∀ n ∈ ns, 2 ≤ n ∧ n ≤ 6
theorem g_is_sizes_ok {ns : List Nat} (h : Sz ns) : g_is_sizes [nsD ns] = some (.bool true) := by
  rw [r_is_sizes]
  have lc := lc_y (vs := [1]) (mi := mSeq (mV 0)) (g := gN 1) (me := mAndV (mCall g_is_integer (mCons (mV 1) mNil)) (mChain leM leM (M.ret (.int 2)) (mV 1) (M.ret (.int 6)))) (r0 := [.pl (nsD ns), .un]) (r := [.pl (nsD ns), .un]) nD (fun _ => .bool true) (fun x => [.pl (nsD ns), .pl (nD x)]) (xs := ns)
    (by simp) (by simp [freeAt]) (by have := h.1; omega) (by simp) (by simp) (by
      intro x hx
      have := h.2 x hx
      have a1 : (2 : Int) ≤ x := by omega
      have a2 : (x : Int) ≤ 6 := by omega
      simp [g_is_integer_int, nD, a1, a2])
  have hl : ¬ (24 : Int) < (ns.length : Int) := by have := h.1; omega
  simp [v_is_sizes, hl, lc]
  have := e_all (bs := ns.map fun _ => true)
  rw [List.map_map] at this
  rw [show (List.map (fun _ => PyData.bool true) ns) = List.map (PyData.bool ∘ fun _ => true) ns from rfl, this]
  simp
theorem g_check_sizes_ok {ns : List Nat} (h : Sz ns) : g_check_sizes [nsD ns] = some .none := by
  rw [r_check_sizes]
  simp [v_check_sizes, g_is_sizes_ok h]
def prod : List Nat → Nat
  | [] => 1
  | n :: ns => n * prod ns
theorem foldl_mul : ∀ (ns : List Nat) (a : Nat), ns.foldl (· * ·) a = a * prod ns
  | [], a => by show a = a * 1; omega
  | n :: ns, a => by
    show ns.foldl (· * ·) (a * n) = _
    rw [foldl_mul ns, prod, Nat.mul_assoc]
theorem prod_le : ∀ {ns : List Nat}, (∀ n ∈ ns, n ≤ 6) → prod ns ≤ 6 ^ ns.length
  | [], _ => by decide
  | n :: ns, h => by
    have h1 := h n (List.mem_cons_self ..)
    have h2 := prod_le (ns := ns) fun m hm => h m (List.mem_cons_of_mem _ hm)
    rw [prod, List.length_cons, Nat.pow_succ, Nat.mul_comm (6 ^ _)]
    exact Nat.mul_le_mul h1 h2
theorem prod_small {ns : List Nat} (h : Sz ns) : prod ns ≤ 6 ^ 24 := Nat.le_trans (prod_le fun n hn => (h.2 n hn).2) (Nat.pow_le_pow_right (by decide) h.1)
theorem prod_pos : ∀ {ns : List Nat}, (∀ n ∈ ns, 0 < n) → 0 < prod ns
  | [], _ => by decide
  | n :: ns, h => Nat.mul_pos (h n (List.mem_cons_self ..)) (prod_pos fun m hm => h m (List.mem_cons_of_mem _ hm))
theorem e_mul_n {a b : Nat} (ha : a < 2 ^ 1000) (hb : b < 2 ^ 1000) : mulM (nD a) (nD b) = some (nD (a * b)) := by
  have := e_mulI (a := a) (b := b) (by simpa using ha) (by simpa using hb)
  unfold nD
  rw [this, Int.natCast_mul]
theorem lt_big {a k : Nat} (h : a ≤ k) (hk : k < 2 ^ 1000 := by decide) : a < 2 ^ 1000 := Nat.lt_of_le_of_lt h hk
theorem g_number_ok {ns : List Nat} (h : Sz ns) : g_number_of_cases [nsD ns] = some (nD (prod ns)) := by
  rw [r_number_of_cases]
  have L := for_m (b := sSet 1 (mOp2 mulM (mV 1) (mV 2))) (g := gN 2) nD (fun (s : Nat × Cel) => [.pl (nsD ns), .pl (nD s.1), s.2]) (fun s v => (s.1 * v, .pl (nD v))) (fun s xs => s.1 * prod xs ≤ 6 ^ 24 ∧ (∀ x ∈ xs, 2 ≤ x ∧ x ≤ 6) ∧ s.2.own = false) (xs := ns) (s := (1, .un))
    ⟨by have := prod_small h; omega, h.2, rfl⟩ (by
      rintro ⟨a, c⟩ v xs ⟨h1, h2, hc⟩
      simp only at hc h1
      have b := h2 v (List.mem_cons_self ..)
      have pp : 0 < prod xs := prod_pos fun m hm => by have := h2 m (List.mem_cons_of_mem _ hm); omega
      rw [prod, ← Nat.mul_assoc] at h1
      have a1 : a * v ≤ 6 ^ 24 := Nat.le_trans (Nat.le_mul_of_pos_right _ pp) h1
      have a2 : a ≤ 6 ^ 24 := Nat.le_trans (Nat.le_mul_of_pos_right _ (by omega)) a1
      refine ⟨[.pl (nsD ns), .pl (nD a), .pl (nD v)], by simp [hc], .inl ?_, h1, fun x hx => h2 x (List.mem_cons_of_mem _ hx), rfl⟩
      simp [e_mul_n (lt_big a2) (lt_big b.2)])
  have e1 : PyData.int 1 = nD 1 := rfl
  simp [v_number_of_cases, e1]
  rw [L]
  have key : ∀ (xs : List Nat) (s : Nat × Cel), (xs.foldl (fun (s : Nat × Cel) (v : Nat) => (s.1 * v, Cel.pl (nD v))) s).1 = xs.foldl (· * ·) s.1 := fun xs => by
    induction xs with
    | nil => intro s; rfl
    | cons x xs ih => intro s; exact ih _
  simp [key, foldl_mul]
theorem g_is_small_ok {ns : List Nat} (h : Sz ns) : g_is_small_sheet [nsD ns] = some (.bool (decide (prod ns ≤ 1024))) := by
  rw [r_is_small_sheet]
  simp [v_is_small_sheet, g_number_ok h, nD]
  omega
theorem g_check_small_ok {ns : List Nat} (h : Sz ns) (hs : prod ns ≤ 1024) : g_check_small [nsD ns] = some .none := by
  rw [r_check_small]
  simp [v_check_small, g_is_small_ok h, hs]
end DL
namespace DL
open PySem PySem.Spec PyProof.Rows L2 Lk
def oD : Option Nat → PyData
  | none => .none
  | some v => nD v
abbrev halfD (hs : List (Option Nat)) : PyData := .list (hs.map oD)
def Half (ns : List Nat) (hs : List (Option Nat)) : Prop := hs.length = ns.length ∧ ∀ (i n v : Nat), ns[i]? = some n → hs[i]? = some (some v) → v < n
def Case (ns cs : List Nat) : Prop := cs.length = ns.length ∧ ∀ (i n c : Nat), ns[i]? = some n → cs[i]? = some c → c < n
theorem rng_nat (n : Nat) : rngL 0 n = (List.range n).map nD := by
  unfold rngL nD
  refine List.map_congr_left fun i _ => ?_
  rw [Int.zero_add]
theorem at_n {α : Type} {xs : List α} {i : Nat} {v : α} (h : xs[i]? = some v) : atI xs (i : Int) = some v := atI_nat h
@[simp] theorem e_ix_n {f : Nat → PyData} {xs : List Nat} {i : Nat} : ixM (.list (xs.map f)) (nD i) = (xs[i]?).map f := by
  show atI _ _ = _
  cases h : xs[i]? with
  | none =>
    have : xs.length ≤ i := List.getElem?_eq_none_iff.mp h
    unfold atI ixN
    rw [List.length_map]
    rw [if_pos (by omega), if_neg (by omega)]
    rfl
  | some v => exact at_n (by rw [List.getElem?_map, h]; rfl)
theorem e_ix_l {α : Type} {f : α → PyData} {xs : List α} {i : Nat} : ixM (.list (xs.map f)) (nD i) = (xs[i]?).map f := by
  show atI _ _ = _
  cases h : xs[i]? with
  | none =>
    have : xs.length ≤ i := List.getElem?_eq_none_iff.mp h
    unfold atI ixN
    rw [List.length_map]
    rw [if_pos (by omega), if_neg (by omega)]
    rfl
  | some v => exact at_n (by rw [List.getElem?_map, h]; rfl)
theorem e_ix_t {α : Type} {f : α → PyData} {xs : List α} {i : Nat} : ixM (.tuple (xs.map f)) (nD i) = (xs[i]?).map f := by
  show atI _ _ = _
  cases h : xs[i]? with
  | none =>
    have : xs.length ≤ i := List.getElem?_eq_none_iff.mp h
    unfold atI ixN
    rw [List.length_map]
    rw [if_pos (by omega), if_neg (by omega)]
    rfl
  | some v => exact at_n (by rw [List.getElem?_map, h]; rfl)
/-- range(n) as it is walked -/
theorem e_rng (n : Nat) (h : n ≤ 1000000) : rngM [.int (n : Int)] = some ((List.range n).map nD) := by
  have : rngM [.int (n : Int)] = if (n : Int).natAbs ≤ 1000000 then some (rngL 0 (n : Int).toNat) else none := by rw [rngM]
  rw [this, if_pos (by omega), Int.toNat_natCast, rng_nat]
theorem lstM_ok {ds : List PyData} (h : ds.length ≤ 1000000) : lstM ds = some ds := by
  unfold lstM
  rw [if_pos h]
theorem tupM_ok {ds : List PyData} (h : ds.length ≤ 1000000) : tupM ds = some (.tuple ds) := by
  unfold tupM
  rw [if_pos h]
@[simp] theorem asInt_n {n : Nat} : asInt (nD n) = some (n : Int) := rfl
theorem e_rng_n (n : Nat) (h : n ≤ 1000000) : rngM [nD n] = some ((List.range n).map nD) := e_rng n h
theorem e_allT {α : Type} {xs : List α} {f : α → Bool} : allM [.list (xs.map fun x => PyData.bool (f x))] = some (.bool (xs.all f)) := by
  have := e_all (bs := xs.map f)
  rw [List.map_map] at this
  rw [show List.map (fun x => PyData.bool (f x)) xs = List.map (PyData.bool ∘ f) xs from rfl, this, List.all_map]
  rfl
@[simp] theorem isNone_oD {o : Option Nat} : isNone (oD o) = o.isNone := by cases o <;> rfl
theorem g_is_half_ok {ns : List Nat} {hs : List (Option Nat)} (hn : Sz ns) (h : Half ns hs) : g_is_half_case [nsD ns, halfD hs] = some (.bool true) := by
  rw [r_is_half_case]
  have l24 := hn.1
  have lc := lc_y (vs := [2]) (mi := mRng1 (mCons (mCall lenM (mCons (mV 0) mNil)) mNil)) (g := gN 2) (me := mOrV (mOp2 isM (mOp2 ixM (mV 1) (mV 2)) (M.ret .none)) (mCall g_is_integer_below (mCons (mOp2 ixM (mV 1) (mV 2)) (mCons (mOp2 ixM (mV 0) (mV 2)) mNil))))
    (r0 := [.pl (nsD ns), .pl (halfD hs), .un]) (r := [.pl (nsD ns), .pl (halfD hs), .un]) nD (fun _ => .bool true) (fun x => [.pl (nsD ns), .pl (halfD hs), .pl (nD x)]) (xs := List.range ns.length)
    (by simp [e_rng ns.length (by omega)]) (by simp [freeAt]) (by simp; omega) (by simp) (by simp) (by
      intro i hi
      have li := List.mem_range.mp hi
      have e1 := List.getElem?_eq_getElem li
      have li2 : i < hs.length := by rw [h.1]; exact li
      have e2 : hs[i]? = some hs[i] := List.getElem?_eq_getElem li2
      cases e3 : hs[i] with
      | none =>
        rw [e3] at e2
        simp [e_ix_l, e2]
      | some v =>
        rw [e3] at e2
        have := h.2 i _ v e1 e2
        simp [e_ix_l, e1, e2, oD, g_below_n, this])
  have hl : hs.length = ns.length := h.1
  simp [v_is_half_case, lc, hl]
  have := e_allT (xs := List.range ns.length) (f := fun _ => true)
  rw [this]
  simp
theorem g_check_half_ok {ns : List Nat} {hs : List (Option Nat)} (hn : Sz ns) (h : Half ns hs) : g_check_half [nsD ns, halfD hs] = some .none := by
  rw [r_check_half]
  simp [v_check_half, g_is_half_ok hn h]
/-! ## all cases -/
def cart : List (List Nat) → List (List Nat)
  | [] => [[]]
  | c :: cs => c.flatMap fun v => (cart cs).map (v :: ·)
def grow (acc : List (List Nat)) (ch : List Nat) : List (List Nat) := acc.flatMap fun b => ch.map fun v => b ++ [v]
theorem fold_grow : ∀ (chs : List (List Nat)) (acc : List (List Nat)), chs.foldl grow acc = acc.flatMap fun b => (cart chs).map (b ++ ·)
  | [], acc => by
    show acc = acc.flatMap fun b => [b ++ []]
    induction acc with
    | nil => rfl
    | cons a l ih => rw [List.flatMap_cons, ← ih, List.append_nil]; rfl
  | c :: cs, acc => by
    show cs.foldl grow (grow acc c) = _
    rw [fold_grow cs, grow, List.flatMap_assoc]
    congr 1
    funext b
    rw [cart, List.map_flatMap, List.flatMap_map]
    congr 1
    funext v
    rw [List.map_map]
    refine List.map_congr_left fun x _ => ?_
    show (b ++ [v]) ++ x = b ++ (v :: x)
    rw [List.append_assoc]
    rfl
theorem fold_grow1 (chs : List (List Nat)) : chs.foldl grow [[]] = cart chs := by
  rw [fold_grow]
  show ((cart chs).map ([] ++ ·)) ++ [] = _
  rw [List.append_nil]
  exact List.map_id' _
theorem grow_length {acc : List (List Nat)} {ch : List Nat} : (grow acc ch).length = acc.length * ch.length := by
  unfold grow
  induction acc with
  | nil => rw [List.flatMap_nil, List.length_nil, Nat.zero_mul]
  | cons a l ih => rw [List.flatMap_cons, List.length_append, ih, List.length_map, List.length_cons, Nat.succ_mul, Nat.add_comm]
def choice (n : Nat) : Option Nat → List Nat
  | none => List.range n
  | some v => [v]
def choices : List Nat → List (Option Nat) → List (List Nat)
  | n :: ns, h :: hs => choice n h :: choices ns hs
  | _, _ => []
theorem choices_at : ∀ {ns : List Nat} {hs : List (Option Nat)} {i : Nat} {n : Nat} {h : Option Nat}, ns[i]? = some n → hs[i]? = some h → (choices ns hs)[i]? = some (choice n h)
  | [], _, _, _, _, e, _ => by simp at e
  | _ :: _, [], _, _, _, _, e => by simp at e
  | n :: ns, h :: hs, 0, _, _, e, e' => by cases e; cases e'; rfl
  | n :: ns, h :: hs, i + 1, _, _, e, e' => by
    show (choices ns hs)[i]? = _
    exact choices_at (by simpa using e) (by simpa using e')
theorem choices_length : ∀ {ns : List Nat} {hs : List (Option Nat)}, hs.length = ns.length → (choices ns hs).length = ns.length
  | [], [], _ => rfl
  | _ :: _, _ :: _, h => by
    show (choices _ _).length + 1 = _
    rw [choices_length (by simpa using h)]
    rfl
  | [], _ :: _, h => by simp at h
  | _ :: _, [], h => by simp at h
/-- the cases that complete a half case -/
def compl (ns : List Nat) (hs : List (Option Nat)) : List (List Nat) := cart (choices ns hs)
def lenP (chs : List (List Nat)) : Nat := prod (chs.map List.length)
theorem choices_prod : ∀ {ns : List Nat} {hs : List (Option Nat)}, (∀ n ∈ ns, 0 < n) → hs.length = ns.length → lenP (choices ns hs) ≤ prod ns
  | [], [], _, _ => Nat.le_refl _
  | n :: ns, h :: hs, hp, hl => by
    have ih := choices_prod (ns := ns) (hs := hs) (fun m hm => hp m (List.mem_cons_of_mem _ hm)) (by simpa using hl)
    have h1 := hp n (List.mem_cons_self ..)
    show (choice n h).length * lenP (choices ns hs) ≤ n * prod ns
    refine Nat.mul_le_mul ?_ ih
    cases h with
    | none => show (List.range n).length ≤ n; rw [List.length_range]; exact Nat.le_refl _
    | some v => exact h1
  | [], _ :: _, _, h => by simp at h
  | _ :: _, [], _, h => by simp at h
theorem foldl_range_at {α β : Type} (f : β → α → β) : ∀ (chs : List α) (s : β) (g : Nat → β → β), (∀ i c, chs[i]? = some c → ∀ s, g i s = f s c) → (List.range chs.length).foldl (fun s i => g i s) s = chs.foldl f s := fun chs => by
  induction chs with
  | nil => intro s g _; rfl
  | cons c cs ih =>
    intro s g h
    rw [List.length_cons, List.range_succ_eq_map, List.foldl_cons, List.foldl_map, List.foldl_cons, h 0 c rfl s]
    exact ih (f s c) (fun i s => g (i + 1) s) fun i d hd s => h (i + 1) d (by simpa using hd) s
abbrev casesD (l : List (List Nat)) : PyData := .list (l.map nsD)
theorem part_le {chs : List (List Nat)} (hne : ∀ c ∈ chs, 0 < c.length) (i : Nat) : ((chs.take i).foldl grow [[]]).length ≤ lenP chs := by
  have len : ∀ (l : List (List Nat)) (acc : List (List Nat)), (l.foldl grow acc).length = acc.length * lenP l := fun l => by
    induction l with
    | nil => intro acc; show acc.length = acc.length * 1; omega
    | cons c l ih =>
      intro acc
      rw [List.foldl_cons, ih, grow_length, Nat.mul_assoc]
      rfl
  rw [len]
  have split : ∀ (l : List (List Nat)) (i : Nat), (∀ c ∈ l, 0 < c.length) → lenP (l.take i) ≤ lenP l := fun l => by
    induction l with
    | nil => intro i _; simp
    | cons c l ih =>
      intro i h
      cases i with
      | zero =>
        show 1 ≤ _
        exact prod_pos fun n hn => by
          obtain ⟨c, hc, rfl⟩ := List.mem_map.mp hn
          exact h c hc
      | succ i =>
        show c.length * lenP (l.take i) ≤ c.length * lenP l
        exact Nat.mul_le_mul_left _ (ih i fun d hd => h d (List.mem_cons_of_mem _ hd))
  have := split chs i hne
  simpa using this
theorem choices_ne {ns : List Nat} {hs : List (Option Nat)} (hp : ∀ n ∈ ns, 0 < n) : ∀ c ∈ choices ns hs, 0 < c.length := by
  induction ns generalizing hs with
  | nil => intro c hc; cases hs <;> cases hc
  | cons n ns ih =>
    intro c hc
    cases hs with
    | nil => cases hc
    | cons h hs =>
      rcases List.mem_cons.mp hc with rfl | hc
      · cases h with
        | none => show 0 < (List.range n).length; rw [List.length_range]; exact hp n (List.mem_cons_self ..)
        | some v => exact Nat.one_pos
      · exact ih (fun m hm => hp m (List.mem_cons_of_mem _ hm)) c hc
theorem g_list_completing_ok {ns : List Nat} {hs : List (Option Nat)} (hn : Sz ns) (hsm : prod ns ≤ 1000000) (h : hs.length = ns.length) : g_list_completing [nsD ns, halfD hs] = some (casesD (compl ns hs)) := by
  rw [r_list_completing]
  have l24 := hn.1
  have hp : ∀ n ∈ ns, 0 < n := fun n hm => by have := hn.2 n hm; omega
  have hne := choices_ne (hs := hs) hp
  have hle := Nat.le_trans (choices_prod hp h) hsm
  have hcl := choices_length h
  have L := for_m (b := (sSeq (sSet 4 (mIf (mOpT isM (mOp2 ixM (mV 1) (mV 3)) (M.ret .none)) (mNew (mLRng1 (mOp2 ixM (mV 0) (mV 3)))) (mNew (mLst (mCons (mOp2 ixM (mV 1) (mV 3)) mNil)))))
  (sSet 2 (mNew (mLc2 [5, 6] [6] (mSeq (mV 2)) (gN 5) mYes (mSeq (mV 4)) (gN 6) mYes (mNew (mLst (mStar (mV 5) (mCons (mV 6) mNil)))))))))
    (g := gN 3) nD (fun (s : List (List Nat) × Cel × Cel) => [.pl (nsD ns), .pl (halfD hs), .pl (casesD s.1), s.2.1, s.2.2, .un, .un]) (fun s i => (grow s.1 ((choices ns hs).getD i []), .pl (nD i), .pl (nsD ((choices ns hs).getD i []))))
    (fun s xs => s.2.1.own = false ∧ s.2.2.own = false ∧ ∃ i, xs = (List.range ns.length).drop i ∧ s.1 = ((choices ns hs).take i).foldl grow [[]] ∧ ∀ b ∈ s.1, b.length = i) (xs := List.range ns.length) (s := ([[]], .un, .un))
    ⟨rfl, rfl, 0, rfl, rfl, by simp⟩ (by
      rintro ⟨acc, c3, c4⟩ i xs ⟨h3, h4, j, hj, hacc, hb⟩
      simp only at h3 h4 hacc hb
      have lj : j < ns.length := by
        have e := congrArg List.length hj
        rw [List.length_drop, List.length_range, List.length_cons] at e
        omega
      have hd : (List.range ns.length).drop j = j :: (List.range ns.length).drop (j + 1) := by
        rw [List.drop_eq_getElem_cons (by rw [List.length_range]; exact lj), List.getElem_range]
      rw [hd] at hj
      obtain ⟨rfl, rfl⟩ := List.cons.inj hj
      have e1 := List.getElem?_eq_getElem lj
      have lh : i < hs.length := by rw [h]; exact lj
      have e2 : hs[i]? = some hs[i] := List.getElem?_eq_getElem lh
      have ec := choices_at e1 e2
      have eg : (choices ns hs).getD i [] = choice ns[i] hs[i] := by rw [List.getD_eq_getElem?_getD, ec]; rfl
      rw [eg]
      have b6 := (hn.2 _ (List.getElem_mem lj)).2
      have stepacc : grow acc (choice ns[i] hs[i]) = ((choices ns hs).take (i + 1)).foldl grow [[]] := by
        rw [List.take_add_one, ec, List.foldl_append, ← hacc]
        rfl
      have lacc : (grow acc (choice ns[i] hs[i])).length ≤ 1000000 := by
        rw [stepacc]
        exact Nat.le_trans (part_le hne _) hle
      have lc := lc2_m (vs := [5, 6]) (vs1 := [6]) (mi := mSeq (mV 2)) (g := gN 5) (g1 := gN 6) (mt := mYes) (mt1 := mYes) (mi1 := mSeq (mV 4)) (me := mNew (mLst (mStar (mV 5) (mCons (mV 6) mNil))))
        (r0 := [.pl (nsD ns), .pl (halfD hs), .pl (casesD acc), .pl (nD i), .pl (nsD (choice ns[i] hs[i])), .un, .un]) (r := [.pl (nsD ns), .pl (halfD hs), .pl (casesD acc), .pl (nD i), .pl (nsD (choice ns[i] hs[i])), .un, .un])
        nsD nD (fun _ => choice ns[i] hs[i]) (fun _ => true) (fun _ _ => true) (fun b v => nsD (b ++ [v]))
        (fun b => [.pl (nsD ns), .pl (halfD hs), .pl (casesD acc), .pl (nD i), .pl (nsD (choice ns[i] hs[i])), .pl (nsD b), .un])
        (fun b v => [.pl (nsD ns), .pl (halfD hs), .pl (casesD acc), .pl (nD i), .pl (nsD (choice ns[i] hs[i])), .pl (nsD b), .pl (nD v)]) (xs := acc)
        (by simp) (by simp [freeAt]) (by
          rw [filter_true]
          simp only [filter_true]
          have := lacc
          unfold grow at this
          simpa [List.length_flatMap, Function.comp_def] using this)
        (by simp) (by simp) (by simp) (by simp) (by simp) (by simp) (by
          intro b hb' _ v _ _
          have lb : b.length ≤ 24 := by rw [hb b hb']; omega
          have e9 : lstM (b.map nD ++ [nD v]) = some (b.map nD ++ [nD v]) := lstM_ok (by simp; omega)
          simp [e9]) (by simp) (by simp)
      have lc' : mLc2 [5, 6] [6] (mSeq (mV 2)) (gN 5) mYes (mSeq (mV 4)) (gN 6) mYes (mNew (mLst (mStar (mV 5) (mCons (mV 6) mNil)))) [.pl (nsD ns), .pl (halfD hs), .pl (casesD acc), .pl (nD i), .pl (nsD (choice ns[i] hs[i])), .un, .un]
          = some (.ok ((grow acc (choice ns[i] hs[i])).map nsD) [.pl (nsD ns), .pl (halfD hs), .pl (casesD acc), .pl (nD i), .pl (nsD (choice ns[i] hs[i])), .un, .un]) := by
        rw [lc, filter_true]
        simp only [filter_true]
        unfold grow
        rw [List.map_flatMap]
        simp only [List.map_map]
        rfl
      refine ⟨[.pl (nsD ns), .pl (halfD hs), .pl (casesD acc), .pl (nD i), c4, .un, .un], by simp [h3], .inl ?_, rfl, rfl, i + 1, rfl, stepacc, ?_⟩
      · have s4 : sSet 4 (mIf (mOpT isM (mOp2 ixM (mV 1) (mV 3)) (M.ret .none)) (mNew (mLRng1 (mOp2 ixM (mV 0) (mV 3)))) (mNew (mLst (mCons (mOp2 ixM (mV 1) (mV 3)) mNil)))) [.pl (nsD ns), .pl (halfD hs), .pl (casesD acc), .pl (nD i), c4, .un, .un]
            = some (.nx [.pl (nsD ns), .pl (halfD hs), .pl (casesD acc), .pl (nD i), .pl (nsD (choice ns[i] hs[i])), .un, .un]) := by
          cases e3 : hs[i] with
          | none =>
            rw [e3] at e2
            have z : ns[i] ≤ 1000000 := by omega
            cases c4 with
            | un => simp [e_ix_l, e1, e2, z, rng_nat, choice]
            | pl d => simp [e_ix_l, e1, e2, z, rng_nat, choice]
            | ow d => cases h4
            | io d => cases h4
          | some v =>
            rw [e3] at e2
            cases c4 with
            | un => simp [e_ix_l, e1, e2, oD, choice]
            | pl d => simp [e_ix_l, e1, e2, oD, choice]
            | ow d => cases h4
            | io d => cases h4
        rw [s_seq, s4]
        dsimp only
        rw [s_set, s_bind, e_new, e_bind, lc']
        rfl
      · intro b hb'
        unfold grow at hb'
        obtain ⟨a, ha, hb'⟩ := List.mem_flatMap.mp hb'
        obtain ⟨v, _, rfl⟩ := List.mem_map.mp hb'
        rw [List.length_append, hb a ha]
        rfl)
  obtain ⟨o1, o2, e⟩ : ∃ c3 c4, ((List.range ns.length).foldl (fun (s : List (List Nat) × Cel × Cel) i => (grow s.1 ((choices ns hs).getD i []), Cel.pl (nD i), Cel.pl (nsD ((choices ns hs).getD i [])))) ([[]], Cel.un, Cel.un)) = (compl ns hs, c3, c4) := by
    have key : ∀ (xs : List Nat) (s : List (List Nat) × Cel × Cel), (xs.foldl (fun (s : List (List Nat) × Cel × Cel) i => (grow s.1 ((choices ns hs).getD i []), Cel.pl (nD i), Cel.pl (nsD ((choices ns hs).getD i [])))) s).1 = xs.foldl (fun a i => grow a ((choices ns hs).getD i [])) s.1 := fun xs => by
      induction xs with
      | nil => intro s; rfl
      | cons x xs ih => intro s; exact ih _
    refine ⟨_, _, Prod.ext ?_ (Prod.ext rfl rfl)⟩
    rw [key, ← hcl, foldl_range_at grow (choices ns hs) [[]] (fun i a => grow a ((choices ns hs).getD i [])) fun i c hc s => by rw [List.getD_eq_getElem?_getD, hc]; rfl, fold_grow1]
    rfl
  have e0 : PyData.list [PyData.list []] = casesD [[]] := rfl
  have er := e_rng ns.length (by omega)
  simp [v_list_completing, er]
  rw [e0, L, e]
  rfl
end DL
namespace DL
open PySem PySem.Spec PyProof.Rows L2 Lk
/-! ## words -/
theorem shaped_of {d : PyData} (h1 : d.canLay0 = true) (h2 : d.depth ≤ 64) : SeqAt.shaped d = true := by
  unfold SeqAt.shaped
  rw [h1, decide_eq_true h2]
  rfl
theorem e_eqD {d e : PyData} (h1 : SeqAt.shaped d = true) (h2 : SeqAt.shaped e = true) : eqM d e = some (.bool (PyData.eqv d e)) := by
  unfold eqM
  rw [h1, h2]
  rfl
theorem e_neD {d e : PyData} (h1 : SeqAt.shaped d = true) (h2 : SeqAt.shaped e = true) : neM d e = some (.bool (!PyData.eqv d e)) := by
  unfold neM
  rw [h1, h2]
  rfl
theorem sh_str {a : Str} (h : PyData.strOk a = true) : SeqAt.shaped (.str a) = true := shaped_of (by rw [PyData.canLay0]; exact h) (by rw [PyData.depth]; omega)
theorem e_eqS {a b : Str} (ha : PyData.strOk a = true) (hb : PyData.strOk b = true) : eqM (.str a) (.str b) = some (.bool (a == b)) := by
  rw [e_eqD (sh_str ha) (sh_str hb), PyData.eqv]
theorem in_join {w : Str} : inM (.str w) c_JOINING_WORDS = some (.bool ((("and" : Str) == w) || ((("or" : Str) == w) || (("odd" : Str) == w)))) := by
  simp [inM, c_JOINING_WORDS, flatD, memD, PyData.eqv]
@[simp] theorem ws0 : eqM (.str "say") (.str "say") = some (.bool true) := (e_eqS (by decide +kernel) (by decide +kernel)).trans (congrArg (fun b => some (PyData.bool b)) (by decide +kernel))
@[simp] theorem ws1 : eqM (.str "say") (.str "is") = some (.bool false) := (e_eqS (by decide +kernel) (by decide +kernel)).trans (congrArg (fun b => some (PyData.bool b)) (by decide +kernel))
@[simp] theorem ws2 : eqM (.str "say") (.str "tree") = some (.bool false) := (e_eqS (by decide +kernel) (by decide +kernel)).trans (congrArg (fun b => some (PyData.bool b)) (by decide +kernel))
@[simp] theorem ws3 : eqM (.str "say") (.str "rules") = some (.bool false) := (e_eqS (by decide +kernel) (by decide +kernel)).trans (congrArg (fun b => some (PyData.bool b)) (by decide +kernel))
@[simp] theorem ws4 : eqM (.str "say") (.str "card") = some (.bool false) := (e_eqS (by decide +kernel) (by decide +kernel)).trans (congrArg (fun b => some (PyData.bool b)) (by decide +kernel))
@[simp] theorem ws5 : eqM (.str "say") (.str "table") = some (.bool false) := (e_eqS (by decide +kernel) (by decide +kernel)).trans (congrArg (fun b => some (PyData.bool b)) (by decide +kernel))
@[simp] theorem ws6 : eqM (.str "say") (.str "not") = some (.bool false) := (e_eqS (by decide +kernel) (by decide +kernel)).trans (congrArg (fun b => some (PyData.bool b)) (by decide +kernel))
@[simp] theorem ws7 : eqM (.str "say") (.str "and") = some (.bool false) := (e_eqS (by decide +kernel) (by decide +kernel)).trans (congrArg (fun b => some (PyData.bool b)) (by decide +kernel))
@[simp] theorem ws8 : eqM (.str "say") (.str "or") = some (.bool false) := (e_eqS (by decide +kernel) (by decide +kernel)).trans (congrArg (fun b => some (PyData.bool b)) (by decide +kernel))
@[simp] theorem ws9 : eqM (.str "say") (.str "odd") = some (.bool false) := (e_eqS (by decide +kernel) (by decide +kernel)).trans (congrArg (fun b => some (PyData.bool b)) (by decide +kernel))
@[simp] theorem wj10 : inM (.str "say") c_JOINING_WORDS = some (.bool false) := in_join.trans (congrArg (fun b => some (PyData.bool b)) (by decide +kernel))
@[simp] theorem wi10 : isTy "str" (.str "say") = true := rfl
@[simp] theorem ws10 : eqM (.str "is") (.str "say") = some (.bool false) := (e_eqS (by decide +kernel) (by decide +kernel)).trans (congrArg (fun b => some (PyData.bool b)) (by decide +kernel))
@[simp] theorem ws11 : eqM (.str "is") (.str "is") = some (.bool true) := (e_eqS (by decide +kernel) (by decide +kernel)).trans (congrArg (fun b => some (PyData.bool b)) (by decide +kernel))
@[simp] theorem ws12 : eqM (.str "is") (.str "tree") = some (.bool false) := (e_eqS (by decide +kernel) (by decide +kernel)).trans (congrArg (fun b => some (PyData.bool b)) (by decide +kernel))
@[simp] theorem ws13 : eqM (.str "is") (.str "rules") = some (.bool false) := (e_eqS (by decide +kernel) (by decide +kernel)).trans (congrArg (fun b => some (PyData.bool b)) (by decide +kernel))
@[simp] theorem ws14 : eqM (.str "is") (.str "card") = some (.bool false) := (e_eqS (by decide +kernel) (by decide +kernel)).trans (congrArg (fun b => some (PyData.bool b)) (by decide +kernel))
@[simp] theorem ws15 : eqM (.str "is") (.str "table") = some (.bool false) := (e_eqS (by decide +kernel) (by decide +kernel)).trans (congrArg (fun b => some (PyData.bool b)) (by decide +kernel))
@[simp] theorem ws16 : eqM (.str "is") (.str "not") = some (.bool false) := (e_eqS (by decide +kernel) (by decide +kernel)).trans (congrArg (fun b => some (PyData.bool b)) (by decide +kernel))
@[simp] theorem ws17 : eqM (.str "is") (.str "and") = some (.bool false) := (e_eqS (by decide +kernel) (by decide +kernel)).trans (congrArg (fun b => some (PyData.bool b)) (by decide +kernel))
@[simp] theorem ws18 : eqM (.str "is") (.str "or") = some (.bool false) := (e_eqS (by decide +kernel) (by decide +kernel)).trans (congrArg (fun b => some (PyData.bool b)) (by decide +kernel))
@[simp] theorem ws19 : eqM (.str "is") (.str "odd") = some (.bool false) := (e_eqS (by decide +kernel) (by decide +kernel)).trans (congrArg (fun b => some (PyData.bool b)) (by decide +kernel))
@[simp] theorem wj20 : inM (.str "is") c_JOINING_WORDS = some (.bool false) := in_join.trans (congrArg (fun b => some (PyData.bool b)) (by decide +kernel))
@[simp] theorem wi20 : isTy "str" (.str "is") = true := rfl
@[simp] theorem ws20 : eqM (.str "tree") (.str "say") = some (.bool false) := (e_eqS (by decide +kernel) (by decide +kernel)).trans (congrArg (fun b => some (PyData.bool b)) (by decide +kernel))
@[simp] theorem ws21 : eqM (.str "tree") (.str "is") = some (.bool false) := (e_eqS (by decide +kernel) (by decide +kernel)).trans (congrArg (fun b => some (PyData.bool b)) (by decide +kernel))
@[simp] theorem ws22 : eqM (.str "tree") (.str "tree") = some (.bool true) := (e_eqS (by decide +kernel) (by decide +kernel)).trans (congrArg (fun b => some (PyData.bool b)) (by decide +kernel))
@[simp] theorem ws23 : eqM (.str "tree") (.str "rules") = some (.bool false) := (e_eqS (by decide +kernel) (by decide +kernel)).trans (congrArg (fun b => some (PyData.bool b)) (by decide +kernel))
@[simp] theorem ws24 : eqM (.str "tree") (.str "card") = some (.bool false) := (e_eqS (by decide +kernel) (by decide +kernel)).trans (congrArg (fun b => some (PyData.bool b)) (by decide +kernel))
@[simp] theorem ws25 : eqM (.str "tree") (.str "table") = some (.bool false) := (e_eqS (by decide +kernel) (by decide +kernel)).trans (congrArg (fun b => some (PyData.bool b)) (by decide +kernel))
@[simp] theorem ws26 : eqM (.str "tree") (.str "not") = some (.bool false) := (e_eqS (by decide +kernel) (by decide +kernel)).trans (congrArg (fun b => some (PyData.bool b)) (by decide +kernel))
@[simp] theorem ws27 : eqM (.str "tree") (.str "and") = some (.bool false) := (e_eqS (by decide +kernel) (by decide +kernel)).trans (congrArg (fun b => some (PyData.bool b)) (by decide +kernel))
@[simp] theorem ws28 : eqM (.str "tree") (.str "or") = some (.bool false) := (e_eqS (by decide +kernel) (by decide +kernel)).trans (congrArg (fun b => some (PyData.bool b)) (by decide +kernel))
@[simp] theorem ws29 : eqM (.str "tree") (.str "odd") = some (.bool false) := (e_eqS (by decide +kernel) (by decide +kernel)).trans (congrArg (fun b => some (PyData.bool b)) (by decide +kernel))
@[simp] theorem wj30 : inM (.str "tree") c_JOINING_WORDS = some (.bool false) := in_join.trans (congrArg (fun b => some (PyData.bool b)) (by decide +kernel))
@[simp] theorem wi30 : isTy "str" (.str "tree") = true := rfl
@[simp] theorem ws30 : eqM (.str "rules") (.str "say") = some (.bool false) := (e_eqS (by decide +kernel) (by decide +kernel)).trans (congrArg (fun b => some (PyData.bool b)) (by decide +kernel))
@[simp] theorem ws31 : eqM (.str "rules") (.str "is") = some (.bool false) := (e_eqS (by decide +kernel) (by decide +kernel)).trans (congrArg (fun b => some (PyData.bool b)) (by decide +kernel))
@[simp] theorem ws32 : eqM (.str "rules") (.str "tree") = some (.bool false) := (e_eqS (by decide +kernel) (by decide +kernel)).trans (congrArg (fun b => some (PyData.bool b)) (by decide +kernel))
@[simp] theorem ws33 : eqM (.str "rules") (.str "rules") = some (.bool true) := (e_eqS (by decide +kernel) (by decide +kernel)).trans (congrArg (fun b => some (PyData.bool b)) (by decide +kernel))
@[simp] theorem ws34 : eqM (.str "rules") (.str "card") = some (.bool false) := (e_eqS (by decide +kernel) (by decide +kernel)).trans (congrArg (fun b => some (PyData.bool b)) (by decide +kernel))
@[simp] theorem ws35 : eqM (.str "rules") (.str "table") = some (.bool false) := (e_eqS (by decide +kernel) (by decide +kernel)).trans (congrArg (fun b => some (PyData.bool b)) (by decide +kernel))
@[simp] theorem ws36 : eqM (.str "rules") (.str "not") = some (.bool false) := (e_eqS (by decide +kernel) (by decide +kernel)).trans (congrArg (fun b => some (PyData.bool b)) (by decide +kernel))
@[simp] theorem ws37 : eqM (.str "rules") (.str "and") = some (.bool false) := (e_eqS (by decide +kernel) (by decide +kernel)).trans (congrArg (fun b => some (PyData.bool b)) (by decide +kernel))
@[simp] theorem ws38 : eqM (.str "rules") (.str "or") = some (.bool false) := (e_eqS (by decide +kernel) (by decide +kernel)).trans (congrArg (fun b => some (PyData.bool b)) (by decide +kernel))
@[simp] theorem ws39 : eqM (.str "rules") (.str "odd") = some (.bool false) := (e_eqS (by decide +kernel) (by decide +kernel)).trans (congrArg (fun b => some (PyData.bool b)) (by decide +kernel))
@[simp] theorem wj40 : inM (.str "rules") c_JOINING_WORDS = some (.bool false) := in_join.trans (congrArg (fun b => some (PyData.bool b)) (by decide +kernel))
@[simp] theorem wi40 : isTy "str" (.str "rules") = true := rfl
@[simp] theorem ws40 : eqM (.str "card") (.str "say") = some (.bool false) := (e_eqS (by decide +kernel) (by decide +kernel)).trans (congrArg (fun b => some (PyData.bool b)) (by decide +kernel))
@[simp] theorem ws41 : eqM (.str "card") (.str "is") = some (.bool false) := (e_eqS (by decide +kernel) (by decide +kernel)).trans (congrArg (fun b => some (PyData.bool b)) (by decide +kernel))
@[simp] theorem ws42 : eqM (.str "card") (.str "tree") = some (.bool false) := (e_eqS (by decide +kernel) (by decide +kernel)).trans (congrArg (fun b => some (PyData.bool b)) (by decide +kernel))
@[simp] theorem ws43 : eqM (.str "card") (.str "rules") = some (.bool false) := (e_eqS (by decide +kernel) (by decide +kernel)).trans (congrArg (fun b => some (PyData.bool b)) (by decide +kernel))
@[simp] theorem ws44 : eqM (.str "card") (.str "card") = some (.bool true) := (e_eqS (by decide +kernel) (by decide +kernel)).trans (congrArg (fun b => some (PyData.bool b)) (by decide +kernel))
@[simp] theorem ws45 : eqM (.str "card") (.str "table") = some (.bool false) := (e_eqS (by decide +kernel) (by decide +kernel)).trans (congrArg (fun b => some (PyData.bool b)) (by decide +kernel))
@[simp] theorem ws46 : eqM (.str "card") (.str "not") = some (.bool false) := (e_eqS (by decide +kernel) (by decide +kernel)).trans (congrArg (fun b => some (PyData.bool b)) (by decide +kernel))
@[simp] theorem ws47 : eqM (.str "card") (.str "and") = some (.bool false) := (e_eqS (by decide +kernel) (by decide +kernel)).trans (congrArg (fun b => some (PyData.bool b)) (by decide +kernel))
@[simp] theorem ws48 : eqM (.str "card") (.str "or") = some (.bool false) := (e_eqS (by decide +kernel) (by decide +kernel)).trans (congrArg (fun b => some (PyData.bool b)) (by decide +kernel))
@[simp] theorem ws49 : eqM (.str "card") (.str "odd") = some (.bool false) := (e_eqS (by decide +kernel) (by decide +kernel)).trans (congrArg (fun b => some (PyData.bool b)) (by decide +kernel))
@[simp] theorem wj50 : inM (.str "card") c_JOINING_WORDS = some (.bool false) := in_join.trans (congrArg (fun b => some (PyData.bool b)) (by decide +kernel))
@[simp] theorem wi50 : isTy "str" (.str "card") = true := rfl
@[simp] theorem ws50 : eqM (.str "table") (.str "say") = some (.bool false) := (e_eqS (by decide +kernel) (by decide +kernel)).trans (congrArg (fun b => some (PyData.bool b)) (by decide +kernel))
@[simp] theorem ws51 : eqM (.str "table") (.str "is") = some (.bool false) := (e_eqS (by decide +kernel) (by decide +kernel)).trans (congrArg (fun b => some (PyData.bool b)) (by decide +kernel))
@[simp] theorem ws52 : eqM (.str "table") (.str "tree") = some (.bool false) := (e_eqS (by decide +kernel) (by decide +kernel)).trans (congrArg (fun b => some (PyData.bool b)) (by decide +kernel))
@[simp] theorem ws53 : eqM (.str "table") (.str "rules") = some (.bool false) := (e_eqS (by decide +kernel) (by decide +kernel)).trans (congrArg (fun b => some (PyData.bool b)) (by decide +kernel))
@[simp] theorem ws54 : eqM (.str "table") (.str "card") = some (.bool false) := (e_eqS (by decide +kernel) (by decide +kernel)).trans (congrArg (fun b => some (PyData.bool b)) (by decide +kernel))
@[simp] theorem ws55 : eqM (.str "table") (.str "table") = some (.bool true) := (e_eqS (by decide +kernel) (by decide +kernel)).trans (congrArg (fun b => some (PyData.bool b)) (by decide +kernel))
@[simp] theorem ws56 : eqM (.str "table") (.str "not") = some (.bool false) := (e_eqS (by decide +kernel) (by decide +kernel)).trans (congrArg (fun b => some (PyData.bool b)) (by decide +kernel))
@[simp] theorem ws57 : eqM (.str "table") (.str "and") = some (.bool false) := (e_eqS (by decide +kernel) (by decide +kernel)).trans (congrArg (fun b => some (PyData.bool b)) (by decide +kernel))
@[simp] theorem ws58 : eqM (.str "table") (.str "or") = some (.bool false) := (e_eqS (by decide +kernel) (by decide +kernel)).trans (congrArg (fun b => some (PyData.bool b)) (by decide +kernel))
@[simp] theorem ws59 : eqM (.str "table") (.str "odd") = some (.bool false) := (e_eqS (by decide +kernel) (by decide +kernel)).trans (congrArg (fun b => some (PyData.bool b)) (by decide +kernel))
@[simp] theorem wj60 : inM (.str "table") c_JOINING_WORDS = some (.bool false) := in_join.trans (congrArg (fun b => some (PyData.bool b)) (by decide +kernel))
@[simp] theorem wi60 : isTy "str" (.str "table") = true := rfl
@[simp] theorem ws60 : eqM (.str "not") (.str "say") = some (.bool false) := (e_eqS (by decide +kernel) (by decide +kernel)).trans (congrArg (fun b => some (PyData.bool b)) (by decide +kernel))
@[simp] theorem ws61 : eqM (.str "not") (.str "is") = some (.bool false) := (e_eqS (by decide +kernel) (by decide +kernel)).trans (congrArg (fun b => some (PyData.bool b)) (by decide +kernel))
@[simp] theorem ws62 : eqM (.str "not") (.str "tree") = some (.bool false) := (e_eqS (by decide +kernel) (by decide +kernel)).trans (congrArg (fun b => some (PyData.bool b)) (by decide +kernel))
@[simp] theorem ws63 : eqM (.str "not") (.str "rules") = some (.bool false) := (e_eqS (by decide +kernel) (by decide +kernel)).trans (congrArg (fun b => some (PyData.bool b)) (by decide +kernel))
@[simp] theorem ws64 : eqM (.str "not") (.str "card") = some (.bool false) := (e_eqS (by decide +kernel) (by decide +kernel)).trans (congrArg (fun b => some (PyData.bool b)) (by decide +kernel))
@[simp] theorem ws65 : eqM (.str "not") (.str "table") = some (.bool false) := (e_eqS (by decide +kernel) (by decide +kernel)).trans (congrArg (fun b => some (PyData.bool b)) (by decide +kernel))
@[simp] theorem ws66 : eqM (.str "not") (.str "not") = some (.bool true) := (e_eqS (by decide +kernel) (by decide +kernel)).trans (congrArg (fun b => some (PyData.bool b)) (by decide +kernel))
@[simp] theorem ws67 : eqM (.str "not") (.str "and") = some (.bool false) := (e_eqS (by decide +kernel) (by decide +kernel)).trans (congrArg (fun b => some (PyData.bool b)) (by decide +kernel))
@[simp] theorem ws68 : eqM (.str "not") (.str "or") = some (.bool false) := (e_eqS (by decide +kernel) (by decide +kernel)).trans (congrArg (fun b => some (PyData.bool b)) (by decide +kernel))
@[simp] theorem ws69 : eqM (.str "not") (.str "odd") = some (.bool false) := (e_eqS (by decide +kernel) (by decide +kernel)).trans (congrArg (fun b => some (PyData.bool b)) (by decide +kernel))
@[simp] theorem wj70 : inM (.str "not") c_JOINING_WORDS = some (.bool false) := in_join.trans (congrArg (fun b => some (PyData.bool b)) (by decide +kernel))
@[simp] theorem wi70 : isTy "str" (.str "not") = true := rfl
@[simp] theorem ws70 : eqM (.str "and") (.str "say") = some (.bool false) := (e_eqS (by decide +kernel) (by decide +kernel)).trans (congrArg (fun b => some (PyData.bool b)) (by decide +kernel))
@[simp] theorem ws71 : eqM (.str "and") (.str "is") = some (.bool false) := (e_eqS (by decide +kernel) (by decide +kernel)).trans (congrArg (fun b => some (PyData.bool b)) (by decide +kernel))
@[simp] theorem ws72 : eqM (.str "and") (.str "tree") = some (.bool false) := (e_eqS (by decide +kernel) (by decide +kernel)).trans (congrArg (fun b => some (PyData.bool b)) (by decide +kernel))
@[simp] theorem ws73 : eqM (.str "and") (.str "rules") = some (.bool false) := (e_eqS (by decide +kernel) (by decide +kernel)).trans (congrArg (fun b => some (PyData.bool b)) (by decide +kernel))
@[simp] theorem ws74 : eqM (.str "and") (.str "card") = some (.bool false) := (e_eqS (by decide +kernel) (by decide +kernel)).trans (congrArg (fun b => some (PyData.bool b)) (by decide +kernel))
@[simp] theorem ws75 : eqM (.str "and") (.str "table") = some (.bool false) := (e_eqS (by decide +kernel) (by decide +kernel)).trans (congrArg (fun b => some (PyData.bool b)) (by decide +kernel))
@[simp] theorem ws76 : eqM (.str "and") (.str "not") = some (.bool false) := (e_eqS (by decide +kernel) (by decide +kernel)).trans (congrArg (fun b => some (PyData.bool b)) (by decide +kernel))
@[simp] theorem ws77 : eqM (.str "and") (.str "and") = some (.bool true) := (e_eqS (by decide +kernel) (by decide +kernel)).trans (congrArg (fun b => some (PyData.bool b)) (by decide +kernel))
@[simp] theorem ws78 : eqM (.str "and") (.str "or") = some (.bool false) := (e_eqS (by decide +kernel) (by decide +kernel)).trans (congrArg (fun b => some (PyData.bool b)) (by decide +kernel))
@[simp] theorem ws79 : eqM (.str "and") (.str "odd") = some (.bool false) := (e_eqS (by decide +kernel) (by decide +kernel)).trans (congrArg (fun b => some (PyData.bool b)) (by decide +kernel))
@[simp] theorem wj80 : inM (.str "and") c_JOINING_WORDS = some (.bool true) := in_join.trans (congrArg (fun b => some (PyData.bool b)) (by decide +kernel))
@[simp] theorem wi80 : isTy "str" (.str "and") = true := rfl
@[simp] theorem ws80 : eqM (.str "or") (.str "say") = some (.bool false) := (e_eqS (by decide +kernel) (by decide +kernel)).trans (congrArg (fun b => some (PyData.bool b)) (by decide +kernel))
@[simp] theorem ws81 : eqM (.str "or") (.str "is") = some (.bool false) := (e_eqS (by decide +kernel) (by decide +kernel)).trans (congrArg (fun b => some (PyData.bool b)) (by decide +kernel))
@[simp] theorem ws82 : eqM (.str "or") (.str "tree") = some (.bool false) := (e_eqS (by decide +kernel) (by decide +kernel)).trans (congrArg (fun b => some (PyData.bool b)) (by decide +kernel))
@[simp] theorem ws83 : eqM (.str "or") (.str "rules") = some (.bool false) := (e_eqS (by decide +kernel) (by decide +kernel)).trans (congrArg (fun b => some (PyData.bool b)) (by decide +kernel))
@[simp] theorem ws84 : eqM (.str "or") (.str "card") = some (.bool false) := (e_eqS (by decide +kernel) (by decide +kernel)).trans (congrArg (fun b => some (PyData.bool b)) (by decide +kernel))
@[simp] theorem ws85 : eqM (.str "or") (.str "table") = some (.bool false) := (e_eqS (by decide +kernel) (by decide +kernel)).trans (congrArg (fun b => some (PyData.bool b)) (by decide +kernel))
@[simp] theorem ws86 : eqM (.str "or") (.str "not") = some (.bool false) := (e_eqS (by decide +kernel) (by decide +kernel)).trans (congrArg (fun b => some (PyData.bool b)) (by decide +kernel))
@[simp] theorem ws87 : eqM (.str "or") (.str "and") = some (.bool false) := (e_eqS (by decide +kernel) (by decide +kernel)).trans (congrArg (fun b => some (PyData.bool b)) (by decide +kernel))
@[simp] theorem ws88 : eqM (.str "or") (.str "or") = some (.bool true) := (e_eqS (by decide +kernel) (by decide +kernel)).trans (congrArg (fun b => some (PyData.bool b)) (by decide +kernel))
@[simp] theorem ws89 : eqM (.str "or") (.str "odd") = some (.bool false) := (e_eqS (by decide +kernel) (by decide +kernel)).trans (congrArg (fun b => some (PyData.bool b)) (by decide +kernel))
@[simp] theorem wj90 : inM (.str "or") c_JOINING_WORDS = some (.bool true) := in_join.trans (congrArg (fun b => some (PyData.bool b)) (by decide +kernel))
@[simp] theorem wi90 : isTy "str" (.str "or") = true := rfl
@[simp] theorem ws90 : eqM (.str "odd") (.str "say") = some (.bool false) := (e_eqS (by decide +kernel) (by decide +kernel)).trans (congrArg (fun b => some (PyData.bool b)) (by decide +kernel))
@[simp] theorem ws91 : eqM (.str "odd") (.str "is") = some (.bool false) := (e_eqS (by decide +kernel) (by decide +kernel)).trans (congrArg (fun b => some (PyData.bool b)) (by decide +kernel))
@[simp] theorem ws92 : eqM (.str "odd") (.str "tree") = some (.bool false) := (e_eqS (by decide +kernel) (by decide +kernel)).trans (congrArg (fun b => some (PyData.bool b)) (by decide +kernel))
@[simp] theorem ws93 : eqM (.str "odd") (.str "rules") = some (.bool false) := (e_eqS (by decide +kernel) (by decide +kernel)).trans (congrArg (fun b => some (PyData.bool b)) (by decide +kernel))
@[simp] theorem ws94 : eqM (.str "odd") (.str "card") = some (.bool false) := (e_eqS (by decide +kernel) (by decide +kernel)).trans (congrArg (fun b => some (PyData.bool b)) (by decide +kernel))
@[simp] theorem ws95 : eqM (.str "odd") (.str "table") = some (.bool false) := (e_eqS (by decide +kernel) (by decide +kernel)).trans (congrArg (fun b => some (PyData.bool b)) (by decide +kernel))
@[simp] theorem ws96 : eqM (.str "odd") (.str "not") = some (.bool false) := (e_eqS (by decide +kernel) (by decide +kernel)).trans (congrArg (fun b => some (PyData.bool b)) (by decide +kernel))
@[simp] theorem ws97 : eqM (.str "odd") (.str "and") = some (.bool false) := (e_eqS (by decide +kernel) (by decide +kernel)).trans (congrArg (fun b => some (PyData.bool b)) (by decide +kernel))
@[simp] theorem ws98 : eqM (.str "odd") (.str "or") = some (.bool false) := (e_eqS (by decide +kernel) (by decide +kernel)).trans (congrArg (fun b => some (PyData.bool b)) (by decide +kernel))
@[simp] theorem ws99 : eqM (.str "odd") (.str "odd") = some (.bool true) := (e_eqS (by decide +kernel) (by decide +kernel)).trans (congrArg (fun b => some (PyData.bool b)) (by decide +kernel))
@[simp] theorem wj100 : inM (.str "odd") c_JOINING_WORDS = some (.bool true) := in_join.trans (congrArg (fun b => some (PyData.bool b)) (by decide +kernel))
@[simp] theorem wi100 : isTy "str" (.str "odd") = true := rfl
/-! ## forms -/
inductive Jw where
  | and | or | odd
def Jw.str : Jw → Str
  | .and => "and"
  | .or => "or"
  | .odd => "odd"
def Jw.ev : Jw → List Bool → Bool
  | .and, bs => bs.all id
  | .or, bs => bs.any id
  | .odd, bs => bs.countP id % 2 == 1
abbrev Cond := Nat × List Nat
abbrev Rule := List Cond × Bool
inductive Frm where
  | say (b : Bool)
  | test (f : Nat) (vs : List Nat)
  | tree (f : Nat) (bs : List Frm)
  | rules (rs : List Rule) (l : Bool)
  | card (ws : List (List Int)) (t : Int)
  | table (rs : List Bool)
  | neg (x : Frm)
  | join (w : Jw) (xs : List Frm)
def condD (c : Cond) : PyData := .tuple [nD c.1, .tuple (c.2.map nD)]
abbrev condsD (cs : List Cond) : PyData := .tuple (cs.map condD)
def ruleD (r : Rule) : PyData := .tuple [condsD r.1, .bool r.2]
def rowD (w : List Int) : PyData := .tuple (w.map .int)
mutual
def Frm.D : Frm → PyData
  | .say b => .tuple [.str "say", .bool b]
  | .test f vs => .tuple [.str "is", nD f, .tuple (vs.map nD)]
  | .tree f bs => .tuple [.str "tree", nD f, .tuple (Frm.Ds bs)]
  | .rules rs l => .tuple [.str "rules", .tuple (rs.map ruleD), .bool l]
  | .card ws t => .tuple [.str "card", .tuple (ws.map rowD), .int t]
  | .table rs => .tuple [.str "table", .tuple (rs.map .bool)]
  | .neg x => .tuple [.str "not", x.D]
  | .join w xs => .tuple [.str w.str, .tuple (Frm.Ds xs)]
def Frm.Ds : List Frm → List PyData
  | [] => []
  | x :: xs => x.D :: Frm.Ds xs
end
theorem Frm.Ds_eq : ∀ xs : List Frm, Frm.Ds xs = xs.map Frm.D
  | [] => by rw [Frm.Ds]; rfl
  | x :: xs => by rw [Frm.Ds, Frm.Ds_eq xs]; rfl
def fitsB (cs : List Nat) (r : List Cond) : Bool := r.all fun c => c.2.contains (cs.getD c.1 0)
def plc : Nat → List Nat → List Nat → Nat
  | a, n :: ns, c :: cs => plc (a * n + c) ns cs
  | a, _, _ => a
def wsum : List (List Int) → List Nat → Int
  | w :: ws, c :: cs => w.getD c 0 + wsum ws cs
  | _, _ => 0
mutual
def Frm.ev (ns cs : List Nat) : Frm → Bool
  | .say b => b
  | .test f vs => vs.contains (cs.getD f 0)
  | .tree f bs => (Frm.evs ns cs bs).getD (cs.getD f 0) false
  | .rules rs l => match rs.find? fun r => fitsB cs r.1 with
    | some r => r.2
    | none => l
  | .card ws t => decide (t ≤ wsum ws cs)
  | .table rs => rs.getD (plc 0 ns cs) false
  | .neg x => !x.ev ns cs
  | .join w xs => w.ev (Frm.evs ns cs xs)
def Frm.evs (ns cs : List Nat) : List Frm → List Bool
  | [] => []
  | x :: xs => x.ev ns cs :: Frm.evs ns cs xs
end
theorem Frm.evs_eq {ns cs : List Nat} : ∀ xs : List Frm, Frm.evs ns cs xs = xs.map (Frm.ev ns cs)
  | [] => by rw [Frm.evs]; rfl
  | x :: xs => by rw [Frm.evs, Frm.evs_eq xs]; rfl
def TestOk (ns : List Nat) (c : Cond) : Prop := ∃ n, ns[c.1]? = some n ∧ AscFrom 0 n c.2
def CondsOk (ns : List Nat) (cs : List Cond) : Prop := AscFrom 0 ns.length (cs.map Prod.fst) ∧ ∀ c ∈ cs, TestOk ns c
mutual
def Frm.Ok (ns : List Nat) : Frm → Prop
  | .say _ => True
  | .test f vs => TestOk ns (f, vs)
  | .tree f bs => ns[f]? = some bs.length ∧ Frm.Oks ns bs
  | .rules rs _ => rs.length ≤ 1000 ∧ ∀ r ∈ rs, CondsOk ns r.1
  | .card ws _ => ws.length = ns.length ∧ ∀ (i n : Nat) (w : List Int), ns[i]? = some n → ws[i]? = some w → w.length = n
  | .table rs => prod ns ≤ 1024 ∧ rs.length = prod ns
  | .neg x => x.Ok ns
  | .join _ xs => xs.length ≤ 1000 ∧ Frm.Oks ns xs
def Frm.Oks (ns : List Nat) : List Frm → Prop
  | [] => True
  | x :: xs => x.Ok ns ∧ Frm.Oks ns xs
end
theorem Frm.Oks_iff {ns : List Nat} : ∀ {xs : List Frm}, Frm.Oks ns xs ↔ ∀ x ∈ xs, x.Ok ns
  | [] => by rw [Frm.Oks]; simp
  | x :: xs => by rw [Frm.Oks, Frm.Oks_iff (xs := xs)]; simp
mutual
def Frm.dp : Frm → Nat
  | .tree _ bs => 1 + Frm.dps bs
  | .neg x => 1 + x.dp
  | .join _ xs => 1 + Frm.dps xs
  | _ => 0
def Frm.dps : List Frm → Nat
  | [] => 0
  | x :: xs => max x.dp (Frm.dps xs)
end
theorem Frm.dps_le : ∀ {xs : List Frm} {x : Frm}, x ∈ xs → x.dp ≤ Frm.dps xs
  | y :: ys, x, h => by
    rw [Frm.dps]
    rcases List.mem_cons.mp h with rfl | h
    · omega
    · have := Frm.dps_le h
      omega
theorem Frm.dps_of {n : Nat} : ∀ {xs : List Frm}, (∀ x ∈ xs, x.dp ≤ n) → Frm.dps xs ≤ n
  | [], _ => by rw [Frm.dps]; omega
  | y :: ys, h => by
    rw [Frm.dps]
    have h1 := h y (List.mem_cons_self ..)
    have h2 := Frm.dps_of (xs := ys) fun x hx => h x (List.mem_cons_of_mem _ hx)
    omega
mutual
def Frm.sz : Frm → Nat
  | .tree _ bs => 1 + Frm.szs bs
  | .neg x => 1 + x.sz
  | .join _ xs => 1 + Frm.szs xs
  | _ => 1
def Frm.szs : List Frm → Nat
  | [] => 0
  | x :: xs => x.sz + Frm.szs xs
end
theorem Frm.ind {P : Frm → Prop} (say : ∀ b, P (.say b)) (test : ∀ f vs, P (.test f vs)) (tree : ∀ f bs, (∀ b ∈ bs, P b) → P (.tree f bs)) (rules : ∀ rs l, P (.rules rs l)) (card : ∀ ws t, P (.card ws t)) (table : ∀ rs, P (.table rs)) (neg : ∀ x, P x → P (.neg x)) (join : ∀ w xs, (∀ b ∈ xs, P b) → P (.join w xs)) (x : Frm) : P x :=
  Frm.rec (motive_1 := P) (motive_2 := fun bs => ∀ b ∈ bs, P b) say test tree rules card table neg join (fun _ h => nomatch h) (fun _ _ h1 h2 b hb => (List.mem_cons.mp hb).elim (fun e => e ▸ h1) (h2 b)) x
/-! ## comprehensions, found by their place in the goal -/
section
variable {α : Type} {vs : List Nat} {mi : M (List PyData)} {g : PyData → En → Option En} {mt : M Bool} {me : M PyData} {r : En}
theorem lcy (f : α → PyData) (F : α → PyData) (e : α → En) {xs : List α} (hi : mi r = some (.ok (xs.map f) r)) (hf : freeAt r vs = true) (hl : xs.length ≤ 1000000)
    (hg : ∀ x ∈ xs, g (f x) (wipeE r vs) = some (e x)) (hw : ∀ x ∈ xs, wipeE (e x) vs = wipeE r vs) (he : ∀ x ∈ xs, me (e x) = some (.ok (F x) (e x))) :
    mLc vs mi g mYes me r = some (.ok (xs.map F) r) := lc_y f F e hi hf hl hg hw he
theorem lcm (f : α → PyData) (p : α → Bool) (F : α → PyData) (e : α → En) {xs : List α} (hi : mi r = some (.ok (xs.map f) r)) (hf : freeAt r vs = true) (hl : xs.length ≤ 1000000)
    (hg : ∀ x ∈ xs, g (f x) (wipeE r vs) = some (e x)) (hw : ∀ x ∈ xs, wipeE (e x) vs = wipeE r vs) (ht : ∀ x ∈ xs, mt (e x) = some (.ok (p x) (e x))) (he : ∀ x ∈ xs, p x = true → me (e x) = some (.ok (F x) (e x))) :
    mLc vs mi g mt me r = some (.ok ((xs.filter p).map F) r) := lc_m f p F e hi hf hl hg hw ht he
end
theorem getD_of {α : Type} {xs : List α} {i : Nat} {v d : α} (h : xs[i]? = some v) : xs.getD i d = v := by rw [List.getD_eq_getElem?_getD, h]; rfl
end DL
namespace DL
open PySem PySem.Spec PyProof.Rows L2 Lk
theorem canLay_map {α : Type} {f : α → PyData} : ∀ {xs : List α}, (∀ x ∈ xs, (f x).canLay0 = true) → PyData.canLayAll0 (xs.map f) = true
  | [], _ => rfl
  | x :: xs, h => by
    rw [List.map_cons, PyData.canLayAll0, h x (List.mem_cons_self ..), canLay_map fun y hy => h y (List.mem_cons_of_mem _ hy)]
    rfl
theorem depth_map {α : Type} {f : α → PyData} {n : Nat} : ∀ {xs : List α}, (∀ x ∈ xs, (f x).depth ≤ n) → PyData.depthAll (xs.map f) ≤ n
  | [], _ => by rw [List.map_nil, PyData.depthAll]; omega
  | x :: xs, h => by
    have h1 := h x (List.mem_cons_self ..)
    have h2 := depth_map (xs := xs) fun y hy => h y (List.mem_cons_of_mem _ hy)
    rw [List.map_cons, PyData.depthAll]
    omega
/-- plain data: may be compared, n levels deep at most -/
def Sh (n : Nat) (d : PyData) : Prop := d.canLay0 = true ∧ d.depth ≤ n
theorem Sh.int {i : Int} : Sh 0 (.int i) := ⟨by rw [PyData.canLay0], by rw [PyData.depth]; omega⟩
theorem Sh.n {i : Nat} : Sh 0 (nD i) := Sh.int
theorem Sh.bool {b : Bool} : Sh 0 (.bool b) := ⟨by rw [PyData.canLay0], by rw [PyData.depth]; omega⟩
theorem Sh.none : Sh 0 .none := ⟨by rw [PyData.canLay0], by rw [PyData.depth]; omega⟩
theorem Sh.o {o : Option Nat} : Sh 0 (oD o) := by cases o; exact Sh.none; exact Sh.n
theorem Sh.list {α : Type} {f : α → PyData} {xs : List α} {n : Nat} (h : ∀ x ∈ xs, Sh n (f x)) : Sh (n + 1) (.list (xs.map f)) :=
  ⟨by rw [PyData.canLay0]; exact canLay_map fun x hx => (h x hx).1, by rw [PyData.depth]; have := depth_map fun x hx => (h x hx).2; omega⟩
theorem Sh.tup {α : Type} {f : α → PyData} {xs : List α} {n : Nat} (h : ∀ x ∈ xs, Sh n (f x)) : Sh (n + 1) (.tuple (xs.map f)) :=
  ⟨by rw [PyData.canLay0]; exact canLay_map fun x hx => (h x hx).1, by rw [PyData.depth]; have := depth_map fun x hx => (h x hx).2; omega⟩
theorem Sh.sh {n : Nat} {d : PyData} (h : Sh n d) (hn : n ≤ 64 := by decide) : SeqAt.shaped d = true := shaped_of h.1 (Nat.le_trans h.2 hn)
/-! ## the same of data -/
theorem eqv_n {a b : Nat} : PyData.eqv (nD a) (nD b) = (a == b) := by
  unfold nD
  rw [PyData.eqv, Bool.eq_iff_iff, beq_iff_eq, beq_iff_eq]
  omega
theorem memD_map {α : Type} {f : α → PyData} {xs : List α} {v : PyData} {p : α → Bool} (h : ∀ x ∈ xs, PyData.eqv (f x) v = p x) : memD v (xs.map f) = xs.any p := by
  unfold memD
  rw [List.any_map]
  induction xs with
  | nil => rfl
  | cons x xs ih =>
    rw [List.any_cons, List.any_cons, ih fun y hy => h y (List.mem_cons_of_mem _ hy)]
    congr 1
    exact h x (List.mem_cons_self ..)
theorem any_eq {xs : List Nat} {v : Nat} : (xs.any fun x => x == v) = xs.contains v := by
  induction xs with
  | nil => rfl
  | cons x xs ih =>
    rw [List.any_cons, ih, List.contains_cons, Bool.beq_comm]
theorem flat_n {xs : List Nat} : (xs.map nD).all flatD = true := by rw [List.all_map]; exact List.all_eq_true.mpr fun _ _ => rfl
@[simp] theorem e_in_tn {v : Nat} {xs : List Nat} : inM (nD v) (.tuple (xs.map nD)) = some (.bool (xs.contains v)) := by
  show (if flatD (nD v) && (xs.map nD).all flatD then _ else _) = _
  rw [flat_n]
  show some (PyData.bool (memD _ _)) = _
  rw [memD_map (p := fun x => x == v) fun x _ => eqv_n, any_eq]
theorem e_in_ln {v : Nat} {xs : List Nat} : inM (nD v) (nsD xs) = some (.bool (xs.contains v)) := by
  show (if SeqAt.shaped (nD v) && SeqAt.shaped (nsD xs) then _ else _) = _
  rw [(Sh.n).sh, (Sh.list fun _ _ => Sh.n).sh]
  show some (PyData.bool (memD _ _)) = _
  rw [memD_map (p := fun x => x == v) fun x _ => eqv_n, any_eq]
theorem sh_bools {bs : List Bool} : SeqAt.shaped (.list (bs.map PyData.bool)) = true := (Sh.list fun _ _ => Sh.bool).sh
theorem mem_bools {b : Bool} {bs : List Bool} : memD (.bool b) (bs.map PyData.bool) = bs.contains b := by
  rw [memD_map (p := fun x => x == b) fun x _ => by rw [PyData.eqv]]
  induction bs with
  | nil => rfl
  | cons x xs ih => rw [List.any_cons, ih, List.contains_cons, Bool.beq_comm]
@[simp] theorem e_in_b {b : Bool} {bs : List Bool} : inM (.bool b) (.list (bs.map PyData.bool)) = some (.bool (bs.contains b)) := by
  show (if SeqAt.shaped (.bool b) && SeqAt.shaped (.list (bs.map PyData.bool)) then _ else _) = _
  rw [sh_bools, (Sh.bool).sh, mem_bools]
  rfl
@[simp] theorem e_notIn_b {b : Bool} {bs : List Bool} : notInM (.bool b) (.list (bs.map PyData.bool)) = some (.bool (!bs.contains b)) := by
  show (if SeqAt.shaped (.bool b) && SeqAt.shaped (.list (bs.map PyData.bool)) then _ else _) = _
  rw [sh_bools, (Sh.bool).sh, mem_bools]
  rfl
theorem e_count_b {b : Bool} {bs : List Bool} : countM (.list (bs.map PyData.bool)) [.bool b] = some (nD (bs.count b)) := by
  show (if flatD (.bool b) && (bs.map PyData.bool).all flatD then _ else _) = _
  rw [show (bs.map PyData.bool).all flatD = true by rw [List.all_map]; exact List.all_eq_true.mpr fun _ _ => rfl]
  show some (PyData.int _) = some (PyData.int _)
  rw [List.countP_map, List.count]
  congr 3
theorem e_sumF {α : Type} {xs : List α} {f : α → Int} : sumM [.list (xs.map fun x => PyData.int (f x))] = some (.int (xs.map f).sum) := by
  have := e_asum (ns := xs.map f)
  rw [List.map_map] at this
  exact this
theorem for_fst {α : Type} {g : PyData → En → Option En} {b : SM} (f : α → PyData) (enc : Option α → En) (p : α → Bool) (F : α → PyData) : ∀ {xs : List α} {o : Option α}, (∀ o, ∀ x ∈ xs, ∃ r1 r2, g (f x) (enc o) = some r1 ∧ b r1 = if p x then some (.rt (F x) r2) else some (.nx (enc (some x)))) →
    (∃ x r2, xs.find? p = some x ∧ forGo g b (xs.map f) (enc o) = some (.rt (F x) r2)) ∨ (xs.find? p = none ∧ ∃ o', forGo g b (xs.map f) (enc o) = some (.nx (enc o')))
  | [], o, _ => .inr ⟨rfl, o, rfl⟩
  | x :: xs, o, h => by
    obtain ⟨r1, r2, h1, h2⟩ := h o x (List.mem_cons_self ..)
    rw [List.map_cons, forGo_cons, h1]
    dsimp only [Option.bind]
    cases hp : p x with
    | true =>
      rw [hp, if_pos rfl] at h2
      rw [h2, List.find?_cons, hp]
      exact .inl ⟨x, r2, rfl, rfl⟩
    | false =>
      rw [hp, if_neg Bool.false_ne_true] at h2
      rw [h2, List.find?_cons, hp]
      exact for_fst f enc p F (xs := xs) (o := some x) fun o y hy => h o y (List.mem_cons_of_mem _ hy)
@[simp] theorem e_eq_l {a n : Nat} : eqM (nD a) (.int (no_index (@OfNat.ofNat Int n instOfNat))) = some (.bool (a == n)) := e_eq_n
@[simp] theorem e_ne_l {a n : Nat} : neM (nD a) (.int (no_index (@OfNat.ofNat Int n instOfNat))) = some (.bool (!(a == n))) := e_ne_n
@[simp] theorem e_lt_l {a n : Nat} : ltM (nD a) (.int (no_index (@OfNat.ofNat Int n instOfNat))) = some (.bool (decide (a < n))) := e_lt_n
theorem e_mod_n {a b : Nat} (h : 0 < b) : modM (nD a) (nD b) = some (nD (a % b)) := by
  have := e_modI (a := (a : Int)) (b := b) (by omega)
  show modM (.int a) (.int b) = _
  rw [this]
  rfl
@[simp] theorem e_mod_2 {a : Nat} : modM (nD a) (.int 2) = some (nD (a % 2)) := e_mod_n (b := 2) (by decide)
/-! ## cases -/
theorem Case.at {ns cs : List Nat} (h : Case ns cs) {i n : Nat} (e : ns[i]? = some n) : ∃ c, cs[i]? = some c ∧ c < n := by
  have li : i < ns.length := (List.getElem?_eq_some_iff.mp e).1
  have lc : i < cs.length := by rw [h.1]; exact li
  exact ⟨cs[i], List.getElem?_eq_getElem lc, h.2 i n _ e (List.getElem?_eq_getElem lc)⟩
theorem Case.nil : Case [] [] := ⟨rfl, fun _ _ _ h => by simp at h⟩
theorem Case.cons {n c : Nat} {ns cs : List Nat} : Case (n :: ns) (c :: cs) ↔ c < n ∧ Case ns cs := by
  constructor
  · intro h
    exact ⟨h.2 0 n c rfl rfl, by simpa using h.1, fun i m d e e' => h.2 (i + 1) m d (by simpa using e) (by simpa using e')⟩
  · rintro ⟨h1, h2, h3⟩
    refine ⟨by simpa using h2, fun i m d e e' => ?_⟩
    cases i with
    | zero => cases e; cases e'; exact h1
    | succ i => exact h3 i m d (by simpa using e) (by simpa using e')
theorem plc_lt : ∀ {ns cs : List Nat} {a : Nat}, Case ns cs → plc a ns cs < (a + 1) * prod ns
  | [], [], a, _ => by show a < (a + 1) * 1; omega
  | n :: ns, c :: cs, a, h => by
    obtain ⟨h1, h2⟩ := Case.cons.mp h
    have := plc_lt (a := a * n + c) h2
    rw [plc, prod]
    refine Nat.lt_of_lt_of_le this ?_
    rw [← Nat.mul_assoc]
    refine Nat.mul_le_mul_right _ ?_
    rw [Nat.succ_mul]
    omega
  | [], _ :: _, _, h => by have := h.1; simp at this
  | _ :: _, [], _, h => by have := h.1; simp at this
theorem e_add_n {a b : Nat} : addM (nD a) (nD b) = some (nD (a + b)) := by
  show some (PyData.int ((a : Int) + b)) = _
  rw [← Int.natCast_add]
  rfl
theorem fold_zip {β : Type} (f : β → Nat → Nat → β) : ∀ (ns cs : List Nat) (s : β) (g : Nat → β → β), cs.length = ns.length → (∀ i n c, ns[i]? = some n → cs[i]? = some c → ∀ s, g i s = f s n c) → (List.range ns.length).foldl (fun s i => g i s) s = (ns.zip cs).foldl (fun s p => f s p.1 p.2) s
  | [], [], s, g, _, _ => rfl
  | n :: ns, c :: cs, s, g, hl, h => by
    rw [List.length_cons, List.range_succ_eq_map, List.foldl_cons, List.foldl_map, List.zip_cons_cons, List.foldl_cons, h 0 n c rfl rfl s]
    exact fold_zip f ns cs _ (fun i s => g (i + 1) s) (by simpa using hl) fun i m d e e' s => h (i + 1) m d (by simpa using e) (by simpa using e') s
  | [], _ :: _, _, _, hl, _ => by simp at hl
  | _ :: _, [], _, _, hl, _ => by simp at hl
theorem plc_fold : ∀ (ns cs : List Nat) (a : Nat), (ns.zip cs).foldl (fun s p => s * p.1 + p.2) a = plc a ns cs
  | [], [], a => rfl
  | n :: ns, c :: cs, a => by
    rw [List.zip_cons_cons, List.foldl_cons, plc_fold, plc]
  | [], _ :: _, a => rfl
  | _ :: _, [], a => rfl
theorem Sz.tail {n : Nat} {ns : List Nat} (h : Sz (n :: ns)) : Sz ns := ⟨by have := h.1; simp at this; omega, fun m hm => h.2 m (List.mem_cons_of_mem _ hm)⟩
/-- place * size + part, for all fields, below a bound -/
theorem plc_part {ns cs : List Nat} (hn : Sz ns) (hc : Case ns cs) : ∀ i, i ≤ ns.length → plc 0 (ns.take i) (cs.take i) ≤ 6 ^ 24 := by
  intro i hi
  have lt : Case (ns.take i) (cs.take i) := by
    refine ⟨by simp [hc.1], fun j n c e e' => ?_⟩
    rw [List.getElem?_take] at e e'
    split at e
    · rename_i z
      rw [if_pos z] at e'
      exact hc.2 j n c e e'
    · cases e
  have := plc_lt (a := 0) lt
  have b := prod_small (ns := ns.take i) ⟨by simp; have := hn.1; omega, fun n hm => hn.2 n (List.mem_of_mem_take hm)⟩
  omega
theorem plc_snoc : ∀ {ns cs : List Nat} {a n c : Nat}, cs.length = ns.length → plc a (ns ++ [n]) (cs ++ [c]) = plc a ns cs * n + c
  | [], [], _, _, _, _ => rfl
  | m :: ns, d :: cs, a, n, c, h => by
    show plc (a * m + d) (ns ++ [n]) (cs ++ [c]) = plc (a * m + d) ns cs * n + c
    exact plc_snoc (by simpa using h)
  | [], _ :: _, _, _, _, h => by simp at h
  | _ :: _, [], _, _, _, h => by simp at h
theorem range_drop {n j : Nat} {i : Nat} {xs : List Nat} (h : i :: xs = (List.range n).drop j) : i = j ∧ j < n ∧ xs = (List.range n).drop (j + 1) := by
  have lj : j < n := by
    have e := congrArg List.length h
    rw [List.length_drop, List.length_range, List.length_cons] at e
    omega
  rw [List.drop_eq_getElem_cons (by rw [List.length_range]; exact lj), List.getElem_range] at h
  obtain ⟨h1, h2⟩ := List.cons.inj h
  exact ⟨h1, lj, h2⟩
theorem nextc {b : SM} {r r2 : En} (h : b r = some (.nx r2)) : b r = some (.nx r2) ∨ b r = some (.ct r2) := .inl h
theorem g_place_ok {ns cs : List Nat} (hn : Sz ns) (hc : Case ns cs) : g_place_of_case [nsD ns, nsD cs] = some (nD (plc 0 ns cs)) := by
  rw [r_place_of_case]
  have l24 := hn.1
  simp [v_place_of_case, e_rng ns.length (by omega), nD0]
  have L := for_m (b := sSet 2 (mOp2 addM (mOp2 mulM (mV 2) (mOp2 ixM (mV 0) (mV 3))) (mOp2 ixM (mV 1) (mV 3)))) (g := gN 3) nD (fun (s : Nat × Cel) => [.pl (nsD ns), .pl (nsD cs), .pl (nD s.1), s.2])
    (fun s i => (s.1 * ns.getD i 0 + cs.getD i 0, .pl (nD i))) (fun s xs => s.2.own = false ∧ ∃ j, xs = (List.range ns.length).drop j ∧ s.1 = plc 0 (ns.take j) (cs.take j)) (xs := List.range ns.length) (s := (0, .un))
    ⟨rfl, 0, rfl, rfl⟩ (by
      rintro ⟨a, c⟩ i xs ⟨hc', j, hj, ha⟩
      simp only at hc' ha
      obtain ⟨rfl, lj, hx⟩ := range_drop hj
      have e1 := List.getElem?_eq_getElem lj
      obtain ⟨d, e2, hd⟩ := hc.at e1
      have a1 := plc_part hn hc i (by omega)
      rw [← ha] at a1
      have b6 := (hn.2 _ (List.getElem_mem lj)).2
      refine ⟨[.pl (nsD ns), .pl (nsD cs), .pl (nD a), .pl (nD i)], by simp [hc'], nextc ?_, rfl, i + 1, hx, ?_⟩
      · simp [e1, e2, e_mul_n (lt_big a1) (lt_big b6), e_add_n]
      · simp only
        rw [List.take_add_one, List.take_add_one, e1, e2, getD_of e1, getD_of e2, ha]
        exact (plc_snoc (by simp [hc.1])).symm)
  rw [L]
  have key : ∀ (xs : List Nat) (s : Nat × Cel), (xs.foldl (fun (s : Nat × Cel) i => (s.1 * ns.getD i 0 + cs.getD i 0, Cel.pl (nD i))) s).1 = xs.foldl (fun a i => a * ns.getD i 0 + cs.getD i 0) s.1 := fun xs => by
    induction xs with
    | nil => intro s; rfl
    | cons x xs ih => intro s; exact ih _
  simp only [s_seq, s_ret, s_bind, e_V]
  show some (nD _) = _
  rw [key, fold_zip (fun s n c => s * n + c) ns cs 0 (fun i a => a * ns.getD i 0 + cs.getD i 0) hc.1 fun i n c e e' s => by rw [getD_of e, getD_of e'], plc_fold]
/-! ## what a form says -/
theorem testOk_at {ns cs : List Nat} {c : Cond} (hc : Case ns cs) (h : TestOk ns c) : ∃ v, cs[c.1]? = some v ∧ cs.getD c.1 0 = v := by
  obtain ⟨n, e, _⟩ := h
  obtain ⟨v, e2, _⟩ := hc.at e
  exact ⟨v, e2, getD_of e2⟩
theorem asc_len : ∀ {vs : List Nat} {lo n : Nat}, AscFrom lo n vs → lo + vs.length ≤ max lo n
  | [], _, _, _ => by simp; omega
  | v :: vs, lo, n, ⟨h1, h2, h3⟩ => by
    have := asc_len h3
    simp only [List.length_cons]
    omega
theorem conds_len {ns : List Nat} {cs : List Cond} (h : CondsOk ns cs) : cs.length ≤ ns.length := by
  have := asc_len h.1
  simp at this
  omega
theorem g_fits_ok {ns cs : List Nat} {r : List Cond} (hn : Sz ns) (hc : Case ns cs) (h : CondsOk ns r) : g_fits [condsD r, nsD cs] = some (.bool (fitsB cs r)) := by
  rw [r_fits]
  have l24 := hn.1
  have lr := conds_len h
  simp [v_fits]
  rw [lcy condD (fun c => .bool (c.2.contains (cs.getD c.1 0))) (fun c => [.pl (condsD r), .pl (nsD cs), .pl (nD c.1), .pl (.tuple (c.2.map nD))]) (xs := r) (by simp) (by simp [freeAt]) (by omega) (by intro c _; simp [condD]) (by simp) (by
    intro c hr
    obtain ⟨v, e1, e2⟩ := testOk_at hc (h.2 c hr)
    simp [e1, e2])]
  simp [e_allT, fitsB]
theorem g_first_ok {ns cs : List Nat} {rs : List Rule} {l : Bool} (hn : Sz ns) (hc : Case ns cs) (h : ∀ r ∈ rs, CondsOk ns r.1) :
    g_p_first_result [.tuple (rs.map ruleD), .bool l, nsD cs] = some (.bool (match rs.find? fun r => fitsB cs r.1 with
      | some r => r.2
      | none => l)) := by
  rw [r_p_first_result]
  have e := for_fst (g := gTupD 2 (gConsD (gN 3) (gConsD (gN 4) gNilD))) (b := sIf (mTru (mCall g_fits (mCons (mV 3) (mCons (mV 2) mNil)))) (sRet (mV 4)) sNil) ruleD
    (fun o => [.pl (.tuple (rs.map ruleD)), .pl (.bool l), .pl (nsD cs), (match o with | some r => .pl (condsD r.1) | none => .un), (match o with | some r => .pl (.bool r.2) | none => .un)])
    (fun r => fitsB cs r.1) (fun r => .bool r.2) (xs := rs) (o := none) (by
      intro o r hr
      refine ⟨[.pl (.tuple (rs.map ruleD)), .pl (.bool l), .pl (nsD cs), .pl (condsD r.1), .pl (.bool r.2)], [.pl (.tuple (rs.map ruleD)), .pl (.bool l), .pl (nsD cs), .pl (condsD r.1), .pl (.bool r.2)], by cases o <;> simp [ruleD], ?_⟩
      simp only [s_if, s_bind, e_tru, e_bind, e_call, e_cons, e_V, e_nil]
      simp [g_fits_ok hn hc (h r hr)]
      cases fitsB cs r.1 <;> simp)
  simp [v_p_first_result]
  rcases e with ⟨r, r2, e1, e2⟩ | ⟨e1, o, e2⟩
  · rw [e2, e1]; simp
  · rw [e2, e1]; simp
theorem ix_map {α : Type} {f : α → PyData} {xs : List α} {i : Nat} {v : α} (h : xs[i]? = some v) : ixM (.tuple (xs.map f)) (nD i) = some (f v) := by rw [e_ix_t, h]; rfl
theorem ix_mapL {α : Type} {f : α → PyData} {xs : List α} {i : Nat} {v : α} (h : xs[i]? = some v) : ixM (.list (xs.map f)) (nD i) = some (f v) := by rw [e_ix_l, h]; rfl
theorem sum_range : ∀ (ws : List (List Int)) (cs : List Nat), ws.length = cs.length → ((List.range cs.length).map fun i => (ws.getD i []).getD (cs.getD i 0) 0).sum = wsum ws cs
  | [], [], _ => rfl
  | w :: ws, c :: cs, h => by
    rw [List.length_cons, List.range_succ_eq_map, List.map_cons, List.map_map, List.sum_cons, wsum, ← sum_range ws cs (by simpa using h)]
    rfl
  | [], _ :: _, h => by simp at h
  | _ :: _, [], h => by simp at h
theorem g_wsum_ok {ns cs : List Nat} {ws : List (List Int)} (hn : Sz ns) (hc : Case ns cs) (h1 : ws.length = ns.length) (h2 : ∀ (i n : Nat) (w : List Int), ns[i]? = some n → ws[i]? = some w → w.length = n) :
    g_sum_of_weights [.tuple (ws.map rowD), nsD cs] = some (.int (wsum ws cs)) := by
  rw [r_sum_of_weights]
  have l24 := hn.1
  have lc := hc.1
  simp [v_sum_of_weights]
  rw [lcy nD (fun i => .int ((ws.getD i []).getD (cs.getD i 0) 0)) (fun i => [.pl (.tuple (ws.map rowD)), .pl (nsD cs), .pl (nD i)]) (xs := List.range cs.length) (by simp [e_rng cs.length (by omega)]) (by simp [freeAt]) (by simp; omega) (by simp) (by simp) (by
    intro i hi
    have li := List.mem_range.mp hi
    have ln : i < ns.length := by omega
    have lw : i < ws.length := by omega
    have e1 := List.getElem?_eq_getElem ln
    have e2 := List.getElem?_eq_getElem lw
    obtain ⟨c, e3, hcn⟩ := hc.at e1
    have hw := h2 i _ _ e1 e2
    have e4 : ws[i][c]? = some ws[i][c] := List.getElem?_eq_getElem (by omega)
    rw [getD_of e2, getD_of e3, getD_of e4]
    simp only [e_op2, e_bind, e_V, e_lift_some, List.getElem?_cons_zero, List.getElem?_cons_succ, ix_map e2, ix_mapL e3, rowD, ix_map e4])]
  simp only [e_bind, e_ret, e_lift_some, s_ret, s_bind, o_rt]
  rw [e_sumF, sum_range ws cs (by omega)]
  simp
theorem g_join_ok (w : Jw) (bs : List Bool) : g_p_join_answers [.str w.str, .list (bs.map PyData.bool)] = some (.bool (w.ev bs)) := by
  rw [r_p_join_answers]
  cases w with
  | and =>
    simp [v_p_join_answers, Jw.str, Jw.ev]
    induction bs with
    | nil => simp
    | cons b bs ih => cases b <;> simp_all
  | or =>
    simp [v_p_join_answers, Jw.str, Jw.ev]
    induction bs with
    | nil => simp
    | cons b bs ih => cases b <;> simp_all
  | odd =>
    simp [v_p_join_answers, Jw.str, Jw.ev, e_count_b]
    rw [List.count]
    congr 3
    funext x
    cases x <;> rfl
theorem g_alone_ok {ns cs : List Nat} (hn : Sz ns) (hc : Case ns cs) {x : Frm} (h : x.Ok ns) (hx : match x with | .tree .. => False | .neg .. => False | .join .. => False | _ => True) :
    g_p_says_alone [nsD ns, x.D, nsD cs] = some (.bool (x.ev ns cs)) := by
  rw [r_p_says_alone]
  cases x with
  | say b => simp [v_p_says_alone, Frm.D, Frm.ev]
  | test f vs =>
    rw [Frm.Ok] at h
    obtain ⟨v, e1, e2⟩ := testOk_at hc h
    simp [v_p_says_alone, Frm.D, Frm.ev, e1]
  | rules rs l =>
    rw [Frm.Ok] at h
    simp [v_p_says_alone, Frm.D, Frm.ev, g_first_ok hn hc h.2]
    all_goals (cases List.find? (fun r => fitsB cs r.fst) rs <;> rfl)
  | card ws t =>
    rw [Frm.Ok] at h
    simp [v_p_says_alone, Frm.D, Frm.ev, g_wsum_ok hn hc h.1 h.2]
  | table rs =>
    rw [Frm.Ok] at h
    have := plc_lt (a := 0) hc
    have e : rs[plc 0 ns cs]? = some rs[plc 0 ns cs] := List.getElem?_eq_getElem (by omega)
    simp [v_p_says_alone, Frm.D, Frm.ev, g_place_ok hn hc, ix_map e, e]
  | tree f bs => exact hx.elim
  | neg x => exact hx.elim
  | join w xs => exact hx.elim
theorem g_says_ok {ns cs : List Nat} (hn : Sz ns) (hc : Case ns cs) (x : Frm) : ∀ k, x.Ok ns → x.dp < k → g_says k [nsD ns, x.D, nsD cs] = some (.bool (x.ev ns cs)) := by
  induction x using Frm.ind with
  | say b => intro k h hk; cases k with | zero => omega | succ k => rw [r_says]; have := g_alone_ok hn hc h trivial; rw [Frm.D] at this; simp [v_says, Frm.D, this]
  | test f vs => intro k h hk; cases k with | zero => omega | succ k => rw [r_says]; have := g_alone_ok hn hc h trivial; rw [Frm.D] at this; simp [v_says, Frm.D, this]
  | rules rs l => intro k h hk; cases k with | zero => omega | succ k => rw [r_says]; have := g_alone_ok hn hc h trivial; rw [Frm.D] at this; simp [v_says, Frm.D, this]
  | card ws t => intro k h hk; cases k with | zero => omega | succ k => rw [r_says]; have := g_alone_ok hn hc h trivial; rw [Frm.D] at this; simp [v_says, Frm.D, this]
  | table rs => intro k h hk; cases k with | zero => omega | succ k => rw [r_says]; have := g_alone_ok hn hc h trivial; rw [Frm.D] at this; simp [v_says, Frm.D, this]
  | tree f bs ih =>
    intro k h hk
    cases k with
    | zero => omega
    | succ k =>
      rw [Frm.Ok] at h
      rw [Frm.dp] at hk
      obtain ⟨c, e1, e2⟩ := hc.at h.1
      have eb : bs[c]? = some bs[c] := List.getElem?_eq_getElem e2
      have hm : bs[c] ∈ bs := List.getElem_mem e2
      have := ih _ hm k (Frm.Oks_iff.mp h.2 _ hm) (by have := Frm.dps_le hm; omega)
      rw [r_says]
      simp [v_says, Frm.D, Frm.ev, Frm.Ds_eq, Frm.evs_eq, e1, ix_map eb, this, eb]
  | neg x ih =>
    intro k h hk
    cases k with
    | zero => omega
    | succ k =>
      rw [Frm.Ok] at h
      rw [Frm.dp] at hk
      have := ih k h (by omega)
      rw [r_says]
      simp [v_says, Frm.D, Frm.ev, this]
  | join w xs ih =>
    intro k h hk
    cases k with
    | zero => omega
    | succ k =>
      rw [Frm.Ok] at h
      rw [Frm.dp] at hk
      rw [r_says]
      have lc := lcy (vs := [3]) (mi := mSeq (mOp2 ixM (mV 1) (M.ret (.int 1)))) (g := gN 3) (me := mCall (g_says k) (mCons (mV 0) (mCons (mV 3) (mCons (mV 2) mNil)))) (r := [.pl (nsD ns), .pl (Frm.join w xs).D, .pl (nsD cs), .un])
        Frm.D (fun x => .bool (x.ev ns cs)) (fun x => [.pl (nsD ns), .pl (Frm.join w xs).D, .pl (nsD cs), .pl x.D]) (xs := xs) (by simp [Frm.D, Frm.Ds_eq]) (by simp [freeAt]) (by omega) (by simp) (by simp) (by
          intro x hx
          have := ih x hx k (Frm.Oks_iff.mp h.2 _ hx) (by have := Frm.dps_le hx; omega)
          simp [this])
      have e : (xs.map fun x => PyData.bool (x.ev ns cs)) = (xs.map (Frm.ev ns cs)).map PyData.bool := by rw [List.map_map]; rfl
      rw [e] at lc
      have j := g_join_ok w (xs.map (Frm.ev ns cs))
      rw [Frm.D, Frm.Ds_eq] at lc
      cases w <;> (simp only [Jw.str] at lc j; simp [-List.map_map, v_says, Frm.D, Frm.ev, Frm.Ds_eq, Frm.evs_eq, Jw.str, lc, j])
@[simp] theorem e_add_nn {a b : Nat} : addM (nD a) (nD b) = some (nD (a + b)) := e_add_n
@[simp] theorem e_add_l {a n : Nat} : addM (nD a) (.int (no_index (@OfNat.ofNat Int n instOfNat))) = some (nD (a + n)) := e_add_n
@[simp] theorem e_add_r {a n : Nat} : addM (.int (no_index (@OfNat.ofNat Int n instOfNat))) (nD a) = some (nD (n + a)) := e_add_n
theorem asc_of : ∀ {xs : List Nat} {lo n : Nat}, xs.Pairwise (· < ·) → (∀ x ∈ xs, lo ≤ x ∧ x < n) → AscFrom lo n xs
  | [], _, _, _, _ => trivial
  | x :: xs, lo, n, hp, h => by
    obtain ⟨h1, h2⟩ := List.pairwise_cons.mp hp
    have hx := h x (List.mem_cons_self ..)
    exact ⟨hx.1, hx.2, asc_of h2 fun y hy => ⟨h1 y hy, (h y (List.mem_cons_of_mem _ hy)).2⟩⟩
theorem asc_filter {n : Nat} {p : Nat → Bool} : AscFrom 0 n ((List.range n).filter p) :=
  asc_of (List.Pairwise.filter _ List.pairwise_lt_range) fun x hx => ⟨Nat.zero_le _, List.mem_range.mp (List.mem_filter.mp hx).1⟩
theorem mul_ok {a b : Nat} (ha : a ≤ 100000000) (hb : b ≤ 100000000) : mulM (nD a) (nD b) = some (nD (a * b)) := e_mul_n (lt_big ha) (lt_big hb)
end DL
namespace DL
open PySem PySem.Spec PyProof.Rows L2 Lk
section
variable {r : En} {m : M (List PyData)} {mq : M PQ} {md : M PyData} {i : Nat} {z : PyData} {ds bs : List PyData}
@[simp] theorem e_callQ {g : List PyData → Option PQ} : mCallQ g m r = M.bind m (fun ds => M.lift (g ds)) r := rfl
@[simp] theorem s_setQ : sSetQ i mq r = sBind mq (fun z => match z with
  | .inl d => sPut i d
  | .inr ds => sPutO i ds) r := rfl
@[simp] theorem s_retF : sRetF m r = sBind m (fun ds r => some (.rf ds r)) r := rfl
@[simp] theorem s_retQ : sRetQ mq r = sBind mq (fun z r => match z with
  | .inl d => some (.rt d r)
  | .inr ds => some (.rf ds r)) r := rfl
@[simp] theorem s_retO : sRetO i r = (match r[i]? with
  | some (.ow ds) => some (.rf ds r)
  | _ => none) := rfl
@[simp] theorem q_rt : outQ (some (.rt z r)) = some (.inl z) := rfl
@[simp] theorem q_nx : outQ (some (.nx r)) = some (.inl .none) := rfl
@[simp] theorem q_rf : outQ (some (.rf ds r)) = some (.inr ds) := rfl
@[simp] theorem m_rt : outM (some (.rt z r)) = (ioAt r).map fun bs => (z, bs) := rfl
@[simp] theorem m_nx : outM (some (.nx r)) = (ioAt r).map fun bs => (.none, bs) := rfl
@[simp] theorem m_io : ioAt (.io bs :: r) = some bs := rfl
@[simp] theorem e_bits : mBits md r = M.bind md (fun d => M.lift ((asInt d).map fun i => .int (Builtin.Int.intBits i : Nat))) r := rfl
@[simp] theorem e_callM {g : List PyData → List PyData → Option (PyData × List PyData)} : mCallM i m g r = if (ownOf r[i]?).isSome then (m.bind fun ds r => match ownOf r[i]? with
  | some bs => (g bs ds).map fun z => .ok z.1 (upO i z.2 r)
  | none => none) r else none := rfl
@[simp] theorem e_peek {mt : M Bool} : mPeek mt r = if r.all noIo then (match mt (fz r) with
  | some (.ok b _) => some (.ok b r)
  | some (.ex c p) => some (.ex c p)
  | none => none) else none := rfl
@[simp] theorem e_peekV {md : M PyData} : mPeekV md r = if r.all noIo then (match md (fz r) with
  | some (.ok d _) => if atomD d then some (.ok d r) else none
  | some (.ex c p) => some (.ex c p)
  | none => none) else none := rfl
@[simp] theorem e_peekF {m : M (List PyData)} : mPeekF m r = if r.all noIo then (match m (fz r) with
  | some (.ok ds _) => if ds.all atomD then some (.ok ds r) else none
  | some (.ex c p) => some (.ex c p)
  | none => none) else none := rfl
@[simp] theorem e_callX {g : List PyData → Option PX} : mCallX g m r = M.bind m (fun ds r => match g ds with
  | some (.inl z) => some (.ok z r)
  | some (.inr c) => some (.ex c [])
  | none => none) r := rfl
@[simp] theorem s_raise {c : Str} : sRaise c r = some (.ex c []) := rfl
@[simp] theorem x_rt : outX (some (.rt z r)) = some (.inl z) := rfl
@[simp] theorem x_nx : outX (some (.nx r)) = some (.inl .none) := rfl
@[simp] theorem x_ex {c : Str} : outX (some (.ex c [])) = some (.inr c) := rfl
@[simp] theorem s_okNx {d : PyData} : okNx d r = some (.nx r) := rfl
@[simp] theorem s_try {L : List Str} {g : List PyData → Option PX} {hs : List (Str × SM)} {ok : PyData → SM} : sTry L g m hs ok r = (match m r with
  | some (.ok ds r') => match g ds with
    | some (.inl z) => ok z r'
    | some (.inr c) => if L.contains c then (match pick c hs with
      | some sv => sv r'
      | none => none) else none
    | none => none
  | _ => none) := rfl
end
/-! ## own lists seen as data -/
def fzC : Cel → Cel
  | .ow ds => .pl (.list ds)
  | c => c
theorem fzTo_at {r : En} : ∀ {n j : Nat}, (fzTo n r)[j]? = if j < n then r[j]?.map fzC else r[j]?
  | 0, j => by simp [fzTo]
  | n + 1, j => by
    have ih := @fzTo_at r n
    have hn := ih (j := n)
    rw [if_neg (by omega)] at hn
    have len : ∀ m, (fzTo m r).length = r.length := fun m => by
      induction m with
      | zero => rfl
      | succ m im =>
        rw [fzTo]
        split
        · rw [List.length_set]; exact im
        · exact im
    rw [fzTo]
    by_cases hj : j = n
    · subst hj
      rw [if_pos (by omega)]
      split
      · rename_i ds e
        rw [hn] at e
        rw [List.getElem?_set_self (by rw [len]; exact (List.getElem?_eq_some_iff.mp e).1), e]
        rfl
      · rename_i e
        rw [hn]
        cases h : r[j]? with
        | none => rfl
        | some c =>
          cases c with
          | ow ds => exact (e ds (hn.trans h)).elim
          | _ => rfl
    · have q : (fzTo n r)[j]? = if j < n + 1 then r[j]?.map fzC else r[j]? := by
        rw [ih]
        by_cases h : j < n
        · rw [if_pos h, if_pos (by omega)]
        · rw [if_neg h, if_neg (by omega)]
      split
      · rw [List.getElem?_set_ne (Ne.symm hj)]
        exact q
      · exact q
theorem fz_map {r : En} : fz r = r.map fzC := List.ext_getElem? fun j => by
  unfold fz
  rw [fzTo_at, List.getElem?_map]
  split
  · rfl
  · rename_i h
    rw [List.getElem?_eq_none (by omega)]
    rfl
@[simp] theorem fz_nil : fz [] = [] := rfl
@[simp] theorem fz_cons {c : Cel} {r : En} : fz (c :: r) = fzC c :: fz r := by rw [fz_map, fz_map]; rfl
@[simp] theorem fzC_ow {ds : List PyData} : fzC (.ow ds) = .pl (.list ds) := rfl
@[simp] theorem fzC_pl {d : PyData} : fzC (.pl d) = .pl d := rfl
@[simp] theorem fzC_un : fzC .un = .un := rfl
@[simp] theorem noIo_ow {ds : List PyData} : noIo (.ow ds) = true := rfl
@[simp] theorem noIo_pl {d : PyData} : noIo (.pl d) = true := rfl
@[simp] theorem noIo_un : noIo .un = true := rfl
@[simp] theorem atom_int {i : Int} : atomD (.int i) = true := rfl
@[simp] theorem atom_bool {i : Bool} : atomD (.bool i) = true := rfl
@[simp] theorem atom_none : atomD .none = true := rfl
@[simp] theorem atom_str {s : Str} : atomD (.str s) = true := rfl
end DL
namespace DL
open PySem PySem.Spec PyProof.Rows L2 Lk
/-! ## masks: what the program makes of them -/
theorem band_n (a b : Nat) : andM (nD a) (nD b) = some (nD (a &&& b)) := by
  show some (PyData.int (Builtin.bitAnd (a : Int) (b : Int))) = _
  rw [bitAnd_pp (Int.natCast_nonneg a) (Int.natCast_nonneg b), Int.toNat_natCast, Int.toNat_natCast]
  rfl
theorem bor_n (a b : Nat) : orM (nD a) (nD b) = some (nD (a ||| b)) := by
  show some (PyData.int (Builtin.bitOr (a : Int) (b : Int))) = _
  rw [bitOr_nn (Int.natCast_nonneg _) (Int.natCast_nonneg _), Int.toNat_natCast, Int.toNat_natCast]
  rfl
theorem bxor_n (a b : Nat) : xorM (nD a) (nD b) = some (nD (a ^^^ b)) := by
  show some (PyData.int (Builtin.bitXor (a : Int) (b : Int))) = _
  have h : Builtin.bitXor (a : Int) (b : Int) = ((a ^^^ b : Nat) : Int) := by
    rw [bitXor_and, bitAnd_pp (Int.natCast_nonneg a) (Int.natCast_nonneg b), Int.toNat_natCast, Int.toNat_natCast]
    have := Fa.xor_add a b
    omega
  rw [h]
  rfl
theorem shl_n {n : Nat} (h : n ≤ 1000) : shlM (.int 1) (nD n) = some (nD (2 ^ n)) := by
  show (if _ then _ else _) = _
  have b1 : Builtin.Int.intBits (1 : Int) = 1 := by decide
  rw [if_pos (by rw [b1]; omega), Int.toNat_natCast, Int.one_mul]
  show some (PyData.int _) = some (PyData.int _)
  congr 2
theorem shr_n {v k : Nat} : shrM (nD v) (nD k) = some (nD (v / 2 ^ k)) := by
  have := e_shrI (a := (v : Int)) (b := (k : Int)) (by omega)
  rw [Int.toNat_natCast] at this
  refine Eq.trans this ?_
  show some (PyData.int _) = some (PyData.int _)
  congr 2
theorem bit1_n {v k : Nat} : andM (nD (v / 2 ^ k)) (.int 1) = some (nD (v / 2 ^ k % 2)) := by
  have := band_n (v / 2 ^ k) 1
  rw [Nat.and_one_is_mod] at this
  exact this
theorem bit_eq {v k : Nat} : (v / 2 ^ k % 2 == 1) = v.testBit k := by
  rw [Nat.testBit_eq_decide_div_mod_eq, Bool.eq_iff_iff, beq_iff_eq, decide_eq_true_iff]
theorem tru_n {v : Nat} : truD (nD v) = some (v != 0) := by
  show some (((v : Nat) : Int) != 0) = _
  congr 1
  rw [Bool.eq_iff_iff, bne_iff_ne, bne_iff_ne]
  omega
theorem bit_ne {v k : Nat} : (v / 2 ^ k % 2 != 0) = v.testBit k := by
  rw [← bit_eq, Bool.eq_iff_iff, bne_iff_ne, beq_iff_eq]
  omega
theorem eq_nQ {a b : Nat} : eqM (nD a) (nD b) = some (.bool (a == b)) := by
  rw [e_eqD (Sh.n).sh (Sh.n).sh, eqv_n]
theorem ne_nQ {a b : Nat} : neM (nD a) (nD b) = some (.bool (!(a == b))) := by
  rw [e_neD (Sh.n).sh (Sh.n).sh, eqv_n]
theorem g_mask_of_ok {n : Nat} {ms : List Nat} (hn : n ≤ 100) (hm : ∀ m ∈ ms, m < n) : g_mask_of [nD n, nsD ms] = some (nD (Fa.maskOf n ms)) := by
  rw [r_mask_of]
  obtain ⟨r2, e, done, c3, rfl, _, hd, _⟩ := for_i (g := gN 3) (b := sSet 2 (mOp2 orM (mV 2) (mOp2 shlM (M.ret (.int 1)) (mOp2 subM (mOp2 subM (mV 0) (M.ret (.int 1))) (mV 3))))) nD
    (fun xs r => ∃ (a : Nat) (c3 : Cel), r = [.pl (nD n), .pl (nsD ms), .pl (nD a), c3] ∧ c3.own = false ∧ xs.foldl (fun a m => a ||| 2 ^ (n - 1 - m)) a = Fa.maskOf n ms ∧ ∀ m ∈ xs, m < n)
    (xs := ms) (r := [.pl (nD n), .pl (nsD ms), .pl (nD 0), .un]) ⟨0, .un, rfl, rfl, rfl, hm⟩ (by
      rintro m xs r ⟨a, c3, rfl, h3, ha, hx⟩
      have lm := hx m (List.mem_cons_self ..)
      have s1 : subM (nD n) (.int 1) = some (nD (n - 1)) := by
        show some (PyData.int ((n : Int) - 1)) = some (PyData.int ((n - 1 : Nat) : Int))
        congr 2
        omega
      have s2 : subM (nD (n - 1)) (nD m) = some (nD (n - 1 - m)) := by
        show some (PyData.int (((n - 1 : Nat) : Int) - m)) = some (PyData.int ((n - 1 - m : Nat) : Int))
        congr 2
        omega
      exact ⟨[.pl (nD n), .pl (nsD ms), .pl (nD a), .pl (nD m)], [.pl (nD n), .pl (nsD ms), .pl (nD (a ||| 2 ^ (n - 1 - m))), .pl (nD m)], by simp [h3], by simp [s1, s2, shl_n (n := n - 1 - m) (by omega), bor_n], _, _, rfl, rfl, ha, fun k hk => hx k (List.mem_cons_of_mem _ hk)⟩)
  rw [List.foldl_nil] at hd
  subst hd
  have n0 : PyData.int 0 = nD 0 := rfl
  rw [← n0] at e
  simp [v_mask_of]
  rw [e]
  simp
def memL (n b : Nat) : List Nat := (List.range n).filter fun m => b.testBit (n - 1 - m)
theorem g_members_of_ok {n b : Nat} (hn : n ≤ 100) : g_members_of [nD n, nD b] = some (nsD (memL n b)) := by
  rw [r_members_of]
  have lc := lcm (vs := [2]) (mi := mRng1 (mCons (mV 0) mNil)) (g := gN 2) (mt := mTru (mOp2 andM (mOp2 shrM (mV 1) (mOp2 subM (mOp2 subM (mV 0) (M.ret (.int 1))) (mV 2))) (M.ret (.int 1)))) (me := mV 2) (r := [.pl (nD n), .pl (nD b), .un])
    nD (fun m => b.testBit (n - 1 - m)) nD (fun m => [.pl (nD n), .pl (nD b), .pl (nD m)]) (xs := List.range n) (by simp [e_rng_n n (by omega)]) (by simp [freeAt]) (by simp; omega) (by simp) (by simp) (by
      intro m hm
      have lm := List.mem_range.mp hm
      have s1 : subM (nD n) (.int 1) = some (nD (n - 1)) := by
        show some (PyData.int ((n : Int) - 1)) = some (PyData.int ((n - 1 : Nat) : Int))
        congr 2
        omega
      have s2 : subM (nD (n - 1)) (nD m) = some (nD (n - 1 - m)) := by
        show some (PyData.int (((n - 1 : Nat) : Int) - m)) = some (PyData.int ((n - 1 - m : Nat) : Int))
        congr 2
        omega
      simp [s1, s2, shr_n, bit1_n, tru_n, bit_ne, bit_eq]) (by simp)
  simp [v_members_of, lc]
  rfl
/-! ## the ascending list -/
def srt (M : List Nat) : List Nat := (sortI (M.map Int.ofNat)).map Int.toNat
theorem srt_perm (M : List Nat) : (srt M).Perm M := by
  have h := (sortI_perm (M.map Int.ofNat)).map Int.toNat
  rw [List.map_map] at h
  refine h.trans (List.Perm.of_eq ?_)
  refine (List.map_congr_left fun x _ => ?_).trans (List.map_id M)
  rfl
theorem srt_ints (M : List Nat) : sortI (M.map Int.ofNat) = (srt M).map Int.ofNat := by
  unfold srt
  rw [List.map_map]
  refine ((List.map_congr_left fun x hx => ?_).trans (List.map_id _)).symm
  have := (sortI_perm (M.map Int.ofNat)).mem_iff.mp hx
  obtain ⟨m, _, rfl⟩ := List.mem_map.mp this
  rfl
theorem srt_sorted (M : List Nat) : (srt M).Pairwise (· ≤ ·) := by
  have h := sortI_sorted (M.map Int.ofNat)
  rw [srt_ints, List.pairwise_map] at h
  exact h.imp fun h => by simpa using h
theorem intsOf_n (M : List Nat) : intsOf (M.map nD) = some (M.map Int.ofNat) := by
  induction M with
  | nil => rfl
  | cons m M ih =>
    show (intsOf (M.map nD)).map ((m : Int) :: ·) = _
    rw [ih]
    rfl
theorem g_ascending_ok {M : List Nat} (hl : M.length ≤ 1000000) : g_ascending_numbers [nsD M] = some (nsD (srt M)) := by
  rw [r_ascending_numbers]
  have i1 : ∀ n : Nat, intM [nD n] = some (nD n) := fun _ => rfl
  have lc := lcy (vs := [1]) (mi := mSeq (mV 0)) (g := gN 1) (me := mCall intM (mCons (mV 1) mNil)) (r := [.pl (nsD M), .un]) nD nD (fun m => [.pl (nsD M), .pl (nD m)]) (xs := M) (by simp) (by simp [freeAt]) hl (by simp) (by simp) (by
    intro m _
    simp [i1])
  have so : sortedM [.list (M.map nD)] = some ((srt M).map nD) := by
    show (intsOf (M.map nD)).map _ = _
    rw [intsOf_n]
    show some ((sortI (M.map Int.ofNat)).map PyData.int) = _
    rw [srt_ints, List.map_map]
    rfl
  simp [v_ascending_numbers, lc, so]
end DL
namespace DL
open PySem PySem.Spec PyProof.Rows L2 Lk
abbrev setsD (n : Nat) (rows : List Nat) : PyData := .list (rows.map fun b => nsD (Fa.lset n b))
theorem lset_asc (n b : Nat) : AscFrom 0 n (Fa.lset n b) := asc_filter
theorem lset_len (n b : Nat) : (Fa.lset n b).length ≤ n := Nat.le_trans (List.length_filter_le ..) (by simp)
theorem all_true {α : Type} {xs : List α} : allM [.list (xs.map fun _ => PyData.bool true)] = some (.bool true) := by
  have := e_all (bs := xs.map fun _ => true)
  rw [List.map_map] at this
  refine Eq.trans this ?_
  simp
theorem g_read_family_ok {n : Nat} {rows : List Nat} (hn : n ≤ 10) (hl : rows.length ≤ 300) : g_p_read_family [nD n, setsD n rows] = some (nsD (rows.map (Fa.rev n))) := by
  rw [r_p_read_family]
  have bl : g_is_integer_below [nD n, .int 11] = some (.bool true) := by
    have := g_below_n n 11
    rw [decide_eq_true (by omega)] at this
    exact this
  have is : ∀ b, g_p_is_set [nD n, nsD (Fa.lset n b)] = some (.bool true) := fun b => by
    rw [r_p_is_set]
    have := g_asc (d := nsD (Fa.lset n b)) (lim := n) rfl (lset_asc n b)
    simp [v_p_is_set, this]
  have l1 := lcy (vs := [2]) (mi := mSeq (mV 1)) (g := gN 2) (me := mCall g_p_is_set (mCons (mV 0) (mCons (mV 2) mNil))) (r := [.pl (nD n), .pl (setsD n rows), .un]) (fun b => nsD (Fa.lset n b)) (fun _ => .bool true) (fun b => [.pl (nD n), .pl (setsD n rows), .pl (nsD (Fa.lset n b))]) (xs := rows) (by simp) (by simp [freeAt]) (by omega) (by simp) (by simp) (by
    intro b _
    simp [is])
  have l2 := lcy (vs := [2]) (mi := mSeq (mV 1)) (g := gN 2) (me := mCall g_mask_of (mCons (mV 0) (mCons (mV 2) mNil))) (r := [.pl (nD n), .pl (setsD n rows), .un]) (fun b => nsD (Fa.lset n b)) (fun b => nD (Fa.rev n b)) (fun b => [.pl (nD n), .pl (setsD n rows), .pl (nsD (Fa.lset n b))]) (xs := rows) (by simp) (by simp [freeAt]) (by omega) (by simp) (by simp) (by
    intro b _
    have := g_mask_of_ok (n := n) (ms := Fa.lset n b) (by omega) fun m hm => (Fa.lset_mem.mp hm).1
    simp [this]
    rfl)
  have gl : gtM (.int (rows.length : Int)) (.int 300) = some (.bool false) := by
    show some (PyData.bool (decide ((300 : Int) < rows.length))) = _
    rw [decide_eq_false (by omega)]
  have a11 : addM (.int 10) (.int 1) = some (.int 11) := rfl
  simp [-List.map_map, v_p_read_family, a11, bl, l1, gl, all_true, l2]
  rw [List.map_map]
  rfl
/-! ## least masks -/
structure Least (M L : List Nat) : Prop where
  sub : ∀ x ∈ L, x ∈ M
  cov : ∀ y ∈ M, ∃ x ∈ L, x &&& y = x
  min : ∀ x ∈ L, ∀ y ∈ M, y &&& x = y → y = x
theorem part_trans {x y z : Nat} (h1 : x &&& y = x) (h2 : y &&& z = y) : x &&& z = x := by
  apply Nat.eq_of_testBit_eq
  intro i
  have e1 := congrArg (fun w => w.testBit i) h1
  have e2 := congrArg (fun w => w.testBit i) h2
  simp only [Nat.testBit_and] at e1 e2 ⊢
  revert e1 e2
  cases x.testBit i <;> cases y.testBit i <;> cases z.testBit i <;> simp
theorem mpart_le {x y : Nat} (h : x &&& y = x) : x ≤ y := by
  rw [← h]
  exact Nat.and_le_right
theorem g_least_masks_ok {M : List Nat} (hl : M.length ≤ 2000) : ∃ L : List Nat, g_least_masks [nsD M] = some (nsD L) ∧ Least M L ∧ L.length ≤ M.length := by
  rw [r_least_masks]
  have sp := srt_perm M
  have ss := srt_sorted M
  have ls := sp.length_eq
  obtain ⟨r2, e, P, L, c2, rfl, _, hP, hLl, hL⟩ := for_i (g := gN 2) (b := sIf (mPeek (mNotT (mTru (mCall anyM (mCons (mNew (mLc [3] (mSeq (mV 1)) (gN 3) mYes (mOp2 eqM (mOp2 andM (mV 3) (mV 2)) (mV 3)))) mNil)))))
    (sApp 1 (mV 2))
    sNil) nD
    (fun xs r => ∃ (P L : List Nat) (c2 : Cel), r = [.pl (nsD M), .ow (L.map nD), c2, .un] ∧ c2.own = false ∧ srt M = P ++ xs ∧ L.length ≤ P.length ∧ Least P L)
    (xs := srt M) (r := [.pl (nsD M), .ow [], .un, .un]) ⟨[], [], .un, rfl, rfl, rfl, Nat.le_refl _, by simp, by simp, by simp⟩ (by
      rintro m xs r ⟨P, L, c2, rfl, h2, hP, hLl, hL⟩
      have hPl : P.length ≤ 2000 := by
        have := congrArg List.length hP
        rw [List.length_append] at this
        omega
      have lc := lcy (vs := [3]) (mi := mSeq (mV 1)) (g := gN 3) (me := mOp2 eqM (mOp2 andM (mV 3) (mV 2)) (mV 3)) (r := [.pl (nsD M), .pl (nsD L), .pl (nD m), .un]) nD (fun p => .bool (p &&& m == p)) (fun p => [.pl (nsD M), .pl (nsD L), .pl (nD m), .pl (nD p)]) (xs := L) (by simp) (by simp [freeAt]) (by omega) (by simp) (by simp) (by
        intro p _
        simp only [e_op2, e_bind, e_V, List.getElem?_cons_zero, List.getElem?_cons_succ, band_n, e_lift_some, eq_nQ])
      have an : anyM [.list (L.map fun p => .bool (p &&& m == p))] = some (.bool (L.any fun p => p &&& m == p)) := by
        have := e_any (bs := L.map fun p => p &&& m == p)
        rw [List.map_map, List.any_map] at this
        exact this
      have le : ∀ y ∈ P, y ≤ m := fun y hy => by
        rw [hP, List.pairwise_append] at ss
        exact ss.2.2 y hy m (List.mem_cons_self ..)
      have lL : L.length ≤ 1000000 := by omega
      cases q : L.any fun p => p &&& m == p with
      | true =>
        rw [q] at an
        refine ⟨[.pl (nsD M), .ow (L.map nD), .pl (nD m), .un], [.pl (nsD M), .ow (L.map nD), .pl (nD m), .un], by simp [h2], by simp [-List.map_map, lc, an], P ++ [m], L, .pl (nD m), rfl, rfl, by rw [List.append_assoc]; exact hP, by simp; omega, ?_⟩
        obtain ⟨z, hz, hzm⟩ := List.any_eq_true.mp q
        have hzm := beq_iff_eq.mp hzm
        refine ⟨fun x hx => List.mem_append_left _ (hL.sub x hx), fun y hy => ?_, fun x hx y hy hyx => ?_⟩
        · rcases List.mem_append.mp hy with hy | hy
          · exact hL.cov y hy
          · rw [List.mem_singleton.mp hy]; exact ⟨z, hz, hzm⟩
        · rcases List.mem_append.mp hy with hy | hy
          · exact hL.min x hx y hy hyx
          · rw [List.mem_singleton.mp hy] at hyx ⊢
            have := mpart_le hyx
            have := le x (hL.sub x hx)
            omega
      | false =>
        rw [q] at an
        refine ⟨[.pl (nsD M), .ow (L.map nD), .pl (nD m), .un], [.pl (nsD M), .ow ((L ++ [m]).map nD), .pl (nD m), .un], by simp [h2], by simp [-List.map_map, lc, an, lL], P ++ [m], L ++ [m], .pl (nD m), rfl, rfl, by rw [List.append_assoc]; exact hP, by simp; omega, ?_⟩
        have no : ∀ z ∈ L, ¬ z &&& m = z := fun z hz h => by
          have := List.any_eq_false.mp q z hz
          rw [h] at this
          simp at this
        refine ⟨fun x hx => ?_, fun y hy => ?_, fun x hx y hy hyx => ?_⟩
        · rcases List.mem_append.mp hx with hx | hx
          · exact List.mem_append_left _ (hL.sub x hx)
          · exact List.mem_append_right _ hx
        · rcases List.mem_append.mp hy with hy | hy
          · obtain ⟨x, hx, h⟩ := hL.cov y hy
            exact ⟨x, List.mem_append_left _ hx, h⟩
          · rw [List.mem_singleton.mp hy]
            exact ⟨m, List.mem_append_right _ (List.mem_singleton.mpr rfl), Nat.and_self m⟩
        · rcases List.mem_append.mp hx with hx | hx <;> rcases List.mem_append.mp hy with hy | hy
          · exact hL.min x hx y hy hyx
          · rw [List.mem_singleton.mp hy] at hyx ⊢
            have := mpart_le hyx
            have := le x (hL.sub x hx)
            omega
          · rw [List.mem_singleton.mp hx] at hyx ⊢
            obtain ⟨z, hz, h⟩ := hL.cov y hy
            exact absurd (part_trans h hyx) (no z hz)
          · rw [List.mem_singleton.mp hx, List.mem_singleton.mp hy])
  rw [List.append_nil] at hP
  subst hP
  refine ⟨L, ?_, ⟨fun x hx => sp.mem_iff.mp (hL.sub x hx), fun y hy => hL.cov y (sp.mem_iff.mpr hy), fun x hx y hy => hL.min x hx y (sp.mem_iff.mpr hy)⟩, by omega⟩
  simp [v_least_masks, g_ascending_ok (M := M) (by omega)]
  rw [e]
  simp
theorem Least.iff {M L : List Nat} (h : Least M L) {x : Nat} : x ∈ L ↔ x ∈ M ∧ ∀ y ∈ M, y &&& x = y → y = x := by
  constructor
  · exact fun hx => ⟨h.sub x hx, h.min x hx⟩
  · rintro ⟨hx, hm⟩
    obtain ⟨z, hz, hzx⟩ := h.cov x hx
    rw [← hm z (h.sub z hz) hzx]
    exact hz
end DL
namespace DL
open PySem PySem.Spec PyProof.Rows L2 Lk
theorem set_range {N j : Nat} {f : Nat → Bool} {b : Bool} : ((List.range N).map f).set j b = (List.range N).map fun i => if i = j then b else f i := by
  refine List.ext_getElem? fun i => ?_
  rw [List.getElem?_set, List.getElem?_map, List.getElem?_map]
  by_cases h : i < N
  · rw [List.getElem?_range h]
    by_cases e : j = i
    · subst e
      simp [h]
    · have : ¬ i = j := fun z => e z.symm
      simp [e, this]
  · rw [List.getElem?_eq_none (by simp; omega)]
    split
    · split
      · rename_i h1 h2
        subst h1
        simp at h2
        omega
      · rfl
    · rfl
theorem ixN_nat {N j : Nat} (h : j < N) : ixN N (j : Int) = some j := by
  unfold ixN
  rw [if_pos (by omega), if_pos (by omega)]
  simp
theorem at_range {N j : Nat} {f : Nat → Bool} (h : j < N) : atI (((List.range N).map f).map PyData.bool) (j : Int) = some (.bool (f j)) := by
  unfold atI
  rw [List.length_map, List.length_map, List.length_range, ixN_nat h]
  simp [h]
theorem and_pow {j k : Nat} : (j &&& 2 ^ k != 0) = j.testBit k := by
  have : j &&& 2 ^ k = if j.testBit k then 2 ^ k else 0 := by
    apply Nat.eq_of_testBit_eq
    intro i
    rw [Nat.testBit_and, Nat.testBit_two_pow]
    by_cases e : k = i
    · subst e
      cases h : j.testBit k <;> simp [h]
    · cases h : j.testBit k <;> simp [e]
  rw [this]
  cases j.testBit k
  · simp
  · simp
theorem g_tell_holding_ok {n : Nat} {S : List Nat} (hn : n ≤ 10) (hM : ∀ m ∈ S, m < 2 ^ n) : g_p_tell_holding [nD n, nsD S] = some (.list (((List.range (2 ^ n)).map (Fa.hold S)).map PyData.bool)) := by
  rw [r_p_tell_holding]
  have N1 : 2 ^ n ≤ 1024 := Nat.le_trans (Nat.pow_le_pow_right (by decide) hn) (by decide)
  obtain ⟨N, hN⟩ : ∃ N, N = 2 ^ n := ⟨_, rfl⟩
  have sh := shl_n (n := n) (by omega)
  rw [← hN] at sh N1 hM
  have ai : ∀ n : Nat, asInt (nD n) = some (n : Int) := fun _ => rfl
  have rp : repM [.bool false] (nD N) = some (((List.range N).map fun i => decide (i ∈ ([] : List Nat))).map PyData.bool) := by
    show (if _ then _ else _) = _
    have e1 : ((N : Nat) : Int).natAbs = N := by omega
    have e2 : ((N : Nat) : Int).toNat = N := by omega
    rw [if_pos (by rw [e1, e2]; exact ⟨by omega, by simp; omega⟩), e2, List.map_map]
    congr 1
    clear hN N1 hM sh e1 e2
    induction N with
    | zero => rfl
    | succ N ih => rw [List.replicate_succ', List.flatten_append, ih, List.range_succ, List.map_append]; rfl
  obtain ⟨r2, e, P, c3, rfl, h3, hP, _⟩ := for_i (g := gN 3) (b := sPutIx 2 (mV 3) (M.ret (.bool true))) nD
    (fun xs r => ∃ (P : List Nat) (c3 : Cel), r = [.pl (nD n), .pl (nsD S), .ow (((List.range N).map fun i => decide (i ∈ P)).map PyData.bool), c3, .un, .un, .un] ∧ c3.own = false ∧ (∀ i, i ∈ S ↔ i ∈ P ∨ i ∈ xs) ∧ ∀ m ∈ xs, m < N)
    (xs := S) (r := [.pl (nD n), .pl (nsD S), .ow (((List.range N).map fun i => decide (i ∈ ([] : List Nat))).map PyData.bool), .un, .un, .un, .un]) ⟨[], .un, rfl, rfl, by simp, hM⟩ (by
      rintro m xs r ⟨P, c3, rfl, h3, hP, hx⟩
      have lm := hx m (List.mem_cons_self ..)
      refine ⟨[.pl (nD n), .pl (nsD S), .ow (((List.range N).map fun i => decide (i ∈ P)).map PyData.bool), .pl (nD m), .un, .un, .un], [.pl (nD n), .pl (nsD S), .ow (((List.range N).map fun i => decide (i ∈ m :: P)).map PyData.bool), .pl (nD m), .un, .un, .un], by simp [h3], ?_, m :: P, _, rfl, rfl, fun i => ?_, fun k hk => hx k (List.mem_cons_of_mem _ hk)⟩
      · have st : (((List.range N).map fun i => decide (i ∈ P)).map PyData.bool).set m (.bool true) = ((List.range N).map fun i => decide (i ∈ m :: P)).map PyData.bool := by
          rw [← List.map_set, set_range]
          congr 1
          refine List.map_congr_left fun i _ => ?_
          by_cases e : i = m
          · simp [e]
          · simp [e]
        simp only [s_putIx, s_bind, e_ret, e_own_ow, List.getElem?_cons_zero, List.getElem?_cons_succ, Option.isSome, if_true, e_V, ai, List.length_map, List.length_range, ixN_nat lm, Option.map, s_upO, s_re_ow, st, List.set_cons_succ, List.set_cons_zero]
      · rw [hP i, List.mem_cons, List.mem_cons]
        constructor
        · rintro (h | h | h)
          · exact .inl (.inr h)
          · exact .inl (.inl h)
          · exact .inr h
        · rintro ((h | h) | h)
          · exact .inr (.inl h)
          · exact .inl h
          · exact .inr (.inr h))
  have hP' : ∀ i, i ∈ S ↔ i ∈ P := fun i => by rw [hP i]; simp
  have l4 := lcy (vs := [5]) (mi := mRng1 (mCons (mV 0) mNil)) (g := gN 5) (me := mOp2 shlM (M.ret (.int 1)) (mV 5)) (r := [.pl (nD n), .pl (nsD S), .ow (((List.range N).map fun i => decide (i ∈ P)).map PyData.bool), c3, .un, .un, .un]) nD (fun k => nD (2 ^ k))
    (fun k => [.pl (nD n), .pl (nsD S), .ow (((List.range N).map fun i => decide (i ∈ P)).map PyData.bool), c3, .un, .pl (nD k), .un]) (xs := List.range n) (by simp [e_rng_n n (by omega)]) (by simp [freeAt]) (by simp; omega) (by simp) (by simp) (by
      intro k hk
      have := List.mem_range.mp hk
      simp [shl_n (n := k) (by omega)])
  obtain ⟨B, hB⟩ : ∃ B : PyData, B = .list ((List.range n).map fun k => nD (2 ^ k)) := ⟨_, rfl⟩
  obtain ⟨r3, e3, j, c3', rfl, _, hj, hjl⟩ := for_i (g := gN 3) (b := sIf (mTru (mCall anyM (mCons (mNew (mLc [6] (mSeq (mV 4)) (gN 6) (mTru (mOp2 andM (mV 3) (mV 6))) (mIxO 2 (mOp2 xorM (mV 3) (mV 6))))) mNil)))
    (sPutIx 2 (mV 3) (M.ret (.bool true)))
    sNil) nD
    (fun xs r => ∃ (j : Nat) (c3 : Cel), r = [.pl (nD n), .pl (nsD S), .ow (((List.range N).map fun i => if i < j then Fa.hold S i else decide (i ∈ S)).map PyData.bool), c3, .pl B, .un, .un] ∧ c3.own = false ∧ xs = (List.range N).drop j ∧ j ≤ N)
    (xs := List.range N) (r := [.pl (nD n), .pl (nsD S), .ow (((List.range N).map fun i => decide (i ∈ P)).map PyData.bool), c3, .pl B, .un, .un]) ⟨0, c3, by
      have : ((List.range N).map fun i => if i < 0 then Fa.hold S i else decide (i ∈ S)) = (List.range N).map fun i => decide (i ∈ P) := List.map_congr_left fun i _ => by simp [hP' i]
      rw [this], h3, rfl, Nat.zero_le _⟩ (by
      rintro j xs r ⟨j', c3, rfl, h3, hj, _⟩
      obtain ⟨rfl, lj, hx⟩ := range_drop hj
      obtain ⟨f, hf⟩ : ∃ f : Nat → Bool, f = fun i => if i < j then Fa.hold S i else decide (i ∈ S) := ⟨_, rfl⟩
      rw [← hf]
      have lc := lcm (vs := [6]) (mi := mSeq (mV 4)) (g := gN 6) (mt := mTru (mOp2 andM (mV 3) (mV 6))) (me := mIxO 2 (mOp2 xorM (mV 3) (mV 6))) (r := [.pl (nD n), .pl (nsD S), .ow (((List.range N).map f).map PyData.bool), .pl (nD j), .pl B, .un, .un]) (fun k => nD (2 ^ k)) (fun k => j.testBit k) (fun k => .bool (f (j ^^^ 2 ^ k)))
        (fun k => [.pl (nD n), .pl (nsD S), .ow (((List.range N).map f).map PyData.bool), .pl (nD j), .pl B, .un, .pl (nD (2 ^ k))]) (xs := List.range n) (by simp [hB]) (by simp [freeAt]) (by simp; omega) (by simp) (by simp) (by
          intro k _
          simp only [e_tru, e_op2, e_bind, e_V, List.getElem?_cons_zero, List.getElem?_cons_succ, band_n, e_lift_some, tru_n, and_pow]) (by
          intro k _ hk
          have lt := (Fa.sub_bit hk).1
          have ea := at_range (N := N) (f := f) (j := j ^^^ 2 ^ k) (by omega)
          simp only [e_ixO, e_own_ow, List.getElem?_cons_zero, List.getElem?_cons_succ, Option.isSome, if_true, e_op2, e_bind, e_V, bxor_n, e_lift_some, ai, ea, Option.map])
      have an : anyM [.list (((List.range n).filter fun k => j.testBit k).map fun k => .bool (f (j ^^^ 2 ^ k)))] = some (.bool ((List.range n).any fun k => j.testBit k && f (j ^^^ 2 ^ k))) := by
        have := e_any (bs := ((List.range n).filter fun k => j.testBit k).map fun k => f (j ^^^ 2 ^ k))
        rw [List.map_map, List.any_map, List.any_filter] at this
        exact this
      have hst := Fa.hold_step (ms := S) (n := n) (x := j) (by rw [← hN]; exact lj)
      have hany : ((List.range n).any fun k => j.testBit k && f (j ^^^ 2 ^ k)) = (List.range n).any fun k => j.testBit k && Fa.hold S (j ^^^ 2 ^ k) := by
        congr 1
        funext k
        cases hk : j.testBit k with
        | false => rfl
        | true =>
          have lt := (Fa.sub_bit hk).1
          rw [hf]
          simp [lt]
      rw [hany] at an
      have nx : ((List.range N).map fun i => if i < j + 1 then Fa.hold S i else decide (i ∈ S)) = (List.range N).map fun i => if i = j then Fa.hold S j else f i := List.map_congr_left fun i _ => by
        rw [hf]
        by_cases e : i = j
        · simp [e]
        · by_cases l : i < j
          · simp [e, l, show i < j + 1 by omega]
          · simp [e, l, show ¬ i < j + 1 by omega]
      refine ⟨[.pl (nD n), .pl (nsD S), .ow (((List.range N).map f).map PyData.bool), .pl (nD j), .pl B, .un, .un], [.pl (nD n), .pl (nsD S), .ow (((List.range N).map fun i => if i < j + 1 then Fa.hold S i else decide (i ∈ S)).map PyData.bool), .pl (nD j), .pl B, .un, .un], by simp [h3], ?_, j + 1, _, rfl, rfl, hx, lj⟩
      rw [nx]
      cases q : (List.range n).any fun k => j.testBit k && Fa.hold S (j ^^^ 2 ^ k) with
      | true =>
        rw [q] at an hst
        have st : (((List.range N).map f).map PyData.bool).set j (.bool true) = ((List.range N).map fun i => if i = j then Fa.hold S j else f i).map PyData.bool := by
          rw [← List.map_set, set_range, hst]
          simp
        simp only [s_if, s_bind, e_tru, e_call, e_cons, e_new, lc, e_bind, e_nil, e_ret, an, e_lift_some, e_truB, if_true, s_putIx, e_own_ow, List.getElem?_cons_zero, List.getElem?_cons_succ, Option.isSome, e_V, ai, List.length_map, List.length_range, ixN_nat lj, Option.map, s_upO, s_re_ow, st, List.set_cons_succ, List.set_cons_zero]
      | false =>
        rw [q] at an hst
        have st : ((List.range N).map f).map PyData.bool = ((List.range N).map fun i => if i = j then Fa.hold S j else f i).map PyData.bool := by
          congr 1
          refine List.map_congr_left fun i _ => ?_
          by_cases e : i = j
          · subst e
            rw [if_pos rfl, hst, hf]
            simp
          · rw [if_neg e]
        rw [← st]
        simp [-List.map_map, lc, an])
  have : j = N := by
    have e := congrArg List.length hj
    simp at e
    omega
  subst this
  have fin : ((List.range j).map fun i => if i < j then Fa.hold S i else decide (i ∈ S)) = (List.range j).map (Fa.hold S) := List.map_congr_left fun i hi => by rw [if_pos (List.mem_range.mp hi)]
  rw [fin] at e3
  have l4' : mNew (mLc [5] (mRng1 (mCons (mV 0) mNil)) (gN 5) mYes (mOp2 shlM (M.ret (.int 1)) (mV 5))) [.pl (nD n), .pl (nsD S), .ow (((List.range j).map fun i => decide (i ∈ P)).map PyData.bool), c3, .un, .un, .un] = some (.ok B [.pl (nD n), .pl (nsD S), .ow (((List.range j).map fun i => decide (i ∈ P)).map PyData.bool), c3, .un, .un, .un]) := by
    rw [hB]
    show M.bind _ _ _ = _
    unfold M.bind
    rw [l4]
    rfl
  have rN := e_rng_n j (by omega)
  rw [← hN]
  simp only [v_p_tell_holding, s_seq, s_own, s_bind, e_rep, e_bind, e_lst, e_cons, e_ret, e_nil, e_lst1, e_op2, e_V, List.getElem?_cons_zero, List.getElem?_cons_succ, sh, e_lift_some, rp, s_putO, List.set_cons_succ, List.set_cons_zero, s_for, e_seqI, e_asSeqL, e, s_set, l4', s_put, e_rng1, rN, e3]
  simp
end DL
namespace DL
open PySem PySem.Spec PyProof.Rows L2 Lk
variable {n : Nat} {S rows : List Nat}
theorem g_meeting_masks_ok (hn : n ≤ 10) (hS : ∀ m ∈ S, m < 2 ^ n) : g_meeting_masks [nD n, nsD S] = some (nsD ((List.range (2 ^ n)).filter (Fa.meetAll S))) := by
  rw [r_meeting_masks]
  have N1 : 2 ^ n ≤ 1024 := Nat.le_trans (Nat.pow_le_pow_right (by decide) hn) (by decide)
  have N0 : 0 < 2 ^ n := Nat.two_pow_pos n
  have th := g_tell_holding_ok hn hS
  have hc : ∀ m, m < 2 ^ n → (!Fa.hold S (2 ^ n - 1 - m)) = Fa.meetAll S m := fun m hm => Fa.hold_comp hS hm
  have sh := shl_n (n := n) (by omega)
  generalize 2 ^ n = N at N1 N0 th hc sh
  have s1 : subM (nD N) (.int 1) = some (nD (N - 1)) := by
    show some (PyData.int ((N : Int) - 1)) = some (PyData.int ((N - 1 : Nat) : Int))
    congr 2
    omega
  obtain ⟨Hd, hHd⟩ : ∃ Hd : PyData, Hd = .list (((List.range N).map (Fa.hold S)).map PyData.bool) := ⟨_, rfl⟩
  rw [← hHd] at th
  have lc := lcm (vs := [4]) (mi := mRng1 (mCons (mOp2 shlM (M.ret (.int 1)) (mV 0)) mNil)) (g := gN 4) (mt := mNotT (mTru (mOp2 ixM (mV 2) (mOp2 subM (mV 3) (mV 4))))) (me := mV 4) (r := [.pl (nD n), .pl (nsD S), .pl Hd, .pl (nD (N - 1)), .un])
    nD (Fa.meetAll S) nD (fun m => [.pl (nD n), .pl (nsD S), .pl Hd, .pl (nD (N - 1)), .pl (nD m)]) (xs := List.range N) (by simp [sh, e_rng_n N (by omega)]) (by simp [freeAt]) (by simp; omega) (by simp) (by simp) (by
      intro m hm
      have lm := List.mem_range.mp hm
      have s2 : subM (nD (N - 1)) (nD m) = some (nD (N - 1 - m)) := by
        show some (PyData.int (((N - 1 : Nat) : Int) - m)) = some (PyData.int ((N - 1 - m : Nat) : Int))
        congr 2
        omega
      have ix : ixM Hd (nD (N - 1 - m)) = some (.bool (Fa.hold S (N - 1 - m))) := by
        rw [hHd]
        exact at_range (by omega)
      simp [-e_ix_n, s2, ix, ← hc m lm]) (by simp)
  simp [v_meeting_masks, th, sh, s1, lc]
def minO : List Nat → Option Nat
  | [] => none
  | k :: ks => some (ks.foldl min k)
theorem fold_min (ks : List Nat) : ∀ k : Nat, (ks.map Int.ofNat).foldl min (k : Int) = ((ks.foldl min k : Nat) : Int) := by
  induction ks with
  | nil => intro k; rfl
  | cons a ks ih =>
    intro k
    rw [List.map_cons, List.foldl_cons, List.foldl_cons, ← ih]
    congr 1
    show min (k : Int) (a : Int) = _
    omega
theorem min_def (L : List Nat) : minDef (nsD L) = some (oD (minO L)) := by
  have h : asInts (L.map nD) = some (L.map Int.ofNat) := by
    have := asInts_map (L.map Int.ofNat)
    rw [List.map_map] at this
    exact this
  show (asInts (L.map nD)).map _ = _
  rw [h]
  cases L with
  | nil => rfl
  | cons k ks =>
    show some (PyData.int ((ks.map Int.ofNat).foldl min (k : Int))) = some (oD (some (ks.foldl min k)))
    rw [fold_min]
    rfl
theorem g_shortest_length_ok (hn : n ≤ 100) (hl : S.length ≤ 1000000) : g_shortest_length [nD n, nsD S] = some (oD (minO (S.map fun m => (memL n m).length))) := by
  rw [r_shortest_length]
  have lc := lcy (vs := [2]) (mi := mSeq (mV 1)) (g := gN 2) (me := mCall lenM (mCons (mCall g_members_of (mCons (mV 0) (mCons (mV 2) mNil))) mNil)) (r := [.pl (nD n), .pl (nsD S), .un]) nD (fun m => nD (memL n m).length) (fun m => [.pl (nD n), .pl (nsD S), .pl (nD m)]) (xs := S) (by simp) (by simp [freeAt]) hl (by simp) (by simp) (by
    intro m _
    have el : PyData.int ((memL n m).length : Int) = nD (memL n m).length := rfl
    simp [g_members_of_ok hn, el])
  have e : S.map (fun m => nD (memL n m).length) = (S.map fun m => (memL n m).length).map nD := by
    rw [List.map_map]
    rfl
  rw [e] at lc
  have md := min_def (S.map fun m => (memL n m).length)
  simp [-List.map_map, v_shortest_length, mMinDef, lc, md]
theorem g_shortest_meeting_ok (hn : n ≤ 10) (hl : rows.length ≤ 300) (hr : ∀ b ∈ rows, b < 2 ^ n) : g_shortest_meeting [nD n, setsD n rows] = some (oD (minO (((List.range (2 ^ n)).filter (Fa.meetAll (rows.map (Fa.rev n)))).map fun m => (memL n m).length))) := by
  rw [r_shortest_meeting]
  have N1 : 2 ^ n ≤ 1024 := Nat.le_trans (Nat.pow_le_pow_right (by decide) hn) (by decide)
  have rf := g_read_family_ok hn hl
  have hS : ∀ m ∈ rows.map (Fa.rev n), m < 2 ^ n := fun m hm => by
    obtain ⟨b, _, rfl⟩ := List.mem_map.mp hm
    exact Fa.rev_lt n b
  have mm := g_meeting_masks_ok hn hS
  have sl := g_shortest_length_ok (n := n) (S := (List.range (2 ^ n)).filter (Fa.meetAll (rows.map (Fa.rev n)))) (by omega) (Nat.le_trans (List.length_filter_le ..) (by simp; omega))
  simp [-List.map_map, v_shortest_meeting, rf, mm, sl]
theorem maskOf_one {m : Nat} : Fa.maskOf n [m] = 2 ^ (n - 1 - m) := by
  show 0 ||| 2 ^ (n - 1 - m) = _
  rw [Nat.zero_or]
theorem anyI_n {L : List Nat} {f : Nat → Nat} : anyI [.list (L.map fun x => nD (f x))] = some (.bool (L.any fun x => f x != 0)) := by
  have h : asInts (L.map fun x => nD (f x)) = some (L.map fun x => ((f x : Nat) : Int)) := by
    have := asInts_map (L.map fun x => ((f x : Nat) : Int))
    rw [List.map_map] at this
    exact this
  show (asInts (L.map fun x => nD (f x))).map _ = _
  rw [h]
  show some (PyData.bool ((L.map fun x => ((f x : Nat) : Int)).any _)) = _
  rw [List.any_map]
  congr 3
  funext x
  show (((f x : Nat) : Int) != 0) = _
  rw [Bool.eq_iff_iff, bne_iff_ne, bne_iff_ne]
  omega
theorem allI_n {L : List Nat} {f : Nat → Nat} : allI [.list (L.map fun x => nD (f x))] = some (.bool (L.all fun x => f x != 0)) := by
  have h : asInts (L.map fun x => nD (f x)) = some (L.map fun x => ((f x : Nat) : Int)) := by
    have := asInts_map (L.map fun x => ((f x : Nat) : Int))
    rw [List.map_map] at this
    exact this
  show (asInts (L.map fun x => nD (f x))).map _ = _
  rw [h]
  show some (PyData.bool ((L.map fun x => ((f x : Nat) : Int)).all _)) = _
  rw [List.all_map]
  congr 3
  funext x
  show (((f x : Nat) : Int) != 0) = _
  rw [Bool.eq_iff_iff, bne_iff_ne, bne_iff_ne]
  omega
theorem g_in_some_ok (hn : n ≤ 10) (hl : rows.length ≤ 300) : ∃ L, Least (rows.map (Fa.rev n)) L ∧ g_in_some [nD n, setsD n rows] = some (nsD ((List.range n).filter fun m => L.any fun x => x.testBit (n - 1 - m))) := by
  obtain ⟨L, gl, hL, lL⟩ := g_least_masks_ok (M := rows.map (Fa.rev n)) (by simp; omega)
  rw [List.length_map] at lL
  refine ⟨L, hL, ?_⟩
  rw [r_in_some]
  have rf := g_read_family_ok hn hl
  have lc := lcm (vs := [3]) (mi := mRng1 (mCons (mV 0) mNil)) (g := gN 3) (mt := mTru (mCall anyI (mCons (mNew (mLc [4] (mSeq (mV 2)) (gN 4) mYes (mOp2 andM (mV 4) (mCall g_mask_of (mCons (mV 0) (mCons (mNew (mLst (mCons (mV 3) mNil))) mNil)))))) mNil))) (me := mV 3)
    (r := [.pl (nD n), .pl (setsD n rows), .pl (nsD L), .un, .un]) nD (fun m => L.any fun x => x.testBit (n - 1 - m)) nD (fun m => [.pl (nD n), .pl (setsD n rows), .pl (nsD L), .pl (nD m), .un]) (xs := List.range n) (by simp [e_rng_n n (by omega)]) (by simp [freeAt]) (by simp; omega) (by simp) (by simp) (by
      intro m hm
      have lm := List.mem_range.mp hm
      have gm : g_mask_of [nD n, .list [nD m]] = some (nD (2 ^ (n - 1 - m))) := by
        have := g_mask_of_ok (n := n) (ms := [m]) (by omega) (by simpa using lm)
        rw [maskOf_one] at this
        exact this
      have l4 := lcy (vs := [4]) (mi := mSeq (mV 2)) (g := gN 4) (me := mOp2 andM (mV 4) (mCall g_mask_of (mCons (mV 0) (mCons (mNew (mLst (mCons (mV 3) mNil))) mNil)))) (r := [.pl (nD n), .pl (setsD n rows), .pl (nsD L), .pl (nD m), .un])
        nD (fun x => nD (x &&& 2 ^ (n - 1 - m))) (fun x => [.pl (nD n), .pl (setsD n rows), .pl (nsD L), .pl (nD m), .pl (nD x)]) (xs := L) (by simp) (by simp [freeAt]) (by omega) (by simp) (by simp) (by
        intro x _
        simp [gm, band_n])
      have an := anyI_n (L := L) (f := fun x => x &&& 2 ^ (n - 1 - m))
      simp only [and_pow] at an
      simp [-List.map_map, l4, an]) (by simp)
  simp [-List.map_map, v_in_some, rf, gl, lc]
theorem g_in_all_ok (hn : n ≤ 10) (hl : rows.length ≤ 300) : ∃ L, Least (rows.map (Fa.rev n)) L ∧ g_in_all [nD n, setsD n rows] = some (nsD ((List.range n).filter fun m => L.all fun x => x.testBit (n - 1 - m))) := by
  obtain ⟨L, gl, hL, lL⟩ := g_least_masks_ok (M := rows.map (Fa.rev n)) (by simp; omega)
  rw [List.length_map] at lL
  refine ⟨L, hL, ?_⟩
  rw [r_in_all]
  have rf := g_read_family_ok hn hl
  have lc := lcm (vs := [3]) (mi := mRng1 (mCons (mV 0) mNil)) (g := gN 3) (mt := mTru (mCall allI (mCons (mNew (mLc [4] (mSeq (mV 2)) (gN 4) mYes (mOp2 andM (mV 4) (mCall g_mask_of (mCons (mV 0) (mCons (mNew (mLst (mCons (mV 3) mNil))) mNil)))))) mNil))) (me := mV 3)
    (r := [.pl (nD n), .pl (setsD n rows), .pl (nsD L), .un, .un]) nD (fun m => L.all fun x => x.testBit (n - 1 - m)) nD (fun m => [.pl (nD n), .pl (setsD n rows), .pl (nsD L), .pl (nD m), .un]) (xs := List.range n) (by simp [e_rng_n n (by omega)]) (by simp [freeAt]) (by simp; omega) (by simp) (by simp) (by
      intro m hm
      have lm := List.mem_range.mp hm
      have gm : g_mask_of [nD n, .list [nD m]] = some (nD (2 ^ (n - 1 - m))) := by
        have := g_mask_of_ok (n := n) (ms := [m]) (by omega) (by simpa using lm)
        rw [maskOf_one] at this
        exact this
      have l4 := lcy (vs := [4]) (mi := mSeq (mV 2)) (g := gN 4) (me := mOp2 andM (mV 4) (mCall g_mask_of (mCons (mV 0) (mCons (mNew (mLst (mCons (mV 3) mNil))) mNil)))) (r := [.pl (nD n), .pl (setsD n rows), .pl (nsD L), .pl (nD m), .un])
        nD (fun x => nD (x &&& 2 ^ (n - 1 - m))) (fun x => [.pl (nD n), .pl (setsD n rows), .pl (nsD L), .pl (nD m), .pl (nD x)]) (xs := L) (by simp) (by simp [freeAt]) (by omega) (by simp) (by simp) (by
        intro x _
        simp [gm, band_n])
      have an := allI_n (L := L) (f := fun x => x &&& 2 ^ (n - 1 - m))
      simp only [and_pow] at an
      simp [-List.map_map, l4, an]) (by simp)
  simp [-List.map_map, v_in_all, rf, gl, lc]
end DL
/-! RA: the greatest number of sets of a family that do not touch one another -/
namespace DL
def Dis (S : List Nat) (room : Nat) (l : List Nat) : Prop := l.Pairwise (fun a b => a &&& b = 0) ∧ ∀ a ∈ l, a ∈ S ∧ a ≠ 0 ∧ a &&& room = a
def Nu (S : List Nat) (room v : Nat) : Prop := (∃ l, Dis S room l ∧ l.length = v) ∧ ∀ l, Dis S room l → l.length ≤ v
/-- the same, for those whose sets with bit k stand in P -/
def NuP (S : List Nat) (room k : Nat) (P : List Nat) (v : Nat) : Prop := (∃ l, Dis S room l ∧ l.length = v) ∧ ∀ l, Dis S room l → (∀ a ∈ l, a.testBit k = true → a ∈ P) → l.length ≤ v
variable {S P l : List Nat} {room k v u m a b : Nat}
theorem and_bits : a &&& b = a ↔ ∀ i, a.testBit i = true → b.testBit i = true := by
  constructor
  · intro h i hi
    rw [← h, Nat.testBit_and] at hi
    exact (Bool.and_eq_true_iff.mp hi).2
  · intro h
    apply Nat.eq_of_testBit_eq
    intro i
    rw [Nat.testBit_and]
    cases hi : a.testBit i with
    | false => rfl
    | true => rw [h i hi]; rfl
theorem and_zero : a &&& b = 0 ↔ ∀ i, a.testBit i = true → b.testBit i = false := by
  constructor
  · intro h i hi
    have := congrArg (fun z => z.testBit i) h
    simp only [Nat.testBit_and, hi, Nat.zero_testBit, Bool.true_and] at this
    exact this
  · intro h
    apply Nat.eq_of_testBit_eq
    intro i
    rw [Nat.testBit_and, Nat.zero_testBit]
    cases hi : a.testBit i with
    | false => rfl
    | true => rw [h i hi]; rfl
theorem sub_bits (h : m &&& room = m) (i : Nat) : (room - m).testBit i = (room.testBit i && !m.testBit i) := by
  have x := Fa.xor_add room m
  rw [Nat.and_comm, h] at x
  have e : room - m = room ^^^ m := by omega
  rw [e, Nat.testBit_xor]
  have := and_bits.mp h i
  cases hm : m.testBit i with
  | false => cases room.testBit i <;> rfl
  | true => rw [this hm]; rfl
theorem dis_cons : Dis S room (a :: l) ↔ (∀ b ∈ l, a &&& b = 0) ∧ (a ∈ S ∧ a ≠ 0 ∧ a &&& room = a) ∧ Dis S room l := by
  unfold Dis
  rw [List.pairwise_cons, List.forall_mem_cons]
  constructor
  · rintro ⟨⟨h1, h2⟩, h3, h4⟩
    exact ⟨h1, h3, h2, h4⟩
  · rintro ⟨h1, h3, h2, h4⟩
    exact ⟨⟨h1, h2⟩, h3, h4⟩
theorem dis_perm {l' : List Nat} (p : l.Perm l') (h : Dis S room l) : Dis S room l' :=
  ⟨(p.pairwise_iff fun {x y} (e : x &&& y = 0) => by rw [Nat.and_comm]; exact e).mp h.1, fun a ha => h.2 a (p.mem_iff.mpr ha)⟩
theorem nu_zero : Nu S 0 0 := ⟨⟨[], ⟨.nil, by simp⟩, rfl⟩, fun l h => by
  cases l with
  | nil => exact Nat.le_refl _
  | cons a l =>
    have := (h.2 a List.mem_cons_self).2
    rw [Nat.and_zero] at this
    exact absurd this.2.symm this.1⟩
theorem nuP_start (hk : room.testBit k = true) (h : Nu S (room - 2 ^ k) v) : NuP S room k [] v := by
  have pw : 2 ^ k &&& room = 2 ^ k := and_bits.mpr fun i hi => by
    rw [Nat.testBit_two_pow, decide_eq_true_iff] at hi
    rw [← hi]; exact hk
  have sb := sub_bits pw
  refine ⟨?_, fun l d no => h.2 l ⟨d.1, fun a ha => ⟨(d.2 a ha).1, (d.2 a ha).2.1, and_bits.mpr fun i hi => ?_⟩⟩⟩
  · obtain ⟨l, d, e⟩ := h.1
    refine ⟨l, ⟨d.1, fun a ha => ⟨(d.2 a ha).1, (d.2 a ha).2.1, and_bits.mpr fun i hi => ?_⟩⟩, e⟩
    have := and_bits.mp (d.2 a ha).2.2 i hi
    rw [sb] at this
    exact (Bool.and_eq_true_iff.mp this).1
  · rw [sb, Nat.testBit_two_pow]
    have h1 := and_bits.mp (d.2 a ha).2.2 i hi
    rw [h1]
    by_cases e : k = i
    · subst e
      exact absurd (no a ha hi) (by simp)
    · simp [e]
theorem nuP_no (hm : ¬ m &&& room = m) (h : NuP S room k P v) : NuP S room k (P ++ [m]) v :=
  ⟨h.1, fun l d no => h.2 l d fun a ha hk => by
    rcases List.mem_append.mp (no a ha hk) with h | h
    · exact h
    · rw [List.mem_singleton.mp h] at ha
      exact absurd (d.2 m ha).2.2 hm⟩
theorem nuP_more (hS : m ∈ S) (hm : m &&& room = m) (h0 : m ≠ 0) (hu : Nu S (room - m) u) (h : NuP S room k P v) : NuP S room k (P ++ [m]) (if v ≤ u then u + 1 else v) := by
  have sb := sub_bits hm
  constructor
  · split
    · obtain ⟨l, d, e⟩ := hu.1
      refine ⟨m :: l, dis_cons.mpr ⟨fun b hb => and_zero.mpr fun i hi => ?_, ⟨hS, h0, hm⟩, d.1, fun a ha => ⟨(d.2 a ha).1, (d.2 a ha).2.1, and_bits.mpr fun i hi => ?_⟩⟩, by rw [List.length_cons, e]⟩
      · cases hbi : b.testBit i with
        | false => rfl
        | true =>
          have := and_bits.mp (d.2 b hb).2.2 i hbi
          rw [sb, hi] at this
          simp at this
      · have := and_bits.mp (d.2 a ha).2.2 i hi
        rw [sb] at this
        exact (Bool.and_eq_true_iff.mp this).1
    · exact h.1
  · intro l d no
    by_cases hl : m ∈ l
    · have p := List.perm_cons_erase hl
      obtain ⟨d1, _, d2⟩ := dis_cons.mp (dis_perm p d)
      have := hu.2 _ ⟨d2.1, fun a ha => ⟨(d2.2 a ha).1, (d2.2 a ha).2.1, and_bits.mpr fun i hi => by
        rw [sb, and_bits.mp (d2.2 a ha).2.2 i hi]
        have := and_zero.mp (by rw [Nat.and_comm]; exact d1 a ha) i hi
        rw [this]; rfl⟩⟩
      have e := p.length_eq
      rw [List.length_cons] at e
      split <;> omega
    · have := h.2 l d fun a ha hk => by
        rcases List.mem_append.mp (no a ha hk) with h | h
        · exact h
        · rw [List.mem_singleton.mp h] at ha
          exact absurd ha hl
      split <;> omega
theorem nuP_end (h : NuP S room k P v) (hP : ∀ a ∈ S, a &&& room = a → a.testBit k = true → a ∈ P) : Nu S room v :=
  ⟨h.1, fun l d => h.2 l d fun a ha hk => hP a (d.2 a ha).1 (d.2 a ha).2.2 hk⟩
/-! ### the length of a mask -/
open PySem in
theorem bl_n (h : m ≠ 0) : Builtin.Int.intBits (m : Int) = m.log2 + 1 := by
  unfold Builtin.Int.intBits
  have : ((m : Int) == 0) = false := by rw [beq_eq_false_iff_ne]; omega
  rw [this]
  rfl
open PySem in
theorem bl_iff : Builtin.Int.intBits (m : Int) = k + 1 ↔ 2 ^ k ≤ m ∧ m < 2 ^ (k + 1) := by
  by_cases h : m = 0
  · subst h
    have := Nat.two_pow_pos k
    constructor
    · intro h
      cases h
    · intro h; omega
  · rw [bl_n h]
    constructor
    · intro e
      have e : m.log2 = k := by omega
      subst e
      exact ⟨Nat.log2_self_le h, (Nat.log2_lt h).mp (Nat.lt_succ_self _)⟩
    · rintro ⟨h1, h2⟩
      have := (Nat.log2_lt h).mpr h2
      have := (Nat.le_log2 h).mpr h1
      omega
theorem top_bit (h1 : 2 ^ k ≤ m) (h2 : m < 2 ^ (k + 1)) : m.testBit k = true := by
  have p := Nat.two_pow_pos k
  have e : m / 2 ^ k = 1 := by
    refine Nat.div_eq_of_lt_le (by omega) ?_
    rw [Nat.pow_succ] at h2
    omega
  rw [Nat.testBit_eq_decide_div_mod_eq, e]
  rfl
theorem bit_le (h : m.testBit k = true) : 2 ^ k ≤ m := by
  refine Nat.le_of_not_lt fun h2 => ?_
  rw [Nat.testBit_lt_two_pow h2] at h
  cases h
/-! ### a family, mirrored -/
theorem nu_rev {n : Nat} {rows : List Nat} (hr : ∀ b ∈ rows, b < 2 ^ n) (h : Nu (rows.map (Fa.rev n)) (2 ^ n - 1) v) : Nu rows (2 ^ n - 1) v := by
  have full : ∀ {a : Nat}, a < 2 ^ n → a &&& (2 ^ n - 1) = a := fun h => by rw [Nat.and_two_pow_sub_one_eq_mod]; exact Nat.mod_eq_of_lt h
  constructor
  · obtain ⟨l, d, e⟩ := h.1
    have back : ∀ a ∈ l, Fa.rev n a ∈ rows ∧ Fa.rev n (Fa.rev n a) = a := fun a ha => by
      obtain ⟨b, hb, eb⟩ := List.mem_map.mp (d.2 a ha).1
      rw [← eb, Fa.rev_rev (hr b hb)]
      exact ⟨hb, rfl⟩
    refine ⟨l.map (Fa.rev n), ⟨List.pairwise_map.mpr (d.1.imp fun {x y} e => by rw [Fa.rev_and, e, Fa.rev_zero]), fun a ha => ?_⟩, by rw [List.length_map]; exact e⟩
    obtain ⟨b, hb, rfl⟩ := List.mem_map.mp ha
    refine ⟨(back b hb).1, fun z => (d.2 b hb).2.1 ?_, full (Fa.rev_lt n b)⟩
    rw [← (back b hb).2, z, Fa.rev_zero]
  · intro l d
    have := h.2 (l.map (Fa.rev n)) ⟨List.pairwise_map.mpr (d.1.imp fun {x y} e => by rw [Fa.rev_and, e, Fa.rev_zero]), fun a ha => by
      obtain ⟨b, hb, rfl⟩ := List.mem_map.mp ha
      have lt := hr b (d.2 b hb).1
      exact ⟨List.mem_map.mpr ⟨b, (d.2 b hb).1, rfl⟩, fun z => (d.2 b hb).2.1 ((Fa.rev_eq_zero lt).mp z), full (Fa.rev_lt n b)⟩⟩
    rw [List.length_map] at this
    exact this
/-! ### a set that meets them all has as many members -/
theorem dis_meet {n : Nat} : ∀ (l : List Nat) (x : Nat), Dis S (2 ^ n - 1) l → (∀ a ∈ l, a &&& x ≠ 0) → l.length ≤ (Fa.lset n x).length
  | [], _, _, _ => Nat.zero_le _
  | a :: l, x, d, hm => by
    obtain ⟨d1, d2, d3⟩ := dis_cons.mp d
    have ⟨i, h1, h2⟩ : ∃ i, a.testBit i = true ∧ x.testBit i = true := by
      refine Classical.byContradiction fun no => hm a List.mem_cons_self (and_zero.mpr fun i hi => ?_)
      cases hx : x.testBit i with
      | false => rfl
      | true => exact absurd ⟨i, hi, hx⟩ no
    have hi : i < n := by
      have := and_bits.mp d2.2.2 i h1
      rw [Nat.testBit_two_pow_sub_one, decide_eq_true_iff] at this
      exact this
    obtain ⟨_, sx⟩ := Fa.sub_bit h2
    have ih := dis_meet l (x ^^^ 2 ^ i) d3 fun b hb z => hm b (List.mem_cons_of_mem _ hb) (and_zero.mpr fun j hj => by
      have q := and_zero.mp z j hj
      rw [sx] at q
      cases hx : x.testBit j with
      | false => rfl
      | true =>
        rw [hx] at q
        have e : i = j := by simpa using q
        subst e
        have := and_zero.mp (d1 b hb) i h1
        rw [this] at hj
        cases hj)
    have sub : ((i :: Fa.lset n (x ^^^ 2 ^ i))).length ≤ (Fa.lset n x).length := by
      refine Fa.nodup_len _ _ (List.nodup_cons.mpr ⟨fun h => ?_, (List.nodup_range).sublist List.filter_sublist⟩) fun y hy => ?_
      · have := (Fa.lset_mem.mp h).2
        rw [sx] at this
        simp at this
      · rcases List.mem_cons.mp hy with e | hy
        · rw [e]; exact Fa.lset_mem.mpr ⟨hi, h2⟩
        · obtain ⟨y1, y2⟩ := Fa.lset_mem.mp hy
          rw [sx] at y2
          exact Fa.lset_mem.mpr ⟨y1, (Bool.and_eq_true_iff.mp y2).1⟩
    rw [List.length_cons] at sub ⊢
    omega
end DL
namespace DL
open PySem PySem.Spec PyProof.Rows L2 Lk
variable {n : Nat} {S rows : List Nat}
def Cel.isIo : Cel → Bool
  | .io _ => true
  | _ => false
theorem s_put2 {i : Nat} {d : PyData} {r : En} : sPut i d r = (match r[i]? with
  | some c => if c.isIo then none else some (.nx (r.set i (.pl d)))
  | none => none) := by
  rw [s_put]
  cases r[i]? with
  | none => rfl
  | some c => cases c <;> rfl
theorem own_io {c : Cel} (h : c.own = false) : c.isIo = false := by cases c <;> first | rfl | cases h
@[simp] theorem io_pl {d : PyData} : (Cel.pl d).isIo = false := rfl
theorem e_rng2R {a b : Nat} (ha : a ≤ 1000000) (hb : b ≤ 1000000) : rngM [nD a, nD b] = some ((List.range' a (b - a)).map nD) := by
  show (if _ then _ else _) = _
  rw [if_pos ⟨by omega, by omega⟩]
  unfold rngL
  have : ((b : Int) - (a : Int)).toNat = b - a := by omega
  rw [this, List.range'_eq_map_range, List.map_map]
  refine congrArg some (List.map_congr_left fun v _ => ?_)
  show PyData.int _ = PyData.int _
  congr 1
def blS (S : List Nat) (L : Nat) : List Nat := S.filter fun m => Builtin.Int.intBits (m : Int) == L
def bysD (n : Nat) (S : List Nat) : PyData := .list ((List.range (n + 1)).map fun L => nsD (blS S L))
def inn20 : SM := (sIf (mAnd (mOpT eqM (mOp2 andM (mV 3) (mV 6)) (mV 3)) (mOpT geM (mIxO 5 (mOp2 subM (mV 6) (mV 3))) (mV 7)))
    (sSet 7 (mOp2 addM (mIxO 5 (mOp2 subM (mV 6) (mV 3))) (M.ret (.int 1))))
    sNil)
def bod20 : SM := (sSeq (sSet 2 (mBits (mV 6)))
  (sSeq (sSet 7 (mIxO 5 (mOp2 subM (mV 6) (mOp2 shlM (M.ret (.int 1)) (mOp2 subM (mV 2) (M.ret (.int 1)))))))
  (sSeq (sFor (mSeq (mOp2 ixM (mV 4) (mV 2))) (gN 3) inn20)
  (sApp 5 (mV 7)))))
theorem split20a : v_p_count_apart = (sSeq (sSet 4 (mNew (mLc [2] (mRng1 (mCons (mOp2 addM (mV 0) (M.ret (.int 1))) mNil)) (gN 2) mYes (mNew (mLc [3] (mSeq (mV 1)) (gN 3) (mOpT eqM (mBits (mV 3)) (mV 2)) (mV 3))))))
  (sSeq (sOwn 5 (mLst (mCons (M.ret (.int 0)) mNil)))
  (sSeq (sFor (mRng2 (mCons (M.ret (.int 1)) (mCons (mOp2 shlM (M.ret (.int 1)) (mV 0)) mNil))) (gN 6) bod20)
  (sRet (mIxO 5 (mNeg (M.ret (.int 1)))))))) := rfl
theorem sub_n {a b : Nat} (h : b ≤ a) : subM (nD a) (nD b) = some (nD (a - b)) := by
  show some (PyData.int ((a : Int) - b)) = some (PyData.int ((a - b : Nat) : Int))
  congr 2
  omega
theorem e_bitsN {m : Nat} : (asInt (nD m)).map (fun i => PyData.int (Builtin.Int.intBits i : Nat)) = some (nD (Builtin.Int.intBits (m : Int))) := rfl
theorem own_at {xs : List Nat} {i : Nat} : atI (xs.map nD) (i : Int) = (xs[i]?).map nD := e_ix_n (f := nD) (xs := xs) (i := i)
theorem ge_n {a b : Nat} : geM (nD a) (nD b) = some (.bool (decide (b ≤ a))) := by
  show some (PyData.bool (decide ((b : Int) ≤ (a : Int)))) = _
  congr 2
  rw [decide_eq_decide]
  omega
/-- the numbers of the rooms below j -/
def Most (S : List Nat) (T : List Nat) : Prop := ∀ r, r < T.length → ∃ v, T[r]? = some v ∧ Nu S r v
theorem inn_ok {k room v : Nat} {T : List Nat} {by' : PyData} {c3 : Cel} (h3 : c3.own = false) (hT : Most S T) (hr : room = T.length) (hk1 : 2 ^ k ≤ room) (hk2 : room < 2 ^ (k + 1)) (h0 : NuP S room k [] v) :
    ∃ r2 v' c3', forGo (gN 3) inn20 ((blS S (k + 1)).map nD) [.pl (nD n), .pl (nsD S), .pl (nD (k + 1)), c3, .pl by', .ow (T.map nD), .pl (nD room), .pl (nD v)] = some (.nx r2) ∧ Nu S room v' ∧ Cel.own c3' = false ∧
      r2 = [.pl (nD n), .pl (nsD S), .pl (nD (k + 1)), c3', .pl by', .ow (T.map nD), .pl (nD room), .pl (nD v')] := by
  obtain ⟨r2, e, v', P, c3', rfl, q3, hP, hN⟩ := for_i (g := gN 3) (b := inn20) nD
    (fun xs r => ∃ v P c3, r = [.pl (nD n), .pl (nsD S), .pl (nD (k + 1)), c3, .pl by', .ow (T.map nD), .pl (nD room), .pl (nD v)] ∧ Cel.own c3 = false ∧ blS S (k + 1) = P ++ xs ∧ NuP S room k P v)
    (xs := blS S (k + 1)) (r := [.pl (nD n), .pl (nsD S), .pl (nD (k + 1)), c3, .pl by', .ow (T.map nD), .pl (nD room), .pl (nD v)]) ⟨v, [], c3, rfl, h3, rfl, h0⟩ (by
      rintro m xs r ⟨v, P, c3, rfl, q3, hP, hN⟩
      have mm : m ∈ blS S (k + 1) := by rw [hP]; simp
      obtain ⟨mS, ml⟩ := List.mem_filter.mp mm
      obtain ⟨m1, m2⟩ := bl_iff.mp (beq_iff_eq.mp ml)
      have m0 : m ≠ 0 := by have := Nat.two_pow_pos k; omega
      have hP2 : blS S (k + 1) = (P ++ [m]) ++ xs := by rw [List.append_assoc]; exact hP
      by_cases hm : m &&& room = m
      · have le : m ≤ room := mpart_le hm
        obtain ⟨u, hu, nu⟩ := hT (room - m) (by omega)
        have b1 : (m &&& room == m) = true := by rw [hm]; exact beq_self_eq_true m
        have ix : atI (T.map nD) ((room - m : Nat) : Int) = some (nD u) := by rw [own_at, hu]; rfl
        have s1 := sub_n le
        have key := nuP_more mS hm m0 nu hN
        by_cases hv : v ≤ u
        · rw [if_pos hv] at key
          exact ⟨[.pl (nD n), .pl (nsD S), .pl (nD (k + 1)), .pl (nD m), .pl by', .ow (T.map nD), .pl (nD room), .pl (nD v)], [.pl (nD n), .pl (nsD S), .pl (nD (k + 1)), .pl (nD m), .pl by', .ow (T.map nD), .pl (nD room), .pl (nD (u + 1))],
            by simp [q3], by simp [-List.map_map, inn20, band_n, eq_nQ, b1, s1, ix, ge_n, hv], u + 1, P ++ [m], .pl (nD m), rfl, rfl, hP2, key⟩
        · rw [if_neg hv] at key
          exact ⟨[.pl (nD n), .pl (nsD S), .pl (nD (k + 1)), .pl (nD m), .pl by', .ow (T.map nD), .pl (nD room), .pl (nD v)], [.pl (nD n), .pl (nsD S), .pl (nD (k + 1)), .pl (nD m), .pl by', .ow (T.map nD), .pl (nD room), .pl (nD v)],
            by simp [q3], by simp [-List.map_map, inn20, band_n, eq_nQ, b1, s1, ix, ge_n, hv], v, P ++ [m], .pl (nD m), rfl, rfl, hP2, key⟩
      · have b1 : (m &&& room == m) = false := by rw [beq_eq_false_iff_ne]; exact hm
        exact ⟨[.pl (nD n), .pl (nsD S), .pl (nD (k + 1)), .pl (nD m), .pl by', .ow (T.map nD), .pl (nD room), .pl (nD v)], [.pl (nD n), .pl (nsD S), .pl (nD (k + 1)), .pl (nD m), .pl by', .ow (T.map nD), .pl (nD room), .pl (nD v)],
          by simp [q3], by simp [-List.map_map, inn20, band_n, eq_nQ, b1], v, P ++ [m], .pl (nD m), rfl, rfl, hP2, nuP_no hm hN⟩)
  rw [List.append_nil] at hP
  subst hP
  refine ⟨_, v', c3', e, nuP_end hN fun a ha h1 h2 => ?_, q3, rfl⟩
  refine List.mem_filter.mpr ⟨ha, beq_iff_eq.mpr (bl_iff.mpr ⟨bit_le h2, Nat.lt_of_le_of_lt (mpart_le h1) hk2⟩)⟩

theorem g_count_apart_ok (hn : n ≤ 10) (hl : S.length ≤ 1000) : ∃ v, g_p_count_apart [nD n, nsD S] = some (nD v) ∧ Nu S (2 ^ n - 1) v := by
  rw [r_p_count_apart, split20a]
  have N1 : 2 ^ n ≤ 1024 := Nat.le_trans (Nat.pow_le_pow_right (by decide) hn) (by decide)
  have N0 : 0 < 2 ^ n := Nat.two_pow_pos n
  have sh := shl_n (n := n) (by omega)
  have a1 : addM (nD n) (.int 1) = some (nD (n + 1)) := rfl
  have lo := lcy (vs := [2]) (mi := mRng1 (mCons (mOp2 addM (mV 0) (M.ret (.int 1))) mNil)) (g := gN 2) (me := mNew (mLc [3] (mSeq (mV 1)) (gN 3) (mOpT eqM (mBits (mV 3)) (mV 2)) (mV 3))) (r := [.pl (nD n), .pl (nsD S), .un, .un, .un, .un, .un, .un])
    nD (fun L => nsD (blS S L)) (fun L => [.pl (nD n), .pl (nsD S), .pl (nD L), .un, .un, .un, .un, .un]) (xs := List.range (n + 1)) (by simp [a1, e_rng_n (n + 1) (by omega)]) (by simp [freeAt]) (by simp; omega) (by simp) (by simp) (by
      intro L _
      have li := lcm (vs := [3]) (mi := mSeq (mV 1)) (g := gN 3) (mt := mOpT eqM (mBits (mV 3)) (mV 2)) (me := mV 3) (r := [.pl (nD n), .pl (nsD S), .pl (nD L), .un, .un, .un, .un, .un])
        nD (fun m => Builtin.Int.intBits (m : Int) == L) nD (fun m => [.pl (nD n), .pl (nsD S), .pl (nD L), .pl (nD m), .un, .un, .un, .un]) (xs := S) (by simp) (by simp [freeAt]) (by omega) (by simp) (by simp) (by
          intro m _
          have e : eqM (.int (Builtin.Int.intBits (m : Int) : Nat)) (nD L) = some (.bool (Builtin.Int.intBits (m : Int) == L)) := eq_nQ
          simp [e]) (by simp)
      simp [-List.map_map, li, blS])
  obtain ⟨r2, e, T, c2, c3, c6, c7, rfl, q2, q3, q6, q7, q8, hT⟩ := for_i (g := gN 6) (b := bod20) nD
    (fun xs r => ∃ (T : List Nat) (c2 c3 c6 c7 : Cel), r = [.pl (nD n), .pl (nsD S), c2, c3, .pl (bysD n S), .ow (T.map nD), c6, c7] ∧ c2.own = false ∧ c3.own = false ∧ c6.own = false ∧ c7.own = false ∧ (xs = List.range' T.length (2 ^ n - T.length) ∧ 1 ≤ T.length ∧ T.length ≤ 2 ^ n) ∧ Most S T)
    (xs := List.range' 1 (2 ^ n - 1)) (r := [.pl (nD n), .pl (nsD S), .un, .un, .pl (bysD n S), .ow [nD 0], .un, .un])
    ⟨[0], .un, .un, .un, .un, rfl, rfl, rfl, rfl, rfl, ⟨rfl, Nat.le_refl _, N0⟩, fun r hr => by
      have : r = 0 := by simpa using hr
      subst this
      exact ⟨0, rfl, nu_zero⟩⟩ (by
      rintro room xs r ⟨T, c2, c3, c6, c7, rfl, q2, q3, q6, q7, ⟨hx, t1, t2⟩, hT⟩
      have lt : T.length < 2 ^ n := by
        refine Nat.lt_of_le_of_ne t2 fun z => ?_
        rw [z, Nat.sub_self] at hx
        cases hx
      obtain ⟨d, hd⟩ : ∃ d, 2 ^ n - T.length = d + 1 := ⟨2 ^ n - T.length - 1, by omega⟩
      rw [hd, List.range'_succ] at hx
      obtain ⟨rfl, rfl⟩ := List.cons.inj hx
      generalize hR : T.length = room at *
      have r0 : room ≠ 0 := by omega
      obtain ⟨k, hk⟩ : ∃ k, room.log2 = k := ⟨_, rfl⟩
      have bl := bl_n r0
      rw [hk] at bl
      obtain ⟨k1, k2⟩ := bl_iff.mp bl
      have kn : k < n := by
        refine Nat.lt_of_not_le fun z => ?_
        have := Nat.pow_le_pow_right (n := 2) (by decide) z
        omega
      have kp := Nat.two_pow_pos k
      obtain ⟨v0, hv0, nu0⟩ := hT (room - 2 ^ k) (by omega)
      have start := nuP_start (top_bit k1 k2) nu0
      obtain ⟨r3, v', c3', ei, nuR, qc, rfl⟩ := inn_ok (n := n) (S := S) (by' := bysD n S) (c3 := c3) q3 hT hR.symm k1 k2 start
      have s1 : subM (nD (k + 1)) (.int 1) = some (nD k) := sub_n (b := 1) (by omega)
      have s2 := sub_n k1
      have sk := shl_n (n := k) (by omega)
      have ix : atI (T.map nD) ((room - 2 ^ k : Nat) : Int) = some (nD v0) := by rw [own_at, hv0]; rfl
      have ixb : ixM (bysD n S) (nD (k + 1)) = some (nsD (blS S (k + 1))) := by
        unfold bysD
        rw [e_ix_n, List.getElem?_range (by omega)]
        rfl
      have lT : (T.map nD).length ≤ 1000000 := by simp; omega
      refine ⟨[.pl (nD n), .pl (nsD S), c2, c3, .pl (bysD n S), .ow (T.map nD), .pl (nD room), c7], [.pl (nD n), .pl (nsD S), .pl (nD (k + 1)), c3', .pl (bysD n S), .ow ((T ++ [v']).map nD), .pl (nD room), .pl (nD v')], by simp [q6], ?_, T ++ [v'], _, _, _, _, rfl, rfl, qc, rfl, rfl, ⟨?_, by simp, by simp; omega⟩, ?_⟩
      · have bl' : PyData.int (Builtin.Int.intBits (room : Int) : Nat) = nD (k + 1) := by rw [bl]; rfl
        have i2 := own_io q2
        have i7 := own_io q7
        simp [-s_put, s_put2, i2, i7, -List.map_map, -e_ix_n, bod20, q2, q7, bl', s1, s2, sk, ix, ixb, ei]
        omega
      · rw [List.length_append, hR]
        show List.range' (room + 1) d = List.range' (room + 1) (2 ^ n - (room + 1))
        congr 1
        omega
      · intro r hr
        rw [List.length_append, List.length_singleton, hR] at hr
        by_cases e : r = room
        · subst e
          exact ⟨v', by rw [← hR]; simp, nuR⟩
        · obtain ⟨v, hv, nv⟩ := hT r (by omega)
          exact ⟨v, by rw [List.getElem?_append_left (by omega)]; exact hv, nv⟩)
  obtain ⟨hx, t1, t2⟩ := q8
  have lT : T.length = 2 ^ n := by
    have := congrArg List.length hx
    simp at this
    omega
  obtain ⟨v, hv, nv⟩ := hT (2 ^ n - 1) (by omega)
  have last : atI (T.map nD) (-1) = some (nD v) := by
    have ixn : ixN (T.map nD).length (-1) = some (2 ^ n - 1) := by
      unfold ixN
      rw [if_neg (by omega), if_pos (by rw [List.length_map, lT]; omega), List.length_map, lT]
      congr 1
      omega
    unfold atI
    rw [ixn]
    show (T.map nD)[2 ^ n - 1]? = _
    rw [List.getElem?_map, hv]
    rfl
  refine ⟨v, ?_, nv⟩
  have rg : rngM [.int 1, nD (2 ^ n)] = some ((List.range' 1 (2 ^ n - 1)).map nD) := e_rng2R (a := 1) (by omega) (by omega)
  have e' : forGo (gN 6) bod20 ((List.range' 1 (2 ^ n - 1)).map nD) [.pl (nD n), .pl (nsD S), .un, .un, .pl (.list ((List.range (n + 1)).map fun L => nsD (blS S L))), .ow [.int 0], .un, .un] = _ := e
  simp [-List.map_map, lo, sh, rg, e', last]
end DL
namespace DL
open PySem PySem.Spec PyProof.Rows L2 Lk
variable {n : Nat} {S rows C P l : List Nat} {full t v c x : Nat}
/-! ### what the law makes: covers by t sets -/
def wid (rows C : List Nat) : List Nat := C.flatMap fun c => (rows.filter fun r => !(r == 0) && (r &&& c == 0)).map fun r => c ||| r
def nxt (rows C : List Nat) : List Nat := (sortU ((wid rows C).map Int.ofNat)).map Int.toNat
def ors (l : List Nat) : Nat := l.foldr (· ||| ·) 0
def Cv (rows : List Nat) (full t : Nat) (C : List Nat) : Prop := ∀ c, c ∈ C ↔ ∃ l, Dis rows full l ∧ l.length = t ∧ ors l = c
theorem sortU_nat {W : List Nat} {z : Int} (h : z ∈ sortU (W.map Int.ofNat)) : ∃ k ∈ W, z = Int.ofNat k := by
  obtain ⟨k, hk, e⟩ := List.mem_map.mp (mem_sortU.mp h)
  exact ⟨k, hk, e.symm⟩
theorem mem_nxt : x ∈ nxt rows C ↔ x ∈ wid rows C := by
  unfold nxt
  constructor
  · intro h
    obtain ⟨z, hz, e⟩ := List.mem_map.mp h
    obtain ⟨k, hk, rfl⟩ := sortU_nat hz
    rw [← e]
    exact hk
  · intro h
    exact List.mem_map.mpr ⟨Int.ofNat x, mem_sortU.mpr (List.mem_map.mpr ⟨x, h, rfl⟩), rfl⟩
theorem nxt_ints : (sortU ((wid rows C).map Int.ofNat)).map PyData.int = (nxt rows C).map nD := by
  unfold nxt
  rw [List.map_map]
  refine List.map_congr_left fun z hz => ?_
  obtain ⟨k, _, rfl⟩ := sortU_nat hz
  rfl
theorem nxt_len {N : Nat} (h : ∀ x ∈ wid rows C, x < N) : (nxt rows C).length ≤ N := by
  have nd : (nxt rows C).Nodup := by
    unfold nxt
    refine List.pairwise_map.mpr ?_
    refine List.Pairwise.imp_of_mem (fun {a b} ha hb hab => ?_) (sortU_up ((wid rows C).map Int.ofNat))
    obtain ⟨k, _, rfl⟩ := sortU_nat ha
    obtain ⟨j, _, rfl⟩ := sortU_nat hb
    intro e
    have e : k = j := e
    subst e
    exact absurd hab (Int.lt_irrefl _)
  have := Fa.nodup_len (nxt rows C) (List.range N) nd fun x hx => List.mem_range.mpr (h x (mem_nxt.mp hx))
  simpa using this
theorem sortU_len : (sortU ((wid rows C).map Int.ofNat)).length = (nxt rows C).length := by
  unfold nxt
  rw [List.length_map]
theorem and_ors : ∀ {l : List Nat} {r : Nat}, r &&& ors l = 0 ↔ ∀ b ∈ l, r &&& b = 0
  | [], r => by simp [ors]
  | a :: l, r => by
    rw [show ors (a :: l) = a ||| ors l from rfl, Nat.and_or_distrib_left, Nat.or_eq_zero_iff, and_ors, List.forall_mem_cons]
theorem mem_wid : x ∈ wid rows C ↔ ∃ c ∈ C, ∃ r ∈ rows, r ≠ 0 ∧ r &&& c = 0 ∧ c ||| r = x := by
  unfold wid
  simp only [List.mem_flatMap, List.mem_map, List.mem_filter, Bool.and_eq_true, Bool.not_eq_true', beq_eq_false_iff_ne, beq_iff_eq]
  constructor
  · rintro ⟨c, hc, r, ⟨hr, h0, h1⟩, e⟩
    exact ⟨c, hc, r, hr, h0, h1, e⟩
  · rintro ⟨c, hc, r, hr, h0, h1, e⟩
    exact ⟨c, hc, r, ⟨hr, h0, h1⟩, e⟩
theorem cv_zero : Cv rows full 0 [0] := fun c => by
  rw [List.mem_singleton]
  constructor
  · rintro rfl
    exact ⟨[], ⟨.nil, by simp⟩, rfl, rfl⟩
  · rintro ⟨l, _, h, e⟩
    rw [List.length_eq_zero_iff.mp h] at e
    exact e.symm
theorem cv_step (hf : ∀ r ∈ rows, r &&& full = r) (h : Cv rows full t C) : Cv rows full (t + 1) (nxt rows C) := fun x => by
  rw [mem_nxt, mem_wid]
  constructor
  · rintro ⟨c, hc, r, hr, h0, h1, e⟩
    obtain ⟨l, d, hl, ho⟩ := (h c).mp hc
    rw [← ho] at h1
    exact ⟨r :: l, dis_cons.mpr ⟨and_ors.mp h1, ⟨hr, h0, hf r hr⟩, d⟩, by rw [List.length_cons, hl], by rw [show ors (r :: l) = r ||| ors l from rfl, ho, Nat.or_comm]; exact e⟩
  · rintro ⟨l, d, hl, ho⟩
    cases l with
    | nil => cases hl
    | cons r l =>
      obtain ⟨d1, d2, d3⟩ := dis_cons.mp d
      exact ⟨ors l, (h _).mpr ⟨l, d3, by simpa using hl, rfl⟩, r, d2.1, d2.2.1, and_ors.mpr d1, by rw [Nat.or_comm]; exact ho⟩
theorem ors_lt (hr : ∀ b ∈ rows, b < 2 ^ n) : ∀ {l : List Nat}, Dis rows full l → ors l < 2 ^ n
  | [], _ => Nat.two_pow_pos n
  | a :: l, d => by
    obtain ⟨d1, d2, d3⟩ := dis_cons.mp d
    exact Nat.or_lt_two_pow (hr a d2.1) (ors_lt hr d3)
theorem cv_lt (hr : ∀ b ∈ rows, b < 2 ^ n) (h : Cv rows full t C) : ∀ c ∈ C, c < 2 ^ n := fun c hc => by
  obtain ⟨l, d, _, rfl⟩ := (h c).mp hc
  exact ors_lt hr d
theorem cv_some (hv : Nu rows full v) (h : Cv rows full t C) : C.isEmpty = decide (v < t) := by
  by_cases q : v < t
  · rw [decide_eq_true q, List.isEmpty_iff]
    cases C with
    | nil => rfl
    | cons c C =>
      obtain ⟨l, d, e, _⟩ := (h c).mp List.mem_cons_self
      have := hv.2 l d
      omega
  · rw [decide_eq_false q]
    obtain ⟨l, d, e⟩ := hv.1
    have d2 : Dis rows full (l.take t) := ⟨d.1.sublist (List.take_sublist t l), fun a ha => d.2 a (List.mem_of_mem_take ha)⟩
    have m := (h (ors (l.take t))).mpr ⟨l.take t, d2, by rw [List.length_take]; omega, rfl⟩
    cases C with
    | nil => cases m
    | cons _ _ => rfl
/-! ### evaluation -/
theorem sh_nil : SeqAt.shaped (.list []) = true := shaped_of (by rw [PyData.canLay0, PyData.canLayAll0]) (by rw [PyData.depth, PyData.depthAll]; omega)
theorem sh_nsQ {as : List Nat} : SeqAt.shaped (nsD as) = true := (Sh.list fun _ _ => Sh.n).sh
theorem eqv_nsQ : ∀ {as bs : List Nat}, PyData.eqvAll (as.map nD) (bs.map nD) = (as == bs)
  | [], [] => by simp [PyData.eqvAll]
  | [], _ :: _ => by simp [PyData.eqvAll]
  | _ :: _, [] => by simp [PyData.eqvAll]
  | a :: as, b :: bs => by
    rw [List.map_cons, List.map_cons, PyData.eqvAll, eqv_nsQ, eqv_n]
    rfl
theorem ne_nilR {P : List Nat} : neM (nsD P) (.list []) = some (.bool (!P.isEmpty)) := by
  rw [e_neD sh_nsQ sh_nil, PyData.eqv]
  cases P <;> simp [PyData.eqvAll]
theorem ne_sets {n : Nat} {rows : List Nat} : neM (setsD n rows) (setsD n rows) = some (.bool false) := by
  have sh : SeqAt.shaped (setsD n rows) = true := Sh.sh (n := 2) (Sh.list (f := fun b => nsD (Fa.lset n b)) (xs := rows) (n := 1) fun _ _ => Sh.list fun _ _ => Sh.n) (by decide)
  rw [e_neD sh sh, PyData.eqv]
  have : PyData.eqvAll (rows.map fun b => nsD (Fa.lset n b)) (rows.map fun b => nsD (Fa.lset n b)) = true := by
    clear sh
    induction rows with
    | nil => simp [PyData.eqvAll]
    | cons b rows ih => rw [List.map_cons, PyData.eqvAll, ih, PyData.eqv, eqv_nsQ]; simp
  rw [this]
  rfl
theorem in_nR {k : Nat} {L : List Nat} : inM (nD k) (nsD L) = some (.bool (L.contains k)) := by
  show (if SeqAt.shaped (nD k) && SeqAt.shaped (nsD L) then _ else _) = _
  rw [sh_nsQ, (Sh.n).sh]
  show some (PyData.bool (memD _ _)) = _
  rw [memD_map (p := fun b => b == k) fun b _ => eqv_n]
  congr 2
  rw [Bool.eq_iff_iff, List.any_eq_true, List.contains_iff_mem]
  exact ⟨fun ⟨b, h, e⟩ => by rw [← beq_iff_eq.mp e]; exact h, fun h => ⟨k, h, beq_self_eq_true k⟩⟩
theorem g_law_setQ {b : Nat} (hn : n ≤ 1000) : g_law_set_3b7aa [nD b, nD n] = some (nsD (Fa.lset n b)) := by
  rw [r_law_set_3b7aa]
  have e1 : ∀ k : Nat, eqM (nD (b / 2 ^ k % 2)) (.int 1) = some (.bool (b.testBit k)) := fun k => by
    have := eq_nQ (a := b / 2 ^ k % 2) (b := 1)
    rw [bit_eq] at this
    exact this
  have lc := lcm (vs := [2]) (mi := mRng1 (mCons (mV 1) mNil)) (g := gN 2) (mt := mOpT eqM (mOp2 andM (mOp2 shrM (mV 0) (mV 2)) (M.ret (.int 1))) (M.ret (.int 1))) (me := mV 2) (r := [.pl (nD b), .pl (nD n), .un]) nD b.testBit nD (fun k => [.pl (nD b), .pl (nD n), .pl (nD k)]) (xs := List.range n) (by simp [e_rng_n n (by omega)]) (by simp [freeAt]) (by simp; omega) (by simp) (by simp) (by
    intro k _
    simp only [e_opT, e_op2, e_bind, e_V, List.getElem?_cons_zero, List.getElem?_cons_succ, shr_n, e_lift_some, e_ret, bit1_n, e1, Option.bind_some, e_asBool]) (by simp)
  simp [v_law_set_3b7aa, lc]
  rfl
@[simp] theorem e_sortU {m : M PyData} {r : En} : mSortU m r = M.bind m (fun d => M.lift (sortUM d)) r := rfl
theorem sortU_ok (h : (nxt rows C).length < 4000) : sortUM (nsD (wid rows C)) = some ((nxt rows C).map nD) := by
  have a : asInts ((wid rows C).map nD) = some ((wid rows C).map Int.ofNat) := by
    have := asInts_map ((wid rows C).map Int.ofNat)
    rw [List.map_map] at this
    exact this
  show (asInts ((wid rows C).map nD)).bind _ = _
  rw [a, Option.bind_some, sortU_len, if_pos h, nxt_ints]
theorem wid_snoc {c : Nat} : wid rows (P ++ [c]) = wid rows P ++ (rows.filter fun r => !(r == 0) && (r &&& c == 0)).map fun r => c ||| r := by
  unfold wid
  rw [List.flatMap_append, List.flatMap_cons, List.flatMap_nil, List.append_nil]
theorem wid_len : ∀ {P : List Nat}, (wid rows P).length ≤ rows.length * P.length
  | [] => by simp [wid]
  | c :: P => by
    have h1 : wid rows (c :: P) = ((rows.filter fun r => !(r == 0) && (r &&& c == 0)).map fun r => c ||| r) ++ wid rows P := by
      unfold wid
      rw [List.flatMap_cons]
    have h2 := wid_len (P := P)
    have h3 := List.length_filter_le (fun r => !(r == 0) && (r &&& c == 0)) rows
    rw [h1, List.length_append, List.length_map, List.length_cons, Nat.mul_add, Nat.mul_one]
    omega
def cnd20 : M Bool := mOpT neM (mV 7) (mNew (mLst mNil))
def stp20 : SM := (sSet 9 (mOp2 addM (mV 9) (mNew (mLc [13] (mSeq (mV 3)) (gN 13) (mAnd (mOpT neM (mV 13) (M.ret (.int 0))) (mOpT eqM (mOp2 andM (mV 13) (mV 4)) (M.ret (.int 0)))) (mOp2 orM (mV 4) (mV 13))))))
def bdy20 : SM := (sSeq (sSet 9 (mNew (mLst mNil)))
  (sSeq (sFor (mSeq (mV 7)) (gN 4) stp20)
  (sSeq (sSet 7 (mNew (mSortU (mNew (mLc [4] (mSeq (mV 9)) (gN 4) mYes (mCall intM (mCons (mV 4) mNil)))))))
  (sSet 8 (mOp2 addM (mV 8) (mCall intM (mCons (mOp2 neM (mV 7) (mNew (mLst mNil))) mNil)))))))
section
variable {s kp ps : PyData} {c2 : Cel}
theorem bdy_ok {C : List Nat} {c4 c9 : Cel} {m : Nat} (hl : rows.length ≤ 60) (hC : C.length ≤ 1024) (hx : (nxt rows C).length ≤ 1024) (h4 : c4.own = false) (h9 : c9.own = false) :
    ∃ c4' c9', Cel.own c4' = false ∧ Cel.own c9' = false ∧ bdy20 [.pl s, .pl (nD n), c2, .pl (nsD rows), c4, .pl kp, .pl ps, .pl (nsD C), .pl (nD m), c9, .un, .un, .un, .un] =
      some (.nx [.pl s, .pl (nD n), c2, .pl (nsD rows), c4', .pl kp, .pl ps, .pl (nsD (nxt rows C)), .pl (nD (m + if (nxt rows C).isEmpty then 0 else 1)), c9', .un, .un, .un, .un]) := by
  obtain ⟨r2, e, P, c4', rfl, q4, hP⟩ := for_i (g := gN 4) (b := stp20) nD
    (fun xs r => ∃ P c4, r = [.pl s, .pl (nD n), c2, .pl (nsD rows), c4, .pl kp, .pl ps, .pl (nsD C), .pl (nD m), .pl (nsD (wid rows P)), .un, .un, .un, .un] ∧ Cel.own c4 = false ∧ C = P ++ xs)
    (xs := C) (r := [.pl s, .pl (nD n), c2, .pl (nsD rows), c4, .pl kp, .pl ps, .pl (nsD C), .pl (nD m), .pl (.list []), .un, .un, .un, .un]) ⟨[], c4, rfl, h4, rfl⟩ (by
      rintro b xs r ⟨P, c4, rfl, q4, hP⟩
      have lP : P.length < 1024 := by
        have := congrArg List.length hP
        rw [List.length_append, List.length_cons] at this
        omega
      have wl := wid_len (rows := rows) (P := P)
      have wl2 : rows.length * P.length ≤ 60 * 1024 := Nat.mul_le_mul hl (by omega)
      have lc := lcm (vs := [13]) (mi := mSeq (mV 3)) (g := gN 13) (mt := mAnd (mOpT neM (mV 13) (M.ret (.int 0))) (mOpT eqM (mOp2 andM (mV 13) (mV 4)) (M.ret (.int 0)))) (me := mOp2 orM (mV 4) (mV 13))
        (r := [.pl s, .pl (nD n), c2, .pl (nsD rows), .pl (nD b), .pl kp, .pl ps, .pl (nsD C), .pl (nD m), .pl (nsD (wid rows P)), .un, .un, .un, .un]) nD (fun r => !(r == 0) && (r &&& b == 0)) (fun r => nD (b ||| r))
        (fun r => [.pl s, .pl (nD n), c2, .pl (nsD rows), .pl (nD b), .pl kp, .pl ps, .pl (nsD C), .pl (nD m), .pl (nsD (wid rows P)), .un, .un, .un, .pl (nD r)]) (xs := rows) (by simp) (by simp [freeAt]) (by omega) (by simp) (by simp) (by
          intro r _
          have e1 : neM (nD r) (.int 0) = some (.bool (!(r == 0))) := ne_nQ (b := 0)
          have e2 : eqM (nD (r &&& b)) (.int 0) = some (.bool (r &&& b == 0)) := eq_nQ (b := 0)
          cases z : r == 0 with
          | true => simp [e1, z]
          | false => simp [e1, z, band_n, e2]) (by
          intro r _ _
          simp [bor_n])
      have lf := List.length_filter_le (fun r => !(r == 0) && (r &&& b == 0)) rows
      have ad : addM (nsD (wid rows P)) (.list ((rows.filter fun r => !(r == 0) && (r &&& b == 0)).map fun r => nD (b ||| r))) = some (nsD (wid rows (P ++ [b]))) := by
        have := e_addL (ds := (wid rows P).map nD) (es := (rows.filter fun r => !(r == 0) && (r &&& b == 0)).map fun r => nD (b ||| r)) (by rw [List.length_map, List.length_map]; omega)
        rw [show nsD (wid rows P) = .list ((wid rows P).map nD) from rfl, this, wid_snoc, show nsD (wid rows P ++ (rows.filter fun r => !(r == 0) && (r &&& b == 0)).map fun r => b ||| r) = .list ((wid rows P ++ (rows.filter fun r => !(r == 0) && (r &&& b == 0)).map fun r => b ||| r).map nD) from rfl, List.map_append, List.map_map]
        rfl
      exact ⟨[.pl s, .pl (nD n), c2, .pl (nsD rows), .pl (nD b), .pl kp, .pl ps, .pl (nsD C), .pl (nD m), .pl (nsD (wid rows P)), .un, .un, .un, .un], [.pl s, .pl (nD n), c2, .pl (nsD rows), .pl (nD b), .pl kp, .pl ps, .pl (nsD C), .pl (nD m), .pl (nsD (wid rows (P ++ [b]))), .un, .un, .un, .un],
        by simp [q4], by simp [-List.map_map, stp20, lc, ad], P ++ [b], _, rfl, rfl, by rw [List.append_assoc]; exact hP⟩)
  rw [List.append_nil] at hP
  subst hP
  have wl := wid_len (rows := rows) (P := C)
  have wl2 : rows.length * C.length ≤ 60 * 1024 := Nat.mul_le_mul hl (by omega)
  have i1 : ∀ k : Nat, intM [nD k] = some (nD k) := fun _ => rfl
  have lc := lcy (vs := [4]) (mi := mSeq (mV 9)) (g := gN 4) (me := mCall intM (mCons (mV 4) mNil)) (r := [.pl s, .pl (nD n), c2, .pl (nsD rows), c4', .pl kp, .pl ps, .pl (nsD C), .pl (nD m), .pl (nsD (wid rows C)), .un, .un, .un, .un])
    nD nD (fun k => [.pl s, .pl (nD n), c2, .pl (nsD rows), .pl (nD k), .pl kp, .pl ps, .pl (nsD C), .pl (nD m), .pl (nsD (wid rows C)), .un, .un, .un, .un]) (xs := wid rows C) (by simp) (by simp [freeAt, q4]) (by omega) (by simp [q4]) (by simp) (by
      intro k _
      simp [i1])
  have so := sortU_ok (rows := rows) (C := C) (by omega)
  have ne := ne_nilR (P := nxt rows C)
  refine ⟨c4', .pl (nsD (wid rows C)), q4, rfl, ?_⟩
  have i9 := own_io h9
  have ib : intM [.bool (!(nxt rows C).isEmpty)] = some (nD (if (nxt rows C).isEmpty then 0 else 1)) := by
    cases (nxt rows C).isEmpty <;> rfl
  generalize hb : (if (nxt rows C).isEmpty then 0 else 1) = bb at ib ⊢
  simp [-s_put, s_put2, i9, -List.map_map, bdy20, e, lc, so, ne, ib]
theorem wh_ok {b : Nat} (hn : n ≤ 10) (hl : rows.length ≤ 60) (hr : ∀ b ∈ rows, b < 2 ^ n) (nu : Nu rows (2 ^ n - 1) v) : ∀ (d N t : Nat) (C : List Nat) (c4 c9 : Cel), d < N → t + d = v + 1 → Cv rows (2 ^ n - 1) t C → C.length ≤ 1024 → c4.own = false → c9.own = false →
    ∃ c4' c9', Cel.own c4' = false ∧ Cel.own c9' = false ∧ whGo cnd20 bdy20 N [.pl s, .pl (nD n), c2, .pl (nsD rows), c4, .pl kp, .pl ps, .pl (nsD C), .pl (nD (b + min t v)), c9, .un, .un, .un, .un] =
      some (.nx [.pl s, .pl (nD n), c2, .pl (nsD rows), c4', .pl kp, .pl ps, .pl (nsD []), .pl (nD (b + v)), c9', .un, .un, .un, .un]) := by
  have N1 : 2 ^ n ≤ 1024 := Nat.le_trans (Nat.pow_le_pow_right (by decide) hn) (by decide)
  have ff : ∀ r ∈ rows, r &&& (2 ^ n - 1) = r := fun r h => by rw [Nat.and_two_pow_sub_one_eq_mod]; exact Nat.mod_eq_of_lt (hr r h)
  intro d
  induction d with
  | zero =>
    intro N t C c4 c9 hN ht hC hCl h4 h9
    obtain ⟨N', rfl⟩ : ∃ N', N = N' + 1 := ⟨N - 1, by omega⟩
    have em := cv_some nu hC
    rw [decide_eq_true (by omega)] at em
    rw [List.isEmpty_iff] at em
    subst em
    have ne := ne_nilR (P := [])
    refine ⟨c4, c9, h4, h9, ?_⟩
    rw [whGo_step (k := false) (r1 := [.pl s, .pl (nD n), c2, .pl (nsD rows), c4, .pl kp, .pl ps, .pl (nsD []), .pl (nD (b + min t v)), c9, .un, .un, .un, .un]) (by simp only [cnd20, e_opT, e_bind, e_V, List.getElem?_cons_zero, List.getElem?_cons_succ, e_new, e_lst, e_nil]; simp [ne])]
    rw [show min t v = v by omega]
    rfl
  | succ d ih =>
    intro N t C c4 c9 hN ht hC hCl h4 h9
    obtain ⟨N', rfl⟩ : ∃ N', N = N' + 1 := ⟨N - 1, by omega⟩
    have em := cv_some nu hC
    rw [decide_eq_false (by omega)] at em
    have ne := ne_nilR (P := C)
    rw [em] at ne
    have hC2 := cv_step ff hC
    have hx : (nxt rows C).length ≤ 1024 := Nat.le_trans (nxt_len (N := 2 ^ n) fun x hx => cv_lt hr hC2 x (mem_nxt.mpr hx)) N1
    have em2 := cv_some nu hC2
    obtain ⟨c4', c9', q4, q9, eb⟩ := bdy_ok (s := s) (kp := kp) (ps := ps) (c2 := c2) (n := n) (m := b + min t v) hl hCl hx h4 h9
    obtain ⟨c4'', c9'', q4', q9', ew⟩ := ih N' (t + 1) (nxt rows C) c4' c9' (by omega) (by omega) hC2 hx q4 q9
    refine ⟨c4'', c9'', q4', q9', ?_⟩
    rw [whGo_step (k := true) (r1 := [.pl s, .pl (nD n), c2, .pl (nsD rows), c4, .pl kp, .pl ps, .pl (nsD C), .pl (nD (b + min t v)), c9, .un, .un, .un, .un]) (by simp [cnd20, ne]), if_pos rfl, eb]
    dsimp only
    rw [em2]
    have : b + min t v + (if decide (v < t + 1) = true then 0 else 1) = b + min (t + 1) v := by
      by_cases q : v < t + 1
      · rw [if_pos (decide_eq_true q)]; omega
      · rw [if_neg (by simpa using q)]; omega
    rw [this]
    exact ew
end
end DL
namespace DL
open PySem PySem.Spec PyProof.Rows L2 Lk
variable {n : Nat} {rows : List Nat} {v : Nat}
def al (rows : List Nat) : Nat := if rows.contains 0 then 1 else 0
theorem zero_rev (hr : ∀ b ∈ rows, b < 2 ^ n) : (rows.map (Fa.rev n)).contains 0 = rows.contains 0 := by
  rw [Bool.eq_iff_iff, List.contains_iff_mem, List.contains_iff_mem, List.mem_map]
  constructor
  · rintro ⟨b, hb, e⟩
    rw [Fa.rev_eq_zero (hr b hb)] at e
    rw [← e]
    exact hb
  · intro h
    exact ⟨0, h, Fa.rev_zero n⟩
theorem g_apart_ok (hn : n ≤ 10) (hl : rows.length ≤ 60) (hr : ∀ b ∈ rows, b < 2 ^ n) : ∃ v, g_apart [nD n, setsD n rows] = some (nD (al rows + v)) ∧ Nu rows (2 ^ n - 1) v := by
  rw [r_apart]
  have rf := g_read_family_ok hn (by omega : rows.length ≤ 300)
  obtain ⟨v, gc, nu⟩ := g_count_apart_ok (n := n) (S := rows.map (Fa.rev n)) hn (by rw [List.length_map]; omega)
  refine ⟨v, ?_, nu_rev hr nu⟩
  have inn := in_nR (k := 0) (L := rows.map (Fa.rev n))
  rw [zero_rev hr] at inn
  have inn : inM (.int 0) (nsD (rows.map (Fa.rev n))) = some (.bool (rows.contains 0)) := inn
  have ad : addM (nD (al rows)) (nD v) = some (nD (al rows + v)) := e_add_n
  unfold al at ad ⊢
  cases q : rows.contains 0 with
  | true =>
    rw [q] at inn ad
    have ad : addM (.int 1) (nD v) = some (nD (1 + v)) := ad
    simp [-List.map_map, -e_add_r, v_apart, rf, inn, gc, ad]
  | false =>
    rw [q] at inn ad
    have ad : addM (.int 0) (nD v) = some (nD (0 + v)) := ad
    simp only [Nat.zero_add] at ad
    simp [-List.map_map, -e_add_r, v_apart, rf, inn, gc, ad]
theorem fold_mem : ∀ (A : List Nat) (a : Nat), A.foldl min a ∈ a :: A
  | [], a => by simp
  | b :: A, a => by
    rw [List.foldl_cons]
    rcases List.mem_cons.mp (fold_mem A (min a b)) with e | e
    · rw [e]
      by_cases q : a ≤ b
      · rw [Nat.min_eq_left q]; simp
      · rw [Nat.min_eq_right (by omega)]; simp
    · exact List.mem_cons_of_mem _ (List.mem_cons_of_mem _ e)
theorem minO_mem {A : List Nat} {k : Nat} (h : minO A = some k) : k ∈ A := by
  cases A with
  | nil => cases h
  | cons a A =>
    have h : A.foldl min a = k := Option.some.inj h
    rw [← h]
    exact fold_mem A a
theorem memL_rev {m : Nat} : memL n m = Fa.lset n (Fa.rev n m) := by
  unfold memL Fa.lset
  refine List.filter_congr fun i hi => ?_
  rw [Fa.rev_bit]
  simp [List.mem_range.mp hi]
theorem short_le (hr : ∀ b ∈ rows, b < 2 ^ n) (nu : Nu rows (2 ^ n - 1) v) {k : Nat} (h : minO (((List.range (2 ^ n)).filter (Fa.meetAll (rows.map (Fa.rev n)))).map fun m => (memL n m).length) = some k) : al rows + v ≤ k := by
  obtain ⟨m, hm, rfl⟩ := List.mem_map.mp (minO_mem h)
  obtain ⟨_, hm⟩ := List.mem_filter.mp hm
  have meet : ∀ b ∈ rows, m &&& Fa.rev n b ≠ 0 := fun b hb => by
    have := List.all_eq_true.mp hm (Fa.rev n b) (List.mem_map.mpr ⟨b, hb, rfl⟩)
    simpa using this
  have a0 : al rows = 0 := by
    unfold al
    cases q : rows.contains 0 with
    | false => rfl
    | true =>
      have := meet 0 (List.contains_iff_mem.mp q)
      rw [Fa.rev_zero, Nat.and_zero] at this
      exact absurd rfl this
  obtain ⟨l, d, e⟩ := nu.1
  rw [a0, Nat.zero_add, ← e, memL_rev]
  refine dis_meet l _ d fun a ha z => meet a (d.2 a ha).1 ?_
  have lt := hr a (d.2 a ha).1
  rw [← Fa.rev_rev lt, Fa.rev_and, Fa.rev_eq_zero (Fa.and_lt (Fa.rev_lt n a))] at z
  rw [Nat.and_comm]
  exact z
def tl20 : SM := (sSeq (sSet 10 (mCall g_apart (mCons (mV 1) (mCons (mV 6) mNil))))
  (sSeq (sIf (mOr (mNotT (mTru (mIsi "int" (mV 10)))) (mOr (mTru (mIsi "bool" (mV 10))) (mOr (mOpT neM (mV 10) (mV 8)) (mOpT neM (mV 6) (mV 5)))))
    (sRet (M.ret (.bool false)))
    sNil)
  (sSeq (sSet 11 (mCall g_shortest_meeting (mCons (mV 1) (mCons (mV 6) mNil))))
  (sRet (mOrV (mOp2 isM (mV 11) (M.ret .none)) (mOp2 leM (mV 10) (mV 11)))))))
def mid20 : SM := (sSeq (sSet 3 (mNew (mLc [12] (mSeq (mNew (mSlice (mV 0) (mPart (M.ret (.int 1))) (mPart (mV 2))))) (gN 12) mYes (mOp2 modM (mCall intM (mCons (mV 12) mNil)) (mOp2 shlM (M.ret (.int 1)) (mV 1))))))
  (sSeq (sSet 5 (mNew (mLc [4] (mSeq (mV 3)) (gN 4) mYes (mCall g_law_set_3b7aa (mCons (mV 4) (mCons (mV 1) mNil))))))
  (sSeq (sSet 6 (mNew (mLc [13] (mSeq (mV 5)) (gN 13) mYes (mNew (mCallF listM (mCons (mV 13) mNil))))))
  (sSeq (sSet 7 (mNew (mLst (mCons (M.ret (.int 0)) mNil))))
  (sSeq (sSet 8 (mCall intM (mCons (mOp2 inM (M.ret (.int 0)) (mV 3)) mNil)))
  (sSeq (whGo cnd20 bdy20 WH) tl20))))))
theorem split20 : v_law_k20 = (sSeq (sSet 1 (mOp2 modM (mCall intM (mCons (mCall g_law_cell_e350a (mCons (mV 0) (mCons (M.ret (.int 0)) mNil))) mNil)) (M.ret (.int 8))))
  (sSeq (sSet 2 (M.ret (.int 41)))
  (sSeq (sIf (mOpT eqM (mOp2 modM (mCall intM (mCons (mOp2 divM (mCall g_law_cell_e350a (mCons (mV 0) (mCons (M.ret (.int 0)) mNil))) (M.ret (.int 8))) mNil)) (M.ret (.int 8))) (M.ret (.int 1)))
    (sSeq (sSet 1 (mOp2 addM (M.ret (.int 8)) (mOp2 modM (mCall intM (mCons (mOp2 divM (mCall g_law_cell_e350a (mCons (mV 0) (mCons (M.ret (.int 0)) mNil))) (M.ret (.int 64))) mNil)) (M.ret (.int 3)))))
  (sSet 2 (M.ret (.int 13))))
    sNil) mid20))) := rfl
theorem tl_ok (hn : n ≤ 10) (hl : rows.length ≤ 60) (hr : ∀ b ∈ rows, b < 2 ^ n) (nu : Nu rows (2 ^ n - 1) v) {s C : PyData} {c2 c4 c9 : Cel} :
    outD (tl20 [.pl s, .pl (nD n), c2, .pl (nsD rows), c4, .pl (setsD n rows), .pl (setsD n rows), .pl C, .pl (nD (al rows + v)), c9, .un, .un, .un, .un]) = some (.bool true) := by
  obtain ⟨v', ga, nu'⟩ := g_apart_ok hn hl hr
  have e : v' = v := by
    obtain ⟨l, d, e⟩ := nu.1
    obtain ⟨l', d', e'⟩ := nu'.1
    have := nu.2 l' d'
    have := nu'.2 l d
    omega
  subst e
  have gs := g_shortest_meeting_ok hn (by omega) hr
  have t1 : ∀ m : Nat, isTy "int" (nD m) = true := fun _ => rfl
  have t2 : ∀ m : Nat, isTy "bool" (nD m) = false := fun _ => rfl
  have ne := ne_nQ (a := al rows + v') (b := al rows + v')
  rw [beq_self_eq_true] at ne
  have ns := ne_sets (n := n) (rows := rows)
  have isn : ∀ o : Option Nat, isM (oD o) .none = some (.bool o.isNone) := fun o => by cases o <;> rfl
  have key : ∀ k, minO (((List.range (2 ^ n)).filter (Fa.meetAll (rows.map (Fa.rev n)))).map fun m => (memL n m).length) = some k → al rows + v' ≤ k := fun k h => short_le hr nu h
  generalize minO (((List.range (2 ^ n)).filter (Fa.meetAll (rows.map (Fa.rev n)))).map fun m => (memL n m).length) = o at gs key
  have i0 := isn o
  cases o with
  | none => simp [tl20, ga, t1, t2, ne, ns, gs, i0]
  | some k =>
    have le : leM (nD (al rows + v')) (nD k) = some (.bool true) := by
      have := key k rfl
      show some (PyData.bool (decide (((al rows + v' : Nat) : Int) ≤ (k : Int)))) = _
      rw [decide_eq_true (by omega)]
    have i0 : isM (oD (some k)) .none = some (.bool false) := rfl
    have od : oD (some k) = nD k := rfl
    rw [od] at i0 gs
    simp [tl20, ga, t1, t2, ne, ns, gs, i0, le]
theorem e_cutQ {α : Type} {f : α → PyData} {xs : List α} {lo hi : Nat} : cutD (xs.map f) (some (lo : Int)) (some (hi : Int)) = ((xs.drop lo).take (hi - lo)).map f := by
  unfold cutD
  rw [HT.sIx_nat, HT.sIx_nat, List.map_take, List.map_drop, List.length_map]
  by_cases h : lo ≤ xs.length
  · rw [Nat.min_eq_left h]
    by_cases h2 : hi ≤ xs.length
    · rw [Nat.min_eq_left h2]
    · rw [Nat.min_eq_right (show xs.length ≤ hi by omega)]
      rw [List.take_of_length_le (by simp), List.take_of_length_le (by simp; omega)]
  · rw [Nat.min_eq_right (show xs.length ≤ lo by omega)]
    rw [List.drop_eq_nil_of_le (by simp), List.drop_eq_nil_of_le (by simp; omega)]
    simp
theorem mid20_ok {l : List Int} {hi : Nat} (hn : n ≤ 10) (hh : hi ≤ 61) : outD (mid20 [.pl (.list (l.map PyData.int)), .pl (nD n), .pl (nD hi), .un, .un, .un, .un, .un, .un, .un, .un, .un, .un, .un]) = some (.bool true) := by
  have N1 : 2 ^ n ≤ 1024 := Nat.le_trans (Nat.pow_le_pow_right (by decide) hn) (by decide)
  have N0 : 0 < 2 ^ n := Nat.two_pow_pos n
  have sh := shl_n (n := n) (by omega)
  have cut : cutD (l.map PyData.int) (some 1) (some (hi : Int)) = ((l.drop 1).take (hi - 1)).map PyData.int := e_cutQ (lo := 1) (hi := hi)
  have lc60 : ((l.drop 1).take (hi - 1)).length ≤ 60 := by simp; omega
  generalize (l.drop 1).take (hi - 1) = cells at cut lc60
  obtain ⟨rows, hrows⟩ : ∃ rows : List Nat, rows = cells.map fun z => (z % ((2 ^ n : Nat) : Int)).toNat := ⟨_, rfl⟩
  have lr : rows.length ≤ 60 := by rw [hrows, List.length_map]; exact lc60
  have hr : ∀ b ∈ rows, b < 2 ^ n := fun b hb => by
    rw [hrows] at hb
    obtain ⟨z, _, rfl⟩ := List.mem_map.mp hb
    have h1 := Int.emod_lt_of_pos z (show (0 : Int) < ((2 ^ n : Nat) : Int) by omega)
    have h2 := Int.emod_nonneg z (show ((2 ^ n : Nat) : Int) ≠ 0 by omega)
    omega
  obtain ⟨v, _, nu⟩ := g_apart_ok hn lr hr
  have vn : v ≤ 10 := by
    obtain ⟨k, d, e⟩ := nu.1
    have := dis_meet k (2 ^ n - 1) d fun a ha z => (d.2 a ha).2.1 (by rw [(d.2 a ha).2.2] at z; exact z)
    have := lset_len n (2 ^ n - 1)
    omega
  obtain ⟨c4, c9, q4, q9, W⟩ := wh_ok (s := .list (l.map PyData.int)) (kp := setsD n rows) (ps := setsD n rows) (c2 := .pl (nD hi)) (b := al rows) hn lr hr nu (v + 1) WH 0 [0] .un .un (by unfold WH; omega) (by omega) cv_zero (by simp) rfl rfl
  rw [Nat.zero_min, Nat.add_zero] at W
  have T := tl_ok hn lr hr nu (s := .list (l.map PyData.int)) (C := nsD []) (c2 := .pl (nD hi)) (c4 := c4) (c9 := c9)
  generalize 2 ^ n = N at N1 N0 sh hrows
  have md : ∀ z : Int, modM (.int z) (nD N) = some (nD (z % (N : Int)).toNat) := fun z => by
    have := e_modI (a := z) (b := (N : Int)) (by omega)
    show modM (.int z) (.int N) = _
    rw [this]
    unfold nD
    rw [Int.toNat_of_nonneg (Int.emod_nonneg _ (by omega))]
  have i1 : ∀ z : Int, intM [.int z] = some (.int z) := fun _ => rfl
  have l2 := lcy (vs := [12]) (mi := mSeq (mNew (mSlice (mV 0) (mPart (M.ret (.int 1))) (mPart (mV 2))))) (g := gN 12) (me := mOp2 modM (mCall intM (mCons (mV 12) mNil)) (mOp2 shlM (M.ret (.int 1)) (mV 1))) (r := [.pl (.list (l.map PyData.int)), .pl (nD n), .pl (nD hi), .un, .un, .un, .un, .un, .un, .un, .un, .un, .un, .un])
    PyData.int (fun z => nD (z % (N : Int)).toNat) (fun z => [.pl (.list (l.map PyData.int)), .pl (nD n), .pl (nD hi), .un, .un, .un, .un, .un, .un, .un, .un, .un, .pl (.int z), .un]) (xs := cells) (by
      have a : asInt (nD hi) = some (hi : Int) := rfl
      simp [cut, a]) (by simp [freeAt]) (by omega) (by simp) (by simp) (by
      intro z _
      simp [i1, sh, md])
  have e2 : cells.map (fun z => nD (z % (N : Int)).toNat) = rows.map nD := by
    rw [hrows, List.map_map]
    rfl
  rw [e2] at l2
  have l4 := lcy (vs := [4]) (mi := mSeq (mV 3)) (g := gN 4) (me := mCall g_law_set_3b7aa (mCons (mV 4) (mCons (mV 1) mNil))) (r := [.pl (.list (l.map PyData.int)), .pl (nD n), .pl (nD hi), .pl (nsD rows), .un, .un, .un, .un, .un, .un, .un, .un, .un, .un])
    nD (fun b => nsD (Fa.lset n b)) (fun b => [.pl (.list (l.map PyData.int)), .pl (nD n), .pl (nD hi), .pl (nsD rows), .pl (nD b), .un, .un, .un, .un, .un, .un, .un, .un, .un]) (xs := rows) (by simp) (by simp [freeAt]) (by omega) (by simp) (by simp) (by
      intro b _
      have := g_law_setQ (n := n) (b := b) (by omega)
      simp [this])
  have l5 := lcy (vs := [13]) (mi := mSeq (mV 5)) (g := gN 13) (me := mNew (mCallF listM (mCons (mV 13) mNil))) (r := [.pl (.list (l.map PyData.int)), .pl (nD n), .pl (nD hi), .pl (nsD rows), .un, .pl (setsD n rows), .un, .un, .un, .un, .un, .un, .un, .un])
    (fun b => nsD (Fa.lset n b)) (fun b => nsD (Fa.lset n b)) (fun b => [.pl (.list (l.map PyData.int)), .pl (nD n), .pl (nD hi), .pl (nsD rows), .un, .pl (setsD n rows), .un, .un, .un, .un, .un, .un, .un, .pl (nsD (Fa.lset n b))]) (xs := rows) (by simp) (by simp [freeAt]) (by omega) (by simp) (by simp) (by
      intro b _
      simp)
  have inn : inM (.int 0) (nsD rows) = some (.bool (rows.contains 0)) := in_nR (k := 0)
  have ib : intM [.bool (rows.contains 0)] = some (nD (al rows)) := by
    unfold al
    cases rows.contains 0 <;> rfl
  generalize al rows = ar at W T ib
  generalize rows.contains 0 = cz at inn ib
  have W : whGo cnd20 bdy20 WH [.pl (.list (l.map PyData.int)), .pl (nD n), .pl (nD hi), .pl (nsD rows), .un, .pl (setsD n rows), .pl (setsD n rows), .pl (.list [.int 0]), .pl (nD ar), .un, .un, .un, .un, .un] = _ := W
  simp [-List.map_map, mid20, l2, l4, l5, inn, ib, W, T]
theorem true_k20 (l : List Int) (hl : l.length ≤ 63) (hb : ∀ z ∈ l, Builtin.Int.intBits z ≤ 1048576) : g_law_k20 [.list (l.map PyData.int)] = some (.bool true) := by
  rw [r_law_k20, split20]
  have g0 : ∃ c : Int, g_law_cell_e350a [.list (l.map PyData.int), .int 0] = some (.int c) := by
    rw [r_law_cell_e350a]
    cases l with
    | nil => exact ⟨0, by simp [v_law_cell_e350a]⟩
    | cons z l =>
      have i1 : intM [.int z] = some (.int z) := rfl
      have ix : ixM (.list (.int z :: l.map PyData.int)) (.int 0) = some (.int z) := e_at0
      have el : ltM (.int 0) (.int (((PyData.int z :: l.map PyData.int).length : Nat) : Int)) = some (.bool true) := by
        show some (PyData.bool (decide ((0 : Int) < _))) = _
        rw [decide_eq_true (by simp <;> omega)]
      refine ⟨z, ?_⟩
      rw [List.map_cons]
      simp only [v_law_cell_e350a, s_seq, s_if, s_bind, e_opT, e_bind, e_V, List.getElem?_cons_zero, List.getElem?_cons_succ, e_call, e_cons, e_nil, e_ret, e_lift_some, e_lenL, el, Option.bind_some, e_asBool, if_true, s_ret, e_op2, ix, i1, o_rt]
  obtain ⟨c, gc⟩ := g0
  have i1 : ∀ z : Int, intM [.int z] = some (.int z) := fun _ => rfl
  have m8 : modM (.int c) (.int 8) = some (.int (c % 8)) := e_modI (by decide)
  have d8 : divM (.int c) (.int 8) = some (.int (c / 8)) := e_divI (by decide) (by decide)
  have d64 : divM (.int c) (.int 64) = some (.int (c / 64)) := e_divI (by decide) (by decide)
  have m8' : modM (.int (c / 8)) (.int 8) = some (.int (c / 8 % 8)) := e_modI (by decide)
  have m3 : modM (.int (c / 64)) (.int 3) = some (.int (c / 64 % 3)) := e_modI (by decide)
  have b8 := Int.emod_nonneg c (show (8 : Int) ≠ 0 by decide)
  have b8' := Int.emod_lt_of_pos c (show (0 : Int) < 8 by decide)
  have b3 := Int.emod_nonneg (c / 64) (show (3 : Int) ≠ 0 by decide)
  have b3' := Int.emod_lt_of_pos (c / 64) (show (0 : Int) < 3 by decide)
  have T1 := mid20_ok (l := l) (n := (c % 8).toNat) (hi := 41) (by omega) (by omega)
  have T2 := mid20_ok (l := l) (n := (8 + c / 64 % 3).toNat) (hi := 13) (by omega) (by omega)
  have e1 : nD (c % 8).toNat = .int (c % 8) := by unfold nD; rw [Int.toNat_of_nonneg b8]
  have e2 : nD (8 + c / 64 % 3).toNat = .int (8 + c / 64 % 3) := by unfold nD; rw [Int.toNat_of_nonneg (by omega)]
  have h1 : nD 41 = .int 41 := rfl
  have h2 : nD 13 = .int 13 := rfl
  rw [e1, h1] at T1
  rw [e2, h2] at T2
  have eq1 : eqM (.int (c / 8 % 8)) (.int 1) = some (.bool (decide (c / 8 % 8 = 1))) := by
    rw [e_eqD (Sh.int).sh (Sh.int).sh, PyData.eqv]
    congr 2
  by_cases q : c / 8 % 8 = 1
  · simp [gc, i1, m8, d8, m8', q, d64, m3, T2]
  · simp [gc, i1, m8, d8, m8', q, T1]
end DL
namespace DL
open PySem PySem.Spec PyProof.Rows L2 Lk
theorem all_mk {l : PySem.W.OpenLaw} {w : World} {K : PySem.W.Frag} {h : Heap} {mg : Str → Option Value} {fa : Addr} (X : K.In h) (G : h.Ns mainGlobals mg) (hfa : mg "law" = some (.ref fa))
    {f0 : Addr} {od0 an0 : Option Addr} {sl0 : Array (Option Value)} {oc0 kV0 dc0 pm0 cd0 ct0 : Value}
    {f1 : Addr} {od1 an1 : Option Addr} {sl1 : Array (Option Value)} {oc1 kV1 dc1 pm1 cd1 ct1 : Value}
    {f2 : Addr} {od2 an2 : Option Addr} {sl2 : Array (Option Value)} {oc2 kV2 dc2 pm2 cd2 ct2 : Value}
    {f3 : Addr} {od3 an3 : Option Addr} {sl3 : Array (Option Value)} {oc3 kV3 dc3 pm3 cd3 ct3 : Value}
    {f4 : Addr} {od4 an4 : Option Addr} {sl4 : Array (Option Value)} {oc4 kV4 dc4 pm4 cd4 ct4 : Value}
    {f5 : Addr} {od5 an5 : Option Addr} {sl5 : Array (Option Value)} {oc5 kV5 dc5 pm5 cd5 ct5 : Value}
    {f6 : Addr} {od6 an6 : Option Addr} {sl6 : Array (Option Value)} {oc6 kV6 dc6 pm6 cd6 ct6 : Value}
    {f7 : Addr} {od7 an7 : Option Addr} {sl7 : Array (Option Value)} {oc7 kV7 dc7 pm7 cd7 ct7 : Value}
    {f8 : Addr} {od8 an8 : Option Addr} {sl8 : Array (Option Value)} {oc8 kV8 dc8 pm8 cd8 ct8 : Value}
    {f9 : Addr} {od9 an9 : Option Addr} {sl9 : Array (Option Value)} {oc9 kV9 dc9 pm9 cd9 ct9 : Value}
    {f10 : Addr} {od10 an10 : Option Addr} {sl10 : Array (Option Value)} {oc10 kV10 dc10 pm10 cd10 ct10 : Value}
    {f11 : Addr} {od11 an11 : Option Addr} {sl11 : Array (Option Value)} {oc11 kV11 dc11 pm11 cd11 ct11 : Value}
    {f12 : Addr} {od12 an12 : Option Addr} {sl12 : Array (Option Value)} {oc12 kV12 dc12 pm12 cd12 ct12 : Value}
    {f13 : Addr} {od13 an13 : Option Addr} {sl13 : Array (Option Value)} {oc13 kV13 dc13 pm13 cd13 ct13 : Value}
    {f14 : Addr} {od14 an14 : Option Addr} {sl14 : Array (Option Value)} {oc14 kV14 dc14 pm14 cd14 ct14 : Value}
    {f15 : Addr} {od15 an15 : Option Addr} {sl15 : Array (Option Value)} {oc15 kV15 dc15 pm15 cd15 ct15 : Value}
    {t0 : Tok}
    {t1 : Tok}
    (a0 : PySem.W.nsIn K mainGlobals "_tell_holding" = some (some (.ref f0))) (l0 : K.lookup f0 = some ⟨oc0, od0, .func (PySem.W.fnOf "_tell_holding" "_tell_holding" (defArgs s_p_tell_holding) (defBody s_p_tell_holding) (defScope s_p_tell_holding) .none kV0 dc0 pm0 an0 cd0 ct0), sl0⟩)
    (c0 : PySem.W.codeIn K cd0 "_tell_holding" = true) (k0 : PySem.W.keepIn K (.ref f0) = true)
    (a1 : PySem.W.nsIn K mainGlobals "meeting_masks" = some (some (.ref f1))) (l1 : K.lookup f1 = some ⟨oc1, od1, .func (PySem.W.fnOf "meeting_masks" "meeting_masks" (defArgs s_meeting_masks) (defBody s_meeting_masks) (defScope s_meeting_masks) .none kV1 dc1 pm1 an1 cd1 ct1), sl1⟩)
    (c1 : PySem.W.codeIn K cd1 "meeting_masks" = true) (k1 : PySem.W.keepIn K (.ref f1) = true)
    (a2 : PySem.W.nsIn K mainGlobals "members_of" = some (some (.ref f2))) (l2 : K.lookup f2 = some ⟨oc2, od2, .func (PySem.W.fnOf "members_of" "members_of" (defArgs s_members_of) (defBody s_members_of) (defScope s_members_of) .none kV2 dc2 pm2 an2 cd2 ct2), sl2⟩)
    (c2 : PySem.W.codeIn K cd2 "members_of" = true) (k2 : PySem.W.keepIn K (.ref f2) = true)
    (a3 : PySem.W.nsIn K mainGlobals "shortest_length" = some (some (.ref f3))) (l3 : K.lookup f3 = some ⟨oc3, od3, .func (PySem.W.fnOf "shortest_length" "shortest_length" (defArgs s_shortest_length) (defBody s_shortest_length) (defScope s_shortest_length) .none kV3 dc3 pm3 an3 cd3 ct3), sl3⟩)
    (c3 : PySem.W.codeIn K cd3 "shortest_length" = true) (k3 : PySem.W.keepIn K (.ref f3) = true)
    (a4 : PySem.W.nsIn K mainGlobals "is_integer" = some (some (.ref f4))) (l4 : K.lookup f4 = some ⟨oc4, od4, .func (PySem.W.fnOf "is_integer" "is_integer" (defArgs s_is_integer) (defBody s_is_integer) (defScope s_is_integer) .none kV4 dc4 pm4 an4 cd4 ct4), sl4⟩)
    (c4 : PySem.W.codeIn K cd4 "is_integer" = true) (k4 : PySem.W.keepIn K (.ref f4) = true)
    (a5 : PySem.W.nsIn K mainGlobals "is_integer_below" = some (some (.ref f5))) (l5 : K.lookup f5 = some ⟨oc5, od5, .func (PySem.W.fnOf "is_integer_below" "is_integer_below" (defArgs s_is_integer_below) (defBody s_is_integer_below) (defScope s_is_integer_below) .none kV5 dc5 pm5 an5 cd5 ct5), sl5⟩)
    (c5 : PySem.W.codeIn K cd5 "is_integer_below" = true) (k5 : PySem.W.keepIn K (.ref f5) = true)
    (a6 : PySem.W.nsIn K mainGlobals "mask_of" = some (some (.ref f6))) (l6 : K.lookup f6 = some ⟨oc6, od6, .func (PySem.W.fnOf "mask_of" "mask_of" (defArgs s_mask_of) (defBody s_mask_of) (defScope s_mask_of) .none kV6 dc6 pm6 an6 cd6 ct6), sl6⟩)
    (c6 : PySem.W.codeIn K cd6 "mask_of" = true) (k6 : PySem.W.keepIn K (.ref f6) = true)
    (a7 : PySem.W.nsIn K mainGlobals "are_ascending_below" = some (some (.ref f7))) (l7 : K.lookup f7 = some ⟨oc7, od7, .func (PySem.W.fnOf "are_ascending_below" "are_ascending_below" (defArgs s_are_ascending_below) (defBody s_are_ascending_below) (defScope s_are_ascending_below) .none kV7 dc7 pm7 an7 cd7 ct7), sl7⟩)
    (c7 : PySem.W.codeIn K cd7 "are_ascending_below" = true) (k7 : PySem.W.keepIn K (.ref f7) = true)
    (a8 : PySem.W.nsIn K mainGlobals "_is_set" = some (some (.ref f8))) (l8 : K.lookup f8 = some ⟨oc8, od8, .func (PySem.W.fnOf "_is_set" "_is_set" (defArgs s_p_is_set) (defBody s_p_is_set) (defScope s_p_is_set) .none kV8 dc8 pm8 an8 cd8 ct8), sl8⟩)
    (c8 : PySem.W.codeIn K cd8 "_is_set" = true) (k8 : PySem.W.keepIn K (.ref f8) = true)
    (a9 : PySem.W.nsIn K mainGlobals "_read_family" = some (some (.ref f9))) (l9 : K.lookup f9 = some ⟨oc9, od9, .func (PySem.W.fnOf "_read_family" "_read_family" (defArgs s_p_read_family) (defBody s_p_read_family) (defScope s_p_read_family) .none kV9 dc9 pm9 an9 cd9 ct9), sl9⟩)
    (c9 : PySem.W.codeIn K cd9 "_read_family" = true) (k9 : PySem.W.keepIn K (.ref f9) = true)
    (a10 : PySem.W.nsIn K mainGlobals "shortest_meeting" = some (some (.ref f10))) (l10 : K.lookup f10 = some ⟨oc10, od10, .func (PySem.W.fnOf "shortest_meeting" "shortest_meeting" (defArgs s_shortest_meeting) (defBody s_shortest_meeting) (defScope s_shortest_meeting) .none kV10 dc10 pm10 an10 cd10 ct10), sl10⟩)
    (c10 : PySem.W.codeIn K cd10 "shortest_meeting" = true) (k10 : PySem.W.keepIn K (.ref f10) = true)
    (a11 : PySem.W.nsIn K mainGlobals "_count_apart" = some (some (.ref f11))) (l11 : K.lookup f11 = some ⟨oc11, od11, .func (PySem.W.fnOf "_count_apart" "_count_apart" (defArgs s_p_count_apart) (defBody s_p_count_apart) (defScope s_p_count_apart) .none kV11 dc11 pm11 an11 cd11 ct11), sl11⟩)
    (c11 : PySem.W.codeIn K cd11 "_count_apart" = true) (k11 : PySem.W.keepIn K (.ref f11) = true)
    (a12 : PySem.W.nsIn K mainGlobals "apart" = some (some (.ref f12))) (l12 : K.lookup f12 = some ⟨oc12, od12, .func (PySem.W.fnOf "apart" "apart" (defArgs s_apart) (defBody s_apart) (defScope s_apart) .none kV12 dc12 pm12 an12 cd12 ct12), sl12⟩)
    (c12 : PySem.W.codeIn K cd12 "apart" = true) (k12 : PySem.W.keepIn K (.ref f12) = true)
    (a13 : PySem.W.nsIn K mainGlobals "_law_cell" = some (some (.ref f13))) (l13 : K.lookup f13 = some ⟨oc13, od13, .func (PySem.W.fnOf "_law_cell" "_law_cell" (defArgs s_law_cell_e350a) (defBody s_law_cell_e350a) (defScope s_law_cell_e350a) .none kV13 dc13 pm13 an13 cd13 ct13), sl13⟩)
    (c13 : PySem.W.codeIn K cd13 "_law_cell" = true) (k13 : PySem.W.keepIn K (.ref f13) = true)
    (a14 : PySem.W.nsIn K mainGlobals "_law_set" = some (some (.ref f14))) (l14 : K.lookup f14 = some ⟨oc14, od14, .func (PySem.W.fnOf "_law_set" "_law_set" (defArgs s_law_set_3b7aa) (defBody s_law_set_3b7aa) (defScope s_law_set_3b7aa) .none kV14 dc14 pm14 an14 cd14 ct14), sl14⟩)
    (c14 : PySem.W.codeIn K cd14 "_law_set" = true) (k14 : PySem.W.keepIn K (.ref f14) = true)
    (a15 : PySem.W.nsIn K mainGlobals "law" = some (some (.ref f15))) (l15 : K.lookup f15 = some ⟨oc15, od15, .func (PySem.W.fnOf "law" "law" (defArgs s_law_k20) (defBody s_law_k20) (defScope s_law_k20) .none kV15 dc15 pm15 an15 cd15 ct15), sl15⟩)
    (c15 : PySem.W.codeIn K cd15 "law" = true) (k15 : PySem.W.keepIn K (.ref f15) = true)
    (n0 : PySem.W.nsIn K mainGlobals "GREATEST_SET_SIZE" = some (some (.int 10 t0)))
    (n1 : PySem.W.nsIn K mainGlobals "MOST_SETS" = some (some (.int 300 t1)))
    (z0 : PySem.W.nsIn K mainGlobals "all" = some none)
    (z1 : PySem.W.nsIn K mainGlobals "any" = some none)
    (z2 : PySem.W.nsIn K mainGlobals "bool" = some none)
    (z3 : PySem.W.nsIn K mainGlobals "int" = some none)
    (z4 : PySem.W.nsIn K mainGlobals "isinstance" = some none)
    (z5 : PySem.W.nsIn K mainGlobals "len" = some none)
    (z6 : PySem.W.nsIn K mainGlobals "list" = some none)
    (z7 : PySem.W.nsIn K mainGlobals "min" = some none)
    (z8 : PySem.W.nsIn K mainGlobals "range" = some none)
    (z9 : PySem.W.nsIn K mainGlobals "set" = some none)
    (z10 : PySem.W.nsIn K mainGlobals "sorted" = some none)
    : ∃ fd : FuncData, (∀ (s : Shared) (v : Value), BindsTo s fd ⟨[v], []⟩ [("script", v)]) ∧ ∀ base : Heap, K.In base → base.Ns mainGlobals mg → Lk.FnG l.prog w K mg base CX0 7 fa fd ["script"] (spLaw K g_law_k20) := by
  have e := hfa.symm.trans (PySem.W.mg_of X G a15)
  cases e
  have F0 := fun_mk (st := s_p_tell_holding) l0 c0 k0
  have g0 := PySem.W.mg_of X G a0
  have b0 := F0.binds (ps := ["size", "masks"]) fun _ _ _ _ _ _ us hl => match us, hl with | [_, _], _ => rfl
  have F1 := fun_mk (st := s_meeting_masks) l1 c1 k1
  have g1 := PySem.W.mg_of X G a1
  have b1 := F1.binds (ps := ["size", "masks"]) fun _ _ _ _ _ _ us hl => match us, hl with | [_, _], _ => rfl
  have F2 := fun_mk (st := s_members_of) l2 c2 k2
  have g2 := PySem.W.mg_of X G a2
  have b2 := F2.binds (ps := ["size", "mask"]) fun _ _ _ _ _ _ us hl => match us, hl with | [_, _], _ => rfl
  have F3 := fun_mk (st := s_shortest_length) l3 c3 k3
  have g3 := PySem.W.mg_of X G a3
  have b3 := F3.binds (ps := ["size", "masks"]) fun _ _ _ _ _ _ us hl => match us, hl with | [_, _], _ => rfl
  have F4 := fun_mk (st := s_is_integer) l4 c4 k4
  have g4 := PySem.W.mg_of X G a4
  have b4 := F4.binds (ps := ["value"]) fun _ _ _ _ _ _ us hl => match us, hl with | [_], _ => rfl
  have F5 := fun_mk (st := s_is_integer_below) l5 c5 k5
  have g5 := PySem.W.mg_of X G a5
  have b5 := F5.binds (ps := ["value", "limit"]) fun _ _ _ _ _ _ us hl => match us, hl with | [_, _], _ => rfl
  have F6 := fun_mk (st := s_mask_of) l6 c6 k6
  have g6 := PySem.W.mg_of X G a6
  have b6 := F6.binds (ps := ["size", "members"]) fun _ _ _ _ _ _ us hl => match us, hl with | [_, _], _ => rfl
  have F7 := fun_mk (st := s_are_ascending_below) l7 c7 k7
  have g7 := PySem.W.mg_of X G a7
  have b7 := F7.binds (ps := ["values", "limit"]) fun _ _ _ _ _ _ us hl => match us, hl with | [_, _], _ => rfl
  have F8 := fun_mk (st := s_p_is_set) l8 c8 k8
  have g8 := PySem.W.mg_of X G a8
  have b8 := F8.binds (ps := ["size", "value"]) fun _ _ _ _ _ _ us hl => match us, hl with | [_, _], _ => rfl
  have F9 := fun_mk (st := s_p_read_family) l9 c9 k9
  have g9 := PySem.W.mg_of X G a9
  have b9 := F9.binds (ps := ["size", "family"]) fun _ _ _ _ _ _ us hl => match us, hl with | [_, _], _ => rfl
  have F10 := fun_mk (st := s_shortest_meeting) l10 c10 k10
  have g10 := PySem.W.mg_of X G a10
  have b10 := F10.binds (ps := ["size", "family"]) fun _ _ _ _ _ _ us hl => match us, hl with | [_, _], _ => rfl
  have F11 := fun_mk (st := s_p_count_apart) l11 c11 k11
  have g11 := PySem.W.mg_of X G a11
  have b11 := F11.binds (ps := ["size", "masks"]) fun _ _ _ _ _ _ us hl => match us, hl with | [_, _], _ => rfl
  have F12 := fun_mk (st := s_apart) l12 c12 k12
  have g12 := PySem.W.mg_of X G a12
  have b12 := F12.binds (ps := ["size", "family"]) fun _ _ _ _ _ _ us hl => match us, hl with | [_, _], _ => rfl
  have F13 := fun_mk (st := s_law_cell_e350a) l13 c13 k13
  have g13 := PySem.W.mg_of X G a13
  have b13 := F13.binds (ps := ["script", "k"]) fun _ _ _ _ _ _ us hl => match us, hl with | [_, _], _ => rfl
  have F14 := fun_mk (st := s_law_set_3b7aa) l14 c14 k14
  have g14 := PySem.W.mg_of X G a14
  have b14 := F14.binds (ps := ["bits", "many"]) fun _ _ _ _ _ _ us hl => match us, hl with | [_, _], _ => rfl
  have F15 := fun_mk (st := s_law_k20) l15 c15 k15
  have g15 := PySem.W.mg_of X G a15
  have m_GREATEST_SET_SIZE : ∃ t, mg "GREATEST_SET_SIZE" = some (.int 10 t) := ⟨_, PySem.W.mg_of X G n0⟩
  have m_MOST_SETS : ∃ t, mg "MOST_SETS" = some (.int 300 t) := ⟨_, PySem.W.mg_of X G n1⟩
  have y_all := PySem.W.mg_none_of X G z0
  have y_any := PySem.W.mg_none_of X G z1
  have y_bool := PySem.W.mg_none_of X G z2
  have y_int := PySem.W.mg_none_of X G z3
  have y_isinstance := PySem.W.mg_none_of X G z4
  have y_len := PySem.W.mg_none_of X G z5
  have y_list := PySem.W.mg_none_of X G z6
  have y_min := PySem.W.mg_none_of X G z7
  have y_range := PySem.W.mg_none_of X G z8
  have y_set := PySem.W.mg_none_of X G z9
  have y_sorted := PySem.W.mg_none_of X G z10
  refine ⟨PySem.W.fnOf "law" "law" (defArgs s_law_k20) (defBody s_law_k20) (defScope s_law_k20) .none kV15 dc15 pm15 an15 cd15 ct15, fun s v => .of_eq rfl, fun base _ _ => ?_⟩
  have H_p_tell_holding : Has l.prog w K mg base 1 "_tell_holding" ["size", "masks"] (spD K g_p_tell_holding) := t_p_tell_holding (k := 0) F0 b0 g0 y_any y_range
  have H_meeting_masks : Has l.prog w K mg base 2 "meeting_masks" ["size", "masks"] (spD K g_meeting_masks) := t_meeting_masks (k := 1) F1 b1 g1 y_range (H_p_tell_holding.mono (by decide))
  have H_members_of : Has l.prog w K mg base 1 "members_of" ["size", "mask"] (spD K g_members_of) := t_members_of (k := 0) F2 b2 g2 y_range
  have H_shortest_length : Has l.prog w K mg base 2 "shortest_length" ["size", "masks"] (spD K g_shortest_length) := t_shortest_length (k := 1) F3 b3 g3 y_len y_min (H_members_of.mono (by decide))
  have H_is_integer : Has l.prog w K mg base 1 "is_integer" ["value"] (spD K g_is_integer) := t_is_integer (k := 0) F4 b4 g4 y_bool y_int y_isinstance
  have H_is_integer_below : Has l.prog w K mg base 2 "is_integer_below" ["value", "limit"] (spD K g_is_integer_below) := t_is_integer_below (k := 1) F5 b5 g5 (H_is_integer.mono (by decide))
  have H_mask_of : Has l.prog w K mg base 1 "mask_of" ["size", "members"] (spD K g_mask_of) := t_mask_of (k := 0) F6 b6 g6 
  have H_are_ascending_below : Has l.prog w K mg base 3 "are_ascending_below" ["values", "limit"] (spD K g_are_ascending_below) := t_are_ascending_below (k := 2) F7 b7 g7 (H_is_integer_below.mono (by decide))
  have H_p_is_set : Has l.prog w K mg base 4 "_is_set" ["size", "value"] (spD K g_p_is_set) := t_p_is_set (k := 3) F8 b8 g8 y_isinstance y_list (H_are_ascending_below.mono (by decide))
  have H_p_read_family : Has l.prog w K mg base 5 "_read_family" ["size", "family"] (spD K g_p_read_family) := t_p_read_family (k := 4) F9 b9 g9 y_all m_GREATEST_SET_SIZE m_MOST_SETS y_isinstance y_len y_list (H_is_integer_below.mono (by decide)) (H_mask_of.mono (by decide)) (H_p_is_set.mono (by decide))
  have H_shortest_meeting : Has l.prog w K mg base 6 "shortest_meeting" ["size", "family"] (spD K g_shortest_meeting) := t_shortest_meeting (k := 5) F10 b10 g10 (H_meeting_masks.mono (by decide)) (H_shortest_length.mono (by decide)) (H_p_read_family.mono (by decide))
  have H_p_count_apart : Has l.prog w K mg base 1 "_count_apart" ["size", "masks"] (spD K g_p_count_apart) := t_p_count_apart (k := 0) F11 b11 g11 y_range
  have H_apart : Has l.prog w K mg base 6 "apart" ["size", "family"] (spD K g_apart) := t_apart (k := 5) F12 b12 g12 (H_p_count_apart.mono (by decide)) (H_p_read_family.mono (by decide))
  have H_law_cell_e350a : Has l.prog w K mg base 1 "_law_cell" ["script", "k"] (spD K g_law_cell_e350a) := t_law_cell_e350a (k := 0) F13 b13 g13 y_int y_len
  have H_law_set_3b7aa : Has l.prog w K mg base 1 "_law_set" ["bits", "many"] (spD K g_law_set_3b7aa) := t_law_set_3b7aa (k := 0) F14 b14 g14 y_range
  have LB : Binds K _ ["script"] [] := F15.binds (ps := ["script"]) fun _ _ _ _ _ _ us hl => match us, hl with | [_], _ => rfl
  exact Lk.FnG.ofOk (law_fn (f_law_k20 (k := 6) F15 LB g15 y_bool y_int y_isinstance y_list y_set y_sorted (H_shortest_meeting.mono (by decide)) (H_apart.mono (by decide)) (H_law_cell_e350a.mono (by decide)) (H_law_set_3b7aa.mono (by decide))))
end DL
open PySem PySem.W PyProof.Rows in
set_option maxRecDepth 100000 in
set_option maxHeartbeats 0 in
theorem PySem.Challenge.cw_leastreasons_k20_sets_apart_holds : PySem.Challenge.rw_leastreasons_k20_sets_apart.Holds := by
  w_on; o_law; k_head; (case hw => w_witness2)
  k_fill
  refine Lk.walk_ofGB (l := PySem.Challenge.rw_leastreasons_k20_sets_apart) (n := 63) (k := 7) (x := "script") (sp := fun w => DL.spLaw _ DL.g_law_k20) rfl (by decide) rfl ⟨rfl, by decide, by decide⟩ (fun w h Y => PySem.W.kIn_of Y) ?F (fun _ _ a ns hl hb _ hS => ⟨a, ns, rfl, hS, DL.true_k20 ns hl hb, fun _ => rfl⟩)
  case F =>
    intro w mg fa h KX G hmg
    refine' DL.all_mk KX G hmg ?a0 ?l0 ?c0 ?k0 ?a1 ?l1 ?c1 ?k1 ?a2 ?l2 ?c2 ?k2 ?a3 ?l3 ?c3 ?k3 ?a4 ?l4 ?c4 ?k4 ?a5 ?l5 ?c5 ?k5 ?a6 ?l6 ?c6 ?k6 ?a7 ?l7 ?c7 ?k7 ?a8 ?l8 ?c8 ?k8 ?a9 ?l9 ?c9 ?k9 ?a10 ?l10 ?c10 ?k10 ?a11 ?l11 ?c11 ?k11 ?a12 ?l12 ?c12 ?k12 ?a13 ?l13 ?c13 ?k13 ?a14 ?l14 ?c14 ?k14 ?a15 ?l15 ?c15 ?k15 ?n0 ?n1 ?z0 ?z1 ?z2 ?z3 ?z4 ?z5 ?z6 ?z7 ?z8 ?z9 ?z10
    (case a0 => k_is)
    (case l0 => k_is)
    (case c0 => k_is)
    (case k0 => k_is)
    (case a1 => k_is)
    (case l1 => k_is)
    (case c1 => k_is)
    (case k1 => k_is)
    (case a2 => k_is)
    (case l2 => k_is)
    (case c2 => k_is)
    (case k2 => k_is)
    (case a3 => k_is)
    (case l3 => k_is)
    (case c3 => k_is)
    (case k3 => k_is)
    (case a4 => k_is)
    (case l4 => k_is)
    (case c4 => k_is)
    (case k4 => k_is)
    (case a5 => k_is)
    (case l5 => k_is)
    (case c5 => k_is)
    (case k5 => k_is)
    (case a6 => k_is)
    (case l6 => k_is)
    (case c6 => k_is)
    (case k6 => k_is)
    (case a7 => k_is)
    (case l7 => k_is)
    (case c7 => k_is)
    (case k7 => k_is)
    (case a8 => k_is)
    (case l8 => k_is)
    (case c8 => k_is)
    (case k8 => k_is)
    (case a9 => k_is)
    (case l9 => k_is)
    (case c9 => k_is)
    (case k9 => k_is)
    (case a10 => k_is)
    (case l10 => k_is)
    (case c10 => k_is)
    (case k10 => k_is)
    (case a11 => k_is)
    (case l11 => k_is)
    (case c11 => k_is)
    (case k11 => k_is)
    (case a12 => k_is)
    (case l12 => k_is)
    (case c12 => k_is)
    (case k12 => k_is)
    (case a13 => k_is)
    (case l13 => k_is)
    (case c13 => k_is)
    (case k13 => k_is)
    (case a14 => k_is)
    (case l14 => k_is)
    (case c14 => k_is)
    (case k14 => k_is)
    (case a15 => k_is)
    (case l15 => k_is)
    (case c15 => k_is)
    (case k15 => k_is)
    (case n0 => k_is)
    (case n1 => k_is)
    (case z0 => k_is)
    (case z1 => k_is)
    (case z2 => k_is)
    (case z3 => k_is)
    (case z4 => k_is)
    (case z5 => k_is)
    (case z6 => k_is)
    (case z7 => k_is)
    (case z8 => k_is)
    (case z9 => k_is)
    (case z10 => k_is)
