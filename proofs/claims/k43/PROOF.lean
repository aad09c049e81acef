import PyProof.Rows.All
import Wide.All
import OpenK.AllK
import Wide.FinOn
import HandS.ForMost
import HandS.IsInst
import HandS.Wide
import HandS.WideBits
import HandS.RevRange
import HandS.NoneIn
import HandS.SortInts
import HandS.SortKw
import HandS.Style
import HandS.WordsExc
import HandS.ExcOwn
import HandS.ExcIs
import HandS.Conv
import KE.RegKIsAll
import KE.RegKTryMore
import PySem.Challenge.RW_leastreasons_k43_shortest_turns_in_cards
set_option Elab.async false
set_option linter.all false
set_option maxRecDepth 100000
set_option maxHeartbeats 8000000
namespace Lk
open PySem PySem.Spec PyProof.Rows L2

/-! ## promises of defs that are entered while no display runs further out (repr of lists) -/
structure FnG (P : Program) (w : World) (K : PySem.W.Frag) (mg : Str → Option Value) (base : Heap) (CX : CXT)
    (k : Nat) (f : Addr) (fd : FuncData) (ps : List Str) (sp : Sp) : Prop where
  len : ∀ vs H Q E, sp vs H Q E → vs.length = ps.length
  run : ∀ (A : Around) (outer : List Env) (s : Shared) (H : Hp) (args : Args) (us : List Value) (vs : List V) (Q : VK) (E : XK),
    A.guards = some [] → Room k A → Env0 P w K mg base A outer s H → BindsTo s fd args (ps.zip us) → Vals vs us → sp vs H Q E →
    codeAny (model P w) A (.call (.ref f) args) (CR CX outer P w H s Q E) s

section
variable {P : Program} {w : World} {K : PySem.W.Frag} {mg : Str → Option Value} {base : Heap} {CX : CXT} {k : Nat} {f : Addr}
theorem FnG.ofOk {fd : FuncData} {ps : List Str} {sp : Sp} (F : FnOk P w K mg base CX k f fd ps sp) : FnG P w K mg base CX k f fd ps sp :=
  ⟨F.len, fun A outer s H args us vs Q E _ r e b v h => F.run A outer s H args us vs Q E r e b v h⟩
theorem FnG.mono {fd : FuncData} {ps : List Str} {sp : Sp} {j : Nat} (F : FnG P w K mg base CX j f fd ps sp) (h : j ≤ k) : FnG P w K mg base CX k f fd ps sp :=
  ⟨F.len, fun A outer s H args us vs Q E g r e b v z => F.run A outer s H args us vs Q E g (r.mono h) e b v z⟩

/-- a def by its body, which may use that no display runs further out -/
theorem fnG_of {name qual : Str} {params : Arguments} {body : List Stmt} {scope : Scope} {dV kV doc pm cdv ct oc : Value} {an od : Option Addr}
    {osl : Array (Option Value)} {N ps : List Str} {sp : Sp}
    (lk : K.lookup f = some ⟨oc, od, .func (PySem.W.fnOf name qual params body scope dV kV doc pm an cdv ct), osl⟩)
    (cd : PySem.W.codeIn K cdv qual = true) (S : FnScope N ps scope) (len : ∀ vs H Q E, sp vs H Q E → vs.length = ps.length)
    (bd : ∀ (A : Around) (outer : List Env) (s : Shared) (H : Hp) (vs : List V) (Q : VK) (E : XK), A.guards = some [] →
      Room k (A.deeper (envOfC qual scope s.heap.objs.size f cdv)) → sp vs H Q E →
      ∃ t, PSs (cxOf CX P w K mg base N qual scope f cdv A outer s H E) body t ∧ t { nx := fun _ H' => Q .non H', rt := Q } (start N vs) H) :
    FnG P w K mg base CX (k + 1) f (PySem.W.fnOf name qual params body scope dV kV doc pm an cdv ct) ps sp := by
  constructor
  · exact len
  intro A outer s H args us vs Q E hg rm env bnd rel prom
  have inK : K.In s.heap := env.mod.kin.keeps fun b o e => (env.bs b o e).1
  have noLim : s.heap.NoLimit := env.mod.nolimit.keeps fun b o e => (env.bs b o e).1
  refine codeAny_call_function rm.depth (inK _ _ lk) rfl S.co S.gen rfl (PySem.W.codeRec_of inK cd) (bnd _ _ _ _ ?_)
  refine wpAny_newFunctionEnv_cells S.kind ?kinds fun env' ee s1 x => ?_
  case kinds =>
    rintro ⟨n, v⟩ mem
    rcases S.par n (List.of_mem_zip mem).1 with z | z
    · exact Or.inl z
    · exact Or.inr ⟨z, PySem.W.cellsFrom_some _ _ _ (Or.inl z)⟩
  subst ee
  refine ⟨noLim.keeps x.toInCall.keep, codeAny_func ?_⟩
  obtain ⟨t, der, rd⟩ := bd A outer s H vs Q E hg (rm.deeper _) prom
  have I0 := inv_start (CX := CX) (E := E) S rm.hd env (len _ _ _ _ prom) rel x
  refine wpAny_mono (der.run [] s1 (start N vs) H _ I0 rd) (fun fl s' z => ?_) fun _ _ z => z
  cases fl with
  | ret u =>
    obtain ⟨v, _, H', J, rv, q⟩ := z
    exact ⟨v, H', J.os, J.bare, J.base, J.hok, rv, q⟩
  | next =>
    obtain ⟨_, H', J, q⟩ := z
    exact ⟨V.non, H', J.os, J.bare, J.base, J.hok, rfl, q⟩
  | brk => exact z.choose_spec.choose_spec.2.elim
  | cont => exact z.choose_spec.choose_spec.2.elim
end

/-- Fun.ok for guarded promises, no exception leaving -/
theorem Fun_okG {P : Program} {w : World} {K : PySem.W.Frag} {mg : Str → Option Value} {base : Heap} {x qual : Str} {st : Stmt} {f : Addr} {fd : FuncData}
    {N ps : List Str} {k : Nat} {sp : Sp} (F : Fun K x qual st f fd) (S : FnScope N ps (defScope st)) (len : ∀ vs H Q E, sp vs H Q E → vs.length = ps.length)
    (bd : ∀ (cdv : Value) (A : Around) (outer : List Env) (s : Shared) (H : Hp) (vs : List V) (Q : VK) (E : XK), A.guards = some [] →
      Room k (A.deeper (envOfC qual (defScope st) s.heap.objs.size f cdv)) → sp vs H Q E →
      ∃ t, PSs (cxOf CX0 P w K mg base N qual (defScope st) f cdv A outer s H E).nox (defBody st) t ∧ t { nx := fun _ H' => Q .non H', rt := Q } (start N vs) H) :
    FnG P w K mg base CX0 (k + 1) f fd ps sp := by
  obtain ⟨_, _, _, _, _, _, cdv, _, _, rfl, lk, hcd⟩ := F.ex
  refine fnG_of lk hcd S len fun A outer s H vs Q E hg hr z => ?_
  obtain ⟨t, d, q⟩ := bd cdv A outer s H vs Q E hg hr z
  exact ⟨t, d.nox, q⟩

section
variable {X : Cx} {CX : CXT} {k : Nat} {f : Addr} {fd : FuncData} {ps : List Str} {sp : Sp} {dvs : List V} {ds : List Value} {E : XK} {x : Str} {p pos : Pos} {e : Expr} {es : List Expr} {t : TA}
/-- a call of such a def, from a body that itself knows that no display runs -/
theorem pe_callG (hgd : X.A.guards = some []) (F : FnG X.prog X.w X.K X.mg X.base CX k f fd ps sp) (hr : Room k X.A) (hg : Gl X x) (hm : X.mg x = some (.ref f))
    (hk : PySem.W.keepIn X.K (.ref f) = true) (hb : Binds X.K fd ps ds) (hd : Vals dvs ds) (hx : Passes CX X E) (ha : PA X (e :: es) t)
    (hdb : (x == ("__debug__" : Str)) = false := by decide) (he : starEach (e :: es) X.env = (false, eval e X.env) :: starEach es X.env := by rfl)
    (hpl : (backTo pos (starEach es X.env)).any (·.1) = false := by rfl) : PE X (.Call (.Name x p) (e :: es) [] pos) (tCall sp dvs E t) := by
  constructor
  intro pins s σ H Q I h
  refine wpAny_Call_Name_kw (ld_glob I hg hm ?_ hdb)
  refine PySem.W.callWith_K (h₀ := X.base) I.ok.mod.kin hk (thn (ha.run pos pins s σ H _ I h) ?_) he hpl
  rintro us s1 ⟨vs, H1, I1, r, q⟩
  refine ⟨I1.kIn, ?_⟩
  have r2 := r.append hd
  have hl := r2.length.symm.trans (F.len _ _ _ _ q)
  refine wpAny_call (codeAny_mono (F.run X.A X.stack s1 H1 ⟨us, []⟩ (us ++ ds) (vs ++ dvs) Q E hgd hr I1.env0 (hb s1 us I1.kIn hl) r2 q) ?_)
  rintro (e' | fl) s' z
  · exact hx pins σ H1 s1 e' s' I1 z
  · cases fl with
    | ret u => exact I1.after z
    | next => exact z.elim
    | brk => exact z.elim
    | cont => exact z.elim
end

/-! ## the law's own end for such a promise -/
theorem law_callG {P : Program} {w : World} {K : PySem.W.Frag} {mg mb : Str → Option Value} {k : Nat} {fa a : Addr} {fd : FuncData} {x : Str} {sp : Sp} {s₁ : Shared} {vs : List Value} {ns : List Int}
    (KX : K.In s₁.heap) (hns : s₁.heap.Ns mainGlobals mg) (hb : s₁.heap.Ns builtinsNs mb) (hbb : ∀ x : Str, x ≠ "__name__" → mb x = bootBuiltins x) (hlim : s₁.heap.NoLimit)
    (hg : s₁.gens = #[]) (ha : s₁.heap.get? a = some { cls := .type "list", data := .seq vs.toArray }) (hi : IntsAre vs ns) (hl : ns.length ≤ sizeLine) (hr : Room k callerA)
    (F : ∀ base : Heap, K.In base → base.Ns mainGlobals mg → FnG P w K mg base CX0 k fa fd [x] sp) (bnd : ∀ (s : Shared) (u : Value), BindsTo s fd ⟨[u], []⟩ [(x, u)])
    (hsp : ∀ H : Hp, Only H → SqL K H a (ns.map V.int) → sp [.ref a] H (fun v _ => v = .bl true) fun _ _ _ => False) :
    codeAny (model P w) callerA (.call (.ref fa) ⟨[.ref a], []⟩) (fun r s' => r = .ok (.ret (.bool true)) ∧ OldK s₁.heap s'.heap ∧ s'.os = s₁.os ∧ AllBare s'.gens) s₁ := by
  have rel := vals_ints hi
  have obj : (⟨.type "list", none, .seq vs.toArray 0, #[]⟩ : Obj) = { cls := .type "list", data := .seq vs.toArray } := rfl
  suffices core : ∀ H : Hp, Only H → SqL K H a (ns.map V.int) → HOk P w H s₁.heap → (∀ b, H b ≠ none → b = a ∧ K.lookup a = none) →
      codeAny (model P w) callerA (.call (.ref fa) ⟨[.ref a], []⟩) (fun r s' => r = .ok (.ret (.bool true)) ∧ OldK s₁.heap s'.heap ∧ s'.os = s₁.os ∧ AllBare s'.gens) s₁ by
    cases hk : K.lookup a with
    | some o =>
      have e := KX a o hk
      rw [ha] at e
      cases e
      refine core (fun _ => none) (fun _ => Or.inl rfl) (Or.inr ⟨_, vs.toArray, _, hk, rfl, rfl, rfl, ?_, by simpa using rel⟩) (fun b u z => nomatch z) fun b z => absurd rfl z
      rw [List.size_toArray, hi.length]
      exact hl
    | none =>
      refine core (fun b => if b = a then some (.frz { cls := .type "list", data := .seq vs.toArray } (.lst (ns.map V.int))) else none) ?_ (Or.inl (Or.inr ⟨_, if_pos rfl⟩)) ?_ ?_
      · intro b
        by_cases q : b = a
        · exact Or.inr ⟨_, _, if_pos q⟩
        · exact Or.inl (if_neg q)
      · intro b u z
        by_cases q : b = a
        · subst q
          have z2 := (if_pos rfl).symm.trans z
          cases z2
          exact ⟨ha, by simpa using hl, vs, _, rel, ha⟩
        · exact nomatch (if_neg q).symm.trans z
      · intro b z
        by_cases q : b = a
        · exact ⟨q, hk⟩
        · exact absurd (if_neg q) z
  intro H only seq hok one
  have untr : ∀ {b : Addr} {m : Str → Option Value}, s₁.heap.Ns b m → (hidT s₁.heap H).Ns b m := by
    rintro b m ⟨o, es, ep, e, d, r⟩
    refine ⟨o, es, ep, hidT_get e ?_, d, r⟩
    by_cases q : H b = none
    · exact q
    · obtain ⟨rfl, _⟩ := one b q
      rw [ha] at e
      cases e
      exact absurd d (by simp)
  have inB : K.In (hidT s₁.heap H) := by
    intro b o e
    refine hidT_get (KX b o e) ?_
    by_cases q : H b = none
    · exact q
    · obtain ⟨rfl, z⟩ := one b q
      rw [z] at e
      cases e
  have modu : Mod K mg (hidT s₁.heap H) := ⟨inB, untr hns, ⟨mb, untr hb, hbb⟩, hlim.elim fun mc z => ⟨mc, untr z.1, z.2⟩⟩
  have env : Env0 P w K mg (hidT s₁.heap H) callerA [] s₁ H :=
    ⟨rfl, modu, fun _ _ e => of_hidT e, Nat.le_of_eq (hidT_size _ _), trivial, fun b z => absurd (show b ∈ ([] : List Addr) from z) (by simp), hok, .of_eq hg⟩
  refine codeAny_mono ((F _ inB (untr hns)).run callerA [] s₁ H ⟨[.ref a], []⟩ [.ref a] [.ref a] _ _ rfl hr env (bnd s₁ (.ref a)) (.cons rfl .nil) (hsp H only seq)) ?_
  rintro (e' | fl) s' z
  · exact z.elim
  cases fl with
  | next => exact z.elim
  | brk => exact z.elim
  | cont => exact z.elim
  | ret u =>
    obtain ⟨v, H', os, bare, un, ok', rv, rfl⟩ := z
    obtain rfl : u = Value.bool true := rv
    refine ⟨rfl, OldK.of_keep ?_, os, bare⟩
    intro b o e
    rcases only b with q | ⟨ob, xs, q⟩
    · exact un.keep b o e q (fun z => absurd (show b ∈ ([] : List Addr) from z) (by simp)) (by simp)
    · have q2 := (ok' b _ (un.frzs b ob _ q)).1
      have q1 := (hok b _ q).1
      rw [e] at q1
      cases q1
      exact q2

theorem walk_ofG {l : PySem.W.OpenLaw} {n k : Nat} {q : Program} {loose : List Str} {XP : (Str → Option Value) → Heap → Prop} {YP : World → Heap → Prop} {d : DefRec}
    {K : Params → PySem.W.Frag} {sp : World → Sp} {x : Str} (hn : l.most = some n) (hn2 : n ≤ sizeLine) (hdf : d.params.defaults = []) (hr : Room k callerA)
    (hY : ∀ (w : World) (h : Heap), YP w h → (K w.params).In h)
    (F : ∀ (w : World) (mg : Str → Option Value) (fa : Addr) (h : Heap), (K w.params).In h → h.Ns mainGlobals mg → mg d.name = some (.ref fa) →
      ∃ fd : FuncData, (∀ (s : Shared) (u : Value), BindsTo s fd ⟨[u], []⟩ [(x, u)]) ∧
        ∀ base : Heap, (K w.params).In base → base.Ns mainGlobals mg → FnG l.prog w (K w.params) mg base CX0 k fa fd [x] (sp w))
    (hsp : ∀ (w : World) (H : Hp) (a : Addr) (ns : List Int), ns.length ≤ n → Only H → SqL (K w.params) H a (ns.map V.int) → sp w [.ref a] H (fun v _ => v = .bl true) fun _ _ _ => False) :
    PySem.W.WalkO q loose XP YP l.row.toRowW d [] (fun f vs => PySem.call f vs) := by
  refine Att.attach_call hn hdf ?_
  intro w s₀ s₁ mg mb fa o pm cd doc a vs ns G Y _ _ _ hmg hobj hints hlen hg
  have KX := hY w _ Y
  obtain ⟨fd, hb, hF⟩ := F w mg fa _ KX G.T.g hmg
  exact law_callG KX G.T.g G.T.b G.T.builtins G.T.nolimit hg hobj hints (Nat.le_trans hlen hn2) hr hF hb fun H hO hS => hsp w H a ns hlen hO hS

/-! ## rules -/
section
variable {X : Cx}
theorem op_powN : OpR X (binaryOp .Pow) (rI (fun i j => 0 ≤ j ∧ (Builtin.Int.intBits i : Int) * j ≤ 2 ^ 27) fun i j => .int (i ^ j.toNat)) :=
  opI fun _ _ _ _ _ _ _ hc q => pow_int hc.1 hc.2 q

/-- repr of a list or tuple of data -/
theorem call_reprD (hg : X.A.guards = some []) (hu : X.A.units + 64 < cLine) : CallR X (.builtin "repr") (fun xs H Q =>
    ∃ a d, xs = [.ref a] ∧ Dp X.K H (.ref a) d ∧ d.showable = true ∧ d.hasDict = false ∧ d.depth + 1 ≤ 64 ∧ d.shown.length ≤ sizeLine ∧ Q (.str d.shown) H) := by
  intro pins s σ H xs us Q I r h
  obtain ⟨a, d, rfl, hd, hs, hn, hdp, hz, q⟩ := h
  obtain ⟨u, rfl, ru⟩ := vals1 r
  cases ru
  obtain ⟨as, rd⟩ := Dp.reads I d _ _ hd rfl
  exact repr_of_reads' rd hs (PyData.noDict_hsm hn) hg (by omega) (fun _ _ e => e) (fun h' u tk hk => ⟨.str d.shown, H, I.kept hk, ⟨_, rfl⟩, q⟩) hz
/-- repr of any data -/
theorem call_repr (hg : X.A.guards = some []) (hu : X.A.units + 64 < cLine) : CallR X (.builtin "repr") (fun xs H Q =>
    ∃ v d, xs = [v] ∧ Dp X.K H v d ∧ d.showable = true ∧ d.hasDict = false ∧ d.depth + 1 ≤ 64 ∧ d.shown.length ≤ sizeLine ∧ Q (.str d.shown) H) := by
  intro pins s σ H xs us Q I r h
  obtain ⟨v, d, rfl, hd, hs, hn, hdp, hz, q⟩ := h
  cases hd with
  | non =>
    obtain ⟨u, rfl, ru⟩ := vals1 r
    cases ru
    exact PySem.P.repr_of_none ⟨.str _, H, I.tok _, ⟨_, rfl⟩, q⟩
  | bl b =>
    obtain ⟨u, rfl, ru⟩ := vals1 r
    cases ru
    refine PySem.P.repr_of_bool ⟨.str _, H, I.tok _, ⟨_, rfl⟩, ?_⟩
    cases b <;> exact q
  | int i =>
    obtain ⟨u, rfl, t, rfl⟩ := vals1 r
    exact PySem.P.repr_of_int (of_decide_eq_true hs) ⟨.str _, H, I.tok _, ⟨_, rfl⟩, q⟩
  | str x =>
    obtain ⟨u, rfl, t, rfl⟩ := vals1 r
    exact PySem.P.repr_of_str ⟨.str _, H, I.tok _, ⟨_, rfl⟩, q⟩ hz
  | lst hs' ha => exact call_reprD hg hu pins s σ H _ us Q I r ⟨_, _, rfl, .lst hs' ha, hs, hn, hdp, hz, q⟩
  | tup hs' ha => exact call_reprD hg hu pins s σ H _ us Q I r ⟨_, _, rfl, .tup hs' ha, hs, hn, hdp, hz, q⟩
end
end Lk
namespace Lk
open PySem PySem.Spec PyProof.Rows L2

/-! ## data: how great, how deep -/
structure Ok (n w : Nat) (d : PyData) : Prop where
  sh : d.showable = true
  nd : d.hasDict = false
  dp : d.depth ≤ n
  cl : d.canLay0 = true
  lv : d.leavesShort 64 = true
  wt : d.weight ≤ w
namespace Ok
variable {n w n' w' L : Nat} {d : PyData} {ds : List PyData}
theorem mono (h : Ok n w d) (hn : n ≤ n') (hw : w ≤ w') : Ok n' w' d := ⟨h.sh, h.nd, Nat.le_trans h.dp hn, h.cl, h.lv, Nat.le_trans h.wt hw⟩
theorem shaped (h : Ok n w d) (hn : n ≤ 64) : SeqAt.shaped d = true := by
  unfold SeqAt.shaped
  rw [h.cl, decide_eq_true (Nat.le_trans h.dp hn)]
  rfl
theorem fits (h : Ok n w d) (hw : w ≤ 2 ^ 17) : d.shown.length ≤ sizeLine := by
  have a := PyData.shown_le 64 (by decide) d h.lv
  have b : (64 + 2) * d.weight ≤ 66 * 2 ^ 17 := Nat.mul_le_mul_left 66 (Nat.le_trans h.wt hw)
  have c : sizeLine = 2 ^ 24 := rfl
  omega
theorem none : Ok n w .none := ⟨rfl, rfl, Nat.zero_le _, rfl, rfl, Nat.zero_le _⟩
theorem bool (b : Bool) : Ok n w (.bool b) := ⟨rfl, rfl, Nat.zero_le _, rfl, rfl, Nat.zero_le _⟩
end Ok
def okAll (n w : Nat) (ds : List PyData) : Prop := ∀ d ∈ ds, Ok n w d
theorem okAll_facts {n w : Nat} : ∀ {ds : List PyData}, okAll n w ds → PyData.showableAll ds = true ∧ PyData.hasDictAll ds = false ∧ PyData.depthAll ds ≤ n ∧ PyData.canLayAll0 ds = true ∧ PyData.leavesShortAll 64 ds = true ∧ PyData.weightAll ds ≤ ds.length * (w + 1)
  | [], _ => ⟨rfl, rfl, Nat.zero_le _, rfl, rfl, Nat.zero_le _⟩
  | d :: ds, h => by
    have a := h d (List.mem_cons_self ..)
    obtain ⟨b1, b2, b3, b4, b5, b6⟩ := okAll_facts (ds := ds) fun x hx => h x (List.mem_cons_of_mem _ hx)
    refine ⟨?_, ?_, ?_, ?_, ?_, ?_⟩
    · show (d.showable && PyData.showableAll ds) = true
      rw [a.sh, b1]
      rfl
    · show (d.hasDict || PyData.hasDictAll ds) = false
      rw [a.nd, b2]
      rfl
    · show max d.depth (PyData.depthAll ds) ≤ n
      exact Nat.max_le.mpr ⟨a.dp, b3⟩
    · show (d.canLay0 && PyData.canLayAll0 ds) = true
      rw [a.cl, b4]
      rfl
    · show (d.leavesShort 64 && PyData.leavesShortAll 64 ds) = true
      rw [a.lv, b5]
      rfl
    · show d.weight + 1 + PyData.weightAll ds ≤ (ds.length + 1) * (w + 1)
      have := a.wt
      rw [Nat.succ_mul]
      omega
theorem Ok.list {n w L : Nat} {ds : List PyData} (h : okAll n w ds) (hl : ds.length ≤ L) : Ok (n + 1) (L * (w + 1)) (.list ds) := by
  obtain ⟨b1, b2, b3, b4, b5, b6⟩ := okAll_facts h
  refine ⟨b1, b2, ?_, b4, b5, ?_⟩
  · show PyData.depthAll ds + 1 ≤ n + 1
    omega
  · show PyData.weightAll ds ≤ _
    exact Nat.le_trans b6 (Nat.mul_le_mul_right _ hl)
theorem Ok.tuple {n w L : Nat} {ds : List PyData} (h : okAll n w ds) (hl : ds.length ≤ L) : Ok (n + 1) (L * (w + 1)) (.tuple ds) := by
  obtain ⟨b1, b2, b3, b4, b5, b6⟩ := okAll_facts h
  refine ⟨b1, b2, ?_, b4, b5, ?_⟩
  · show PyData.depthAll ds + 1 ≤ n + 1
    omega
  · show PyData.weightAll ds ≤ _
    exact Nat.le_trans b6 (Nat.mul_le_mul_right _ hl)
theorem Ok.int {n w : Nat} {i : Int} (h : i.natAbs < 2 ^ 30) (hw : 30 ≤ w) : Ok n w (.int i) := by
  have l : i.natAbs.log2 < 30 ∨ i.natAbs = 0 := by
    by_cases z : i.natAbs = 0
    · exact .inr z
    · exact .inl ((Nat.log2_lt z).mpr h)
  have l2 : i.natAbs.log2 < 1920 := by
    rcases l with l | l
    · omega
    · rw [l]
      decide
  refine ⟨decide_eq_true l2, rfl, Nat.zero_le _, rfl, ?_, ?_⟩
  · refine decide_eq_true (Nat.le_trans (PyData.shown_int_le (by omega)) (by decide))
  · show (if i == 0 then 0 else i.natAbs.log2 + 1) ≤ w
    split
    · exact Nat.zero_le _
    · rename_i hi
      rcases l with l | l
      · omega
      · exact absurd (by simpa using Int.natAbs_eq_zero.mp l) hi
theorem okAll.nil {n w : Nat} : okAll n w [] := fun _ h => nomatch h
theorem okAll.cons {n w : Nat} {d : PyData} {ds : List PyData} (h : Ok n w d) (t : okAll n w ds) : okAll n w (d :: ds) := fun x hx => by
  rcases List.mem_cons.mp hx with rfl | hx
  · exact h
  · exact t x hx
theorem okAll.append {n w : Nat} {ds es : List PyData} (h : okAll n w ds) (t : okAll n w es) : okAll n w (ds ++ es) := fun x hx => by
  rcases List.mem_append.mp hx with hx | hx
  · exact h x hx
  · exact t x hx
theorem okAll.sub {n w : Nat} {ds es : List PyData} (h : okAll n w ds) (s : ∀ x ∈ es, x ∈ ds) : okAll n w es := fun x hx => h x (s x hx)
theorem okAll.mono {n w n' w' : Nat} {ds : List PyData} (h : okAll n w ds) (hn : n ≤ n') (hw : w ≤ w') : okAll n' w' ds := fun x hx => (h x hx).mono hn hw
theorem okAll.ints {n w : Nat} {ns : List Int} (h : ∀ i ∈ ns, i.natAbs < 2 ^ 30) (hw : 30 ≤ w) : okAll n w (ns.map PyData.int) := fun x hx => by
  obtain ⟨i, hi, rfl⟩ := List.mem_map.mp hx
  exact .int (h i hi) hw

/-! ## data on the heap -/
mutual
theorem Dp.same {K : PySem.W.Frag} {H H' : Hp} (f : ∀ a xs, SqL K H a xs → SqL K H' a xs) (g : ∀ a xs, SqT K H a xs → SqT K H' a xs) : ∀ (d : PyData) {v : V}, Dp K H v d → Dp K H' v d
  | .none, _, h => by cases h; exact .non
  | .bool _, _, h => by cases h; exact .bl _
  | .int _, _, h => by cases h; exact .int _
  | .str _, _, h => by cases h; exact .str _
  | .list ds, _, h => by
    cases h with
    | lst hs ha => exact .lst (f _ _ hs) (DpAll.same f g ds ha)
  | .tuple ds, _, h => by
    cases h with
    | tup hs ha => exact .tup (g _ _ hs) (DpAll.same f g ds ha)
  | .dict _, _, h => by cases h
theorem DpAll.same {K : PySem.W.Frag} {H H' : Hp} (f : ∀ a xs, SqL K H a xs → SqL K H' a xs) (g : ∀ a xs, SqT K H a xs → SqT K H' a xs) : ∀ (ds : List PyData) {vs : List V}, DpAll K H vs ds → DpAll K H' vs ds
  | [], _, h => by cases h; exact .nil
  | d :: ds, _, h => by
    cases h with
    | cons h1 h2 => exact .cons (Dp.same f g d h1) (DpAll.same f g ds h2)
end
theorem Same.tup {K : PySem.W.Frag} {H H' : Hp} {a : Addr} {xs : List V} (e : Same H H') (h : SqT K H a xs) : SqT K H' a xs := by
  rcases h with (h | ⟨o, h⟩) | h
  · exact .inl (.inl (e _ _ h))
  · exact .inl (.inr ⟨o, e _ _ h⟩)
  · exact .inr h
theorem Dp.sm {K : PySem.W.Frag} {H H' : Hp} {d : PyData} {v : V} (s : Same H H') (h : Dp K H v d) : Dp K H' v d := Dp.same (fun _ _ => s.seq) (fun _ _ => Same.tup s) d h
theorem DpAll.sm {K : PySem.W.Frag} {H H' : Hp} {ds : List PyData} {vs : List V} (s : Same H H') (h : DpAll K H vs ds) : DpAll K H' vs ds := DpAll.same (fun _ _ => s.seq) (fun _ _ => Same.tup s) ds h
section
variable {K : PySem.W.Frag} {H : Hp}
theorem DpAll.length : ∀ {vs : List V} {ds : List PyData}, DpAll K H vs ds → vs.length = ds.length
  | _, [], h => by cases h; rfl
  | _, d :: ds, h => by
    cases h with
    | cons h1 h2 => rw [List.length_cons, List.length_cons, DpAll.length h2]
theorem DpAll.get : ∀ {vs : List V} {ds : List PyData} {i : Nat} {v : V}, DpAll K H vs ds → vs[i]? = some v → ∃ d, ds[i]? = some d ∧ Dp K H v d
  | _, [], i, v, h, e => by cases h; simp at e
  | _, d :: ds, 0, v, h, e => by
    cases h with
    | cons h1 h2 =>
      cases e
      exact ⟨d, rfl, h1⟩
  | _, d :: ds, i + 1, v, h, e => by
    cases h with
    | cons h1 h2 => exact DpAll.get (i := i) h2 (by simpa using e)
theorem DpAll.ints : ∀ (ns : List Int), DpAll K H (ns.map V.int) (ns.map PyData.int)
  | [] => .nil
  | _ :: ns => .cons (.int _) (DpAll.ints ns)
theorem DpAll.bls : ∀ (ns : List Bool), DpAll K H (ns.map V.bl) (ns.map PyData.bool)
  | [] => .nil
  | _ :: ns => .cons (.bl _) (DpAll.bls ns)
theorem DpAll.of_ints : ∀ {vs : List V} {ns : List Int}, DpAll K H vs (ns.map PyData.int) → vs = ns.map V.int
  | _, [], h => by cases h; rfl
  | _, n :: ns, h => by
    cases h with
    | cons h1 h2 =>
      cases h1
      rw [DpAll.of_ints h2]
      rfl
theorem DpAll.append : ∀ {vs ws : List V} {ds es : List PyData}, DpAll K H vs ds → DpAll K H ws es → DpAll K H (vs ++ ws) (ds ++ es)
  | _, _, [], _, h, t => by cases h; exact t
  | _, _, d :: ds, _, h, t => by
    cases h with
    | cons h1 h2 => exact .cons h1 (DpAll.append h2 t)
theorem DpAll.take : ∀ (n : Nat) {vs : List V} {ds : List PyData}, DpAll K H vs ds → DpAll K H (vs.take n) (ds.take n)
  | 0, _, _, _ => .nil
  | n + 1, _, [], h => by cases h; exact .nil
  | n + 1, _, d :: ds, h => by
    cases h with
    | cons h1 h2 => exact .cons h1 (DpAll.take n h2)
theorem DpAll.drop : ∀ (n : Nat) {vs : List V} {ds : List PyData}, DpAll K H vs ds → DpAll K H (vs.drop n) (ds.drop n)
  | 0, _, _, h => h
  | n + 1, _, [], h => by cases h; exact .nil
  | n + 1, _, d :: ds, h => by
    cases h with
    | cons h1 h2 => exact DpAll.drop n h2
end

/-! ## isinstance over data -/
def tyD : PyData → String
  | .none => "NoneType"
  | .bool _ => "bool"
  | .int _ => "int"
  | .str _ => "str"
  | .list _ => "list"
  | .tuple _ => "tuple"
  | .dict _ => "dict"
def isTy (T : String) (d : PyData) : Bool := tyD d == T || (T == "int" && tyD d == "bool")
theorem SqL.ty {K : PySem.W.Frag} {H : Hp} {a : Addr} {xs : List V} (h : SqL K H a xs) : TyX K H (.ref a) (.type "list") := by
  rcases h with (h | ⟨o, h⟩) | ⟨o, its, n, h1, h2, _⟩
  · exact .base (.lst h)
  · exact .base (.frz h)
  · exact .kList h1 h2
theorem SqT.ty {K : PySem.W.Frag} {H : Hp} {a : Addr} {xs : List V} (h : SqT K H a xs) : TyX K H (.ref a) (.type "tuple") := by
  rcases h with (h | ⟨o, h⟩) | ⟨o, its, n, h1, h2, _⟩
  · exact .base (.tup h)
  · exact .fTuple h
  · exact .kTuple h1 h2
theorem Dp.ty {K : PySem.W.Frag} {H : Hp} {v : V} {d : PyData} (h : Dp K H v d) : TyX K H v (.type (tyD d)) := by
  cases h with
  | non => exact .base .non
  | bl b => exact .base (.bl b)
  | int i => exact .base (.int i)
  | str x => exact .base (.str x)
  | lst hs _ => exact SqL.ty hs
  | tup hs _ => exact SqT.ty hs
theorem kit_names : ∀ a ∈ ["NoneType", "bool", "int", "str", "list", "tuple"], ∀ T ∈ ["int", "bool", "list", "tuple", "str"], kitB a T = some (a == T || (T == "int" && a == "bool")) := by decide +kernel
theorem Dp.kit {K : PySem.W.Frag} {H : Hp} {v : V} {d : PyData} (h : Dp K H v d) {T : String} (hT : T ∈ ["int", "bool", "list", "tuple", "str"]) : kitB (tyD d) T = some (isTy T d) := by
  refine kit_names (tyD d) ?_ T hT
  cases h <;> simp [tyD]
section
variable {X : Cx}
theorem call_isiD (T : String) (hT : T ∈ ["int", "bool", "list", "tuple", "str"] := by decide) : CallR X (.builtin "isinstance") (fun xs H Q => ∃ v d, xs = [v, .ty T] ∧ Dp X.K H v d ∧ Q (.bl (isTy T d)) H) := by
  intro pins s σ H xs us Q I r h
  obtain ⟨v, d, rfl, hd, q⟩ := h
  exact call_isi pins s σ H _ us Q I r ⟨v, .ty T, .type (tyD d), .type T, _, rfl, .ty T, Dp.ty hd, kit_ty (Dp.kit hd hT), q⟩
/-- the same within a comprehension, where X.K is K by computation -/
theorem call_isiDK {K : PySem.W.Frag} (T : String) (hK : X.K = K := by rfl) (hT : T ∈ ["int", "bool", "list", "tuple", "str"] := by decide) :
    CallR X (.builtin "isinstance") (fun xs H Q => ∃ v d, xs = [v, .ty T] ∧ Dp K H v d ∧ Q (.bl (isTy T d)) H) := by
  subst hK
  exact call_isiD T hT
end
end Lk
namespace Lk
open PySem PySem.Spec PyProof.Rows L2

/-! ## calls by keywords alone -/
section
variable {X : Cx} {CX : CXT} {k : Nat} {f : Addr} {fd : FuncData} {ps ks : List Str} {sp : Sp} {E : XK} {x : Str} {p pos : Pos} {kws : List Keyword} {tk : TA}
  {g : List Value → List Value → List Value} {gV : List V → List V → List V}
theorem pe_callK0 (F : FnOk X.prog X.w X.K X.mg X.base CX k f fd ps sp) (hr : Room k X.A) (hg : Gl X x) (hm : X.mg x = some (.ref f))
    (hk : PySem.W.keepIn X.K (.ref f) = true) (hb : KBinds X.K fd ps ks g gV) (hx : Passes CX X E) (hkw : PK X kws tk)
    (hall : (backToKw pos (keywordEach kws X.env)).all (·.1.isSome) = true := by rfl) (hks : (backToKw pos (keywordEach kws X.env)).filterMap (·.1) = ks := by rfl)
    (hdb : (x == ("__debug__" : Str)) = false := by decide)
    (hpl : ((backTo pos (starEach [] X.env)).any (·.1) || (backToKw pos (keywordEach kws X.env)).any (·.1.isNone)) = false := by rfl) :
    PE X (.Call (.Name x p) [] kws pos) (tCallK sp gV E tNil tk) := by
  constructor
  intro pins s σ H Q I h
  refine wpAny_Call_Name_kw (ld_glob I hg hm ?_ hdb)
  refine PySem.W.callWith_KW0 (h₀ := X.base) I.ok.mod.kin hk hall ?_ hpl
  refine thn (hkw.run pos pins s σ H _ I h) ?_
  rintro ws s2 ⟨zs, H2, I2, rz, q2⟩
  refine ⟨I2.kIn, ?_⟩
  rw [hks]
  exact run_fnk (us := []) (vs := []) F hr hb hx I2 .nil rz q2
end
def g1 {α : Type} : List α → List α → List α
  | [], [a] => [a]
  | _, _ => []
def g21 {α : Type} : List α → List α → List α
  | [], [a, b] => [b, a]
  | _, _ => []
def g321 {α : Type} : List α → List α → List α
  | [], [a, b, c] => [c, b, a]
  | _, _ => []
section
variable {K : PySem.W.Frag} {x qual : Str} {st : Stmt} {f : Addr} {fd : FuncData} {n m l : Str}
theorem kb1 (F : Fun K x qual st f fd) (h : ∀ (kV doc pm : Value) (an : Option Addr) (cdv ct w : Value),
      bindArgs (PySem.W.fnOf x qual (defArgs st) (defBody st) (defScope st) .none kV doc pm an cdv ct) ⟨[], [(n, w)]⟩ = pure [(n, w)]) : KBinds K fd [n] [n] g1 g1 := by
  obtain ⟨oc, od, kV, doc, pm, an, cdv, ct, osl, rfl, lk, hcd⟩ := F.ex
  constructor
  · intro s us ws _ hl
    match us, ws, hl with
    | [], [w], _ => exact .of_eq (h kV doc pm an cdv ct w)
  · intro vs us zs ws r rz
    cases r with
    | nil =>
      cases rz with
      | nil => exact .nil
      | cons a t =>
        cases t with
        | nil => exact .cons a .nil
        | cons _ _ => exact .nil
    | cons _ _ => exact .nil
theorem kb21 (F : Fun K x qual st f fd) (h : ∀ (kV doc pm : Value) (an : Option Addr) (cdv ct w w' : Value),
      bindArgs (PySem.W.fnOf x qual (defArgs st) (defBody st) (defScope st) .none kV doc pm an cdv ct) ⟨[], [(m, w'), (n, w)]⟩ = pure [(n, w), (m, w')]) : KBinds K fd [n, m] [m, n] g21 g21 := by
  obtain ⟨oc, od, kV, doc, pm, an, cdv, ct, osl, rfl, lk, hcd⟩ := F.ex
  constructor
  · intro s us ws _ hl
    match us, ws, hl with
    | [], [w', w], _ => exact .of_eq (h kV doc pm an cdv ct w w')
  · intro vs us zs ws r rz
    cases r with
    | nil =>
      cases rz with
      | nil => exact .nil
      | cons a t =>
        cases t with
        | nil => exact .nil
        | cons b t =>
          cases t with
          | nil => exact .cons b (.cons a .nil)
          | cons _ _ => exact .nil
    | cons _ _ => exact .nil
theorem kb321 (F : Fun K x qual st f fd) (h : ∀ (kV doc pm : Value) (an : Option Addr) (cdv ct w w' w'' : Value),
      bindArgs (PySem.W.fnOf x qual (defArgs st) (defBody st) (defScope st) .none kV doc pm an cdv ct) ⟨[], [(l, w''), (m, w'), (n, w)]⟩ = pure [(n, w), (m, w'), (l, w'')]) : KBinds K fd [n, m, l] [l, m, n] g321 g321 := by
  obtain ⟨oc, od, kV, doc, pm, an, cdv, ct, osl, rfl, lk, hcd⟩ := F.ex
  constructor
  · intro s us ws _ hl
    match us, ws, hl with
    | [], [w'', w', w], _ => exact .of_eq (h kV doc pm an cdv ct w w' w'')
  · intro vs us zs ws r rz
    cases r with
    | nil =>
      cases rz with
      | nil => exact .nil
      | cons a t =>
        cases t with
        | nil => exact .nil
        | cons b t =>
          cases t with
          | nil => exact .nil
          | cons c t =>
            cases t with
            | nil => exact .cons c (.cons b (.cons a .nil))
            | cons _ _ => exact .nil
    | cons _ _ => exact .nil
end
/-! ## a new object, its heap a letter -/
theorem new_of {H : Hp} {o : HO} {Q : V → Hp → Prop} (h : ∀ p H', Same H H' → H p = none → H' p = some o → Q (.ref p) H') : ∀ p, H p = none → Q (.ref p) (upd H p o) := fun p np => h p _ (fun b x e => by
  rw [upd_ne (ne_of_none e np)]
  exact e) np upd_same
theorem eqv_nil (ds : List PyData) : PyData.eqv (.list ds) (.list []) = ds.isEmpty := by
  cases ds <;> rfl
mutual
theorem eqv_rfl : ∀ d : PyData, d.hasDict = false → PyData.eqv d d = true
  | .none, _ => rfl
  | .bool b, _ => by cases b <;> rfl
  | .int i, _ => by
    show (i == i) = true
    exact beq_self_eq_true i
  | .str x, _ => by
    show (x == x) = true
    exact beq_self_eq_true x
  | .list ds, h => eqvAll_rfl ds h
  | .tuple ds, h => eqvAll_rfl ds h
  | .dict _, h => by cases h
theorem eqvAll_rfl : ∀ ds : List PyData, PyData.hasDictAll ds = false → PyData.eqvAll ds ds = true
  | [], _ => rfl
  | d :: ds, h => by
    have h' : (d.hasDict || PyData.hasDictAll ds) = false := h
    rw [Bool.or_eq_false_iff] at h'
    show (PyData.eqv d d && PyData.eqvAll ds ds) = true
    rw [eqv_rfl d h'.1, eqvAll_rfl ds h'.2]
    rfl
end
/-! ## the rules that lay an object, with the heap behind them a letter -/
def New (o : HO) (H : Hp) (Q : V → Hp → Prop) : Prop := ∀ p H', Same H H' → H p = none → H' p = some o → Q (.ref p) H'
section
variable {X : Cx} {es : List Expr} {t : TA} {pos : Pos}
def tLstN (t : TA) : TE := fun σ H Q => t σ H fun xs H1 => xs.length ≤ sizeLine ∧ New (.lst xs) H1 Q
def tTupN (t : TA) : TE := fun σ H Q => t σ H fun xs H1 => xs.length ≤ sizeLine ∧ New (.tup xs) H1 Q
theorem pe_lstN (h : PA X es t) : PE X (.List es pos) (tLstN t) := by
  constructor
  intro pins s σ H Q I hq
  refine wpAny_List_spliced (thn (h.run pos pins s σ H _ I hq) ?_)
  rintro us s1 ⟨xs, H1, I1, r, z, q⟩
  refine ⟨r.length ▸ z, ?_⟩
  have fresh : H1 s1.heap.objs.size = none := I1.hok.fresh (Nat.le_refl _)
  refine ⟨.ref s1.heap.objs.size, upd H1 s1.heap.objs.size (.lst xs), ?_, rfl, new_of q _ fresh⟩
  exact I1.laid (t' := s1.toks) (fun b u e => Heap.get?_push_of_some _ e) (Nat.le_refl _) ⟨z, us, 0, r, Heap.get?_push_size _ rfl⟩
theorem pe_tupN {x1} (h : PA X es t) : PE X (.Tuple es x1 pos) (tTupN t) := by
  constructor
  intro pins s σ H Q I hq
  refine wpAny_Tuple_spliced (thn (h.run pos pins s σ H _ I hq) ?_)
  rintro us s1 ⟨xs, H1, I1, r, z, q⟩
  refine ⟨r.length ▸ z, ?_⟩
  have fresh : H1 s1.heap.objs.size = none := I1.hok.fresh (Nat.le_refl _)
  refine ⟨.ref s1.heap.objs.size, upd H1 s1.heap.objs.size (.tup xs), ?_, rfl, new_of q _ fresh⟩
  exact I1.laid (t' := s1.toks) (fun b u e => Heap.get?_push_of_some _ e) (Nat.le_refl _) ⟨z, us, r, ⟨_, Heap.get?_push_size _ rfl, rfl, _, rfl⟩⟩
def rCatN : R2 := fun x y H Q => ∃ l b xs zs, x = .ref l ∧ y = .ref b ∧ H l = some (.lst xs) ∧ H b = some (.lst zs) ∧ xs.length + zs.length ≤ sizeLine ∧ New (.lst (xs ++ zs)) H Q
theorem op_catN : OpR X (binaryOp .Add) rCatN := by
  intro pins s σ H x y v u Q I rx ry h
  obtain ⟨l, b, xs, zs, h1, h2, h3, h4, h5, q⟩ := h
  exact op_cat pins s σ H x y v u Q I rx ry ⟨l, b, xs, zs, h1, h2, h3, h4, h5, new_of q⟩
def rRepN : R2 := fun x y H Q => ∃ l k xs, x = .ref l ∧ y = .int k ∧ H l = some (.lst xs) ∧ -(2 ^ 63) ≤ k ∧ k < 2 ^ 63 ∧ xs.length * k.toNat ≤ sizeLine ∧ New (.lst (List.replicate k.toNat xs).flatten) H Q
theorem op_repN : OpR X (binaryOp .Mult) rRepN := by
  intro pins s σ H x y v u Q I rx ry h
  obtain ⟨l, k, xs, h1, h2, h3, h4, h5, h6, q⟩ := h
  exact op_rep pins s σ H x y v u Q I rx ry ⟨l, k, xs, h1, h2, h3, h4, h5, h6, new_of q⟩
theorem call_tupleN : CallR X (.type "tuple") (fun xs H Q => ∃ p ys, xs = [.ref p] ∧ SqL X.K H p ys ∧ New (.tup ys) H Q) := by
  intro pins s σ H xs us Q I r h
  obtain ⟨p, ys, h1, h2, q⟩ := h
  exact call_tuple_of pins s σ H xs us Q I r ⟨p, ys, h1, .inl ⟨h2, new_of q⟩⟩
theorem call_listN : CallR X (.type "list") (fun xs H Q => ∃ p ys, xs = [.ref p] ∧ (SqL X.K H p ys ∨ SqT X.K H p ys) ∧ New (.lst ys) H Q) := by
  intro pins s σ H xs us Q I r h
  obtain ⟨p, ys, h1, h2, q⟩ := h
  exact call_list_of pins s σ H xs us Q I r ⟨p, ys, h1, h2, new_of q⟩
theorem sl_listN : SlR X (fun x lo hi H Q => ∃ a xs, x = .ref a ∧ SqL X.K H a xs ∧ New (.lst (cutV xs lo hi)) H Q) := by
  intro pins s σ H x v vl vu lo hi sl Q I rx hs pl pu h
  obtain ⟨a, xs, h1, h2, q⟩ := h
  exact sl_list pins s σ H x v vl vu lo hi sl Q I rx hs pl pu ⟨a, xs, h1, h2, new_of q⟩
end
end Lk
namespace Fa
open PySem PySem.Spec PyProof.Rows L2
/-! ## masks: the mathematics -/
theorem nodup_len : ∀ (l D : List Nat), l.Nodup → (∀ x ∈ l, x ∈ D) → l.length ≤ D.length := by
  intro l
  induction l with
  | nil => intro D _ _; exact Nat.zero_le _
  | cons a l ih =>
    intro D hn hs
    have ha : a ∈ D := hs a (List.mem_cons_self ..)
    have hn' := List.nodup_cons.mp hn
    have h1 := ih (D.erase a) hn'.2 fun x hx => by
      have : x ≠ a := fun e => hn'.1 (e ▸ hx)
      exact (List.mem_erase_of_ne this).mpr (hs x (List.mem_cons_of_mem _ hx))
    rw [List.length_erase_of_mem ha] at h1
    have : 0 < D.length := List.length_pos_of_mem ha
    rw [List.length_cons]
    omega
def maskOf (n : Nat) (ms : List Nat) : Nat := ms.foldl (fun a m => a ||| 2 ^ (n - 1 - m)) 0
def lset (n b : Nat) : List Nat := (List.range n).filter b.testBit
def rev (n b : Nat) : Nat := maskOf n (lset n b)
theorem fold_bit (n : Nat) (i : Nat) : ∀ (ms : List Nat) (a : Nat), (ms.foldl (fun a m => a ||| 2 ^ (n - 1 - m)) a).testBit i = (a.testBit i || ms.any fun m => decide (n - 1 - m = i))
  | [], a => by simp
  | m :: ms, a => by
    rw [List.foldl_cons, fold_bit n i ms, Nat.testBit_or, List.any_cons, Nat.testBit_two_pow, Bool.or_assoc]
theorem maskOf_bit (n i : Nat) (ms : List Nat) : (maskOf n ms).testBit i = ms.any fun m => decide (n - 1 - m = i) := by
  unfold maskOf
  rw [fold_bit, Nat.zero_testBit, Bool.false_or]
theorem lset_mem {n b m : Nat} : m ∈ lset n b ↔ m < n ∧ b.testBit m = true := by
  unfold lset
  rw [List.mem_filter, List.mem_range]
theorem rev_bit (n b i : Nat) : (rev n b).testBit i = (decide (i < n) && b.testBit (n - 1 - i)) := by
  unfold rev
  rw [maskOf_bit]
  apply Bool.eq_iff_iff.mpr
  rw [List.any_eq_true, Bool.and_eq_true, decide_eq_true_eq]
  constructor
  · rintro ⟨m, hm, e⟩
    obtain ⟨h1, h2⟩ := lset_mem.mp hm
    have e := of_decide_eq_true e
    have : n - 1 - i = m := by omega
    rw [this]
    exact ⟨by omega, h2⟩
  · rintro ⟨h1, h2⟩
    exact ⟨n - 1 - i, lset_mem.mpr ⟨by omega, h2⟩, decide_eq_true (by omega)⟩
theorem lt_of_bits {n b : Nat} (h : ∀ i, n ≤ i → b.testBit i = false) : b < 2 ^ n := Nat.lt_pow_two_of_testBit b h
theorem bit_lt {n b i : Nat} (h : b < 2 ^ n) (hi : n ≤ i) : b.testBit i = false := Nat.testBit_lt_two_pow (Nat.lt_of_lt_of_le h (Nat.pow_le_pow_right (by decide) hi))
theorem bit_dec {n b i : Nat} (h : b < 2 ^ n) : (decide (i < n) && b.testBit i) = b.testBit i := by
  by_cases e : i < n
  · rw [decide_eq_true e, Bool.true_and]
  · rw [bit_lt h (by omega), Bool.and_false]
theorem rev_lt (n b : Nat) : rev n b < 2 ^ n := lt_of_bits fun i hi => by
  rw [rev_bit, decide_eq_false (by omega), Bool.false_and]
theorem rev_rev {n b : Nat} (h : b < 2 ^ n) : rev n (rev n b) = b := by
  apply Nat.eq_of_testBit_eq
  intro i
  rw [rev_bit, rev_bit]
  by_cases e : i < n
  · rw [decide_eq_true e, decide_eq_true (by omega), Bool.true_and, Bool.true_and]
    congr 1
    omega
  · rw [decide_eq_false e, Bool.false_and, bit_lt h (by omega)]
theorem rev_and (n a b : Nat) : rev n a &&& rev n b = rev n (a &&& b) := by
  apply Nat.eq_of_testBit_eq
  intro i
  rw [Nat.testBit_and, rev_bit, rev_bit, rev_bit, Nat.testBit_and]
  cases decide (i < n) <;> simp
theorem rev_or (n a b : Nat) : rev n a ||| rev n b = rev n (a ||| b) := by
  apply Nat.eq_of_testBit_eq
  intro i
  rw [Nat.testBit_or, rev_bit, rev_bit, rev_bit, Nat.testBit_or]
  cases decide (i < n) <;> simp
theorem rev_zero (n : Nat) : rev n 0 = 0 := by
  apply Nat.eq_of_testBit_eq
  intro i
  rw [rev_bit, Nat.zero_testBit, Nat.zero_testBit, Bool.and_false]
theorem rev_inj {n a b : Nat} (ha : a < 2 ^ n) (hb : b < 2 ^ n) (h : rev n a = rev n b) : a = b := by
  rw [← rev_rev ha, ← rev_rev hb, h]
theorem rev_eq_zero {n b : Nat} (h : b < 2 ^ n) : rev n b = 0 ↔ b = 0 := by
  constructor
  · intro e
    exact rev_inj h (Nat.two_pow_pos n) (by rw [e, rev_zero])
  · rintro rfl
    exact rev_zero n
theorem and_lt {n a b : Nat} (h : a < 2 ^ n) : a &&& b < 2 ^ n := Nat.lt_of_le_of_lt Nat.and_le_left h
/-- the other members -/
theorem comp_bit {n m : Nat} (h : m < 2 ^ n) (i : Nat) : (2 ^ n - 1 - m).testBit i = (decide (i < n) && !m.testBit i) := by
  rw [Nat.sub_sub, Nat.add_comm 1 m]
  exact Nat.testBit_two_pow_sub_succ h i
theorem part_comp {n a m : Nat} (ha : a < 2 ^ n) (hm : m < 2 ^ n) : (a &&& (2 ^ n - 1 - m) = a) ↔ m &&& a = 0 := by
  constructor
  · intro e
    apply Nat.eq_of_testBit_eq
    intro i
    rw [Nat.testBit_and, Nat.zero_testBit]
    have := congrArg (fun z => z.testBit i) e
    simp only [Nat.testBit_and, comp_bit hm] at this
    revert this
    cases a.testBit i <;> cases m.testBit i <;> simp
  · intro e
    apply Nat.eq_of_testBit_eq
    intro i
    rw [Nat.testBit_and, comp_bit hm]
    have := congrArg (fun z => z.testBit i) e
    simp only [Nat.testBit_and, Nat.zero_testBit] at this
    have b := bit_dec (i := i) ha
    revert this b
    cases a.testBit i <;> cases m.testBit i <;> cases decide (i < n) <;> simp
/-- whether one of the masks is part of x -/
def hold (ms : List Nat) (x : Nat) : Bool := ms.any fun a => decide (a &&& x = a)
def meetAll (ms : List Nat) (m : Nat) : Bool := ms.all fun a => decide (m &&& a ≠ 0)
theorem hold_comp {n : Nat} {ms : List Nat} {m : Nat} (h : ∀ a ∈ ms, a < 2 ^ n) (hm : m < 2 ^ n) : (!hold ms (2 ^ n - 1 - m)) = meetAll ms m := by
  unfold hold meetAll
  rw [List.not_any_eq_all_not]
  apply Bool.eq_iff_iff.mpr
  rw [List.all_eq_true, List.all_eq_true]
  constructor
  · intro g a ha
    have := g a ha
    rw [Bool.not_eq_true', decide_eq_false_iff_not, part_comp (h a ha) hm] at this
    exact decide_eq_true this
  · intro g a ha
    have := of_decide_eq_true (g a ha)
    rw [Bool.not_eq_true', decide_eq_false_iff_not, part_comp (h a ha) hm]
    exact this
theorem xor_add : ∀ (a b : Nat), (a ^^^ b) + 2 * (a &&& b) = a + b := by
  intro a
  induction a using Nat.strongRecOn with
  | _ a ih =>
    intro b
    by_cases h : a = 0
    · subst h
      rw [Nat.zero_xor, Nat.zero_and, Nat.mul_zero]
      omega
    · have e := ih (a / 2) (by omega) (b / 2)
      have x1 := Nat.xor_div_two (a := a) (b := b)
      have x2 := Nat.and_div_two (a := a) (b := b)
      have y1 := Nat.xor_mod_two_eq_one (a := a) (b := b)
      have y2 := Nat.and_mod_two_eq_one (a := a) (b := b)
      rw [← x1, ← x2] at e
      omega
/-- one bit less -/
theorem sub_bit {x k : Nat} (h : x.testBit k = true) : x ^^^ 2 ^ k < x ∧ ∀ i, (x ^^^ 2 ^ k).testBit i = (x.testBit i && !decide (k = i)) := by
  have hp := Nat.two_pow_pos k
  have hb : ∀ i, (x ^^^ 2 ^ k).testBit i = (x.testBit i && !decide (k = i)) := fun i => by
    rw [Nat.testBit_xor, Nat.testBit_two_pow]
    by_cases e : k = i
    · subst e
      rw [h, decide_eq_true rfl]
      rfl
    · rw [decide_eq_false e]
      cases x.testBit i <;> rfl
  have e : x &&& 2 ^ k = 2 ^ k := by
    apply Nat.eq_of_testBit_eq
    intro i
    rw [Nat.testBit_and, Nat.testBit_two_pow]
    by_cases e : k = i
    · subst e
      rw [h, decide_eq_true rfl]
      rfl
    · rw [decide_eq_false e, Bool.and_false]
  have s := xor_add x (2 ^ k)
  rw [e] at s
  exact ⟨by omega, hb⟩
theorem hold_step {n : Nat} {ms : List Nat} {x : Nat} (hx : x < 2 ^ n) : hold ms x = (decide (x ∈ ms) || (List.range n).any fun k => x.testBit k && hold ms (x ^^^ 2 ^ k)) := by
  apply Bool.eq_iff_iff.mpr
  unfold hold
  rw [Bool.or_eq_true, List.any_eq_true, List.any_eq_true, decide_eq_true_eq]
  constructor
  · rintro ⟨a, ha, e⟩
    have e := of_decide_eq_true e
    by_cases ax : a = x
    · exact .inl (ax ▸ ha)
    · obtain ⟨k, hk⟩ := Nat.exists_testBit_ne_of_ne ax
      have ek := congrArg (fun z => z.testBit k) e
      simp only [Nat.testBit_and] at ek
      have xk : x.testBit k = true := by
        revert hk ek
        cases a.testBit k <;> cases x.testBit k <;> simp
      have ak : a.testBit k = false := by
        revert hk
        rw [xk]
        cases a.testBit k <;> simp
      have kn : k < n := Decidable.byContradiction fun z => by
        rw [bit_lt hx (by omega)] at xk
        cases xk
      refine .inr ⟨k, List.mem_range.mpr kn, ?_⟩
      rw [xk, Bool.true_and, List.any_eq_true]
      refine ⟨a, ha, decide_eq_true ?_⟩
      apply Nat.eq_of_testBit_eq
      intro i
      rw [Nat.testBit_and, (sub_bit xk).2]
      have ei := congrArg (fun z => z.testBit i) e
      simp only [Nat.testBit_and] at ei
      by_cases ki : k = i
      · subst ki
        rw [ak]
        rfl
      · rw [decide_eq_false ki]
        revert ei
        cases a.testBit i <;> cases x.testBit i <;> simp
  · rintro (h | ⟨k, hk, h⟩)
    · exact ⟨x, h, decide_eq_true (Nat.and_self x)⟩
    · rw [Bool.and_eq_true, List.any_eq_true] at h
      obtain ⟨xk, a, ha, e⟩ := h
      refine ⟨a, ha, decide_eq_true ?_⟩
      have e := of_decide_eq_true e
      apply Nat.eq_of_testBit_eq
      intro i
      rw [Nat.testBit_and]
      have ei := congrArg (fun z => z.testBit i) e
      simp only [Nat.testBit_and, (sub_bit xk).2] at ei
      revert ei
      cases a.testBit i <;> cases x.testBit i <;> simp
/-- counting by the sets turned about -/
theorem count_rev {n : Nat} {p q : Nat → Bool} (h : ∀ m, m < 2 ^ n → p (rev n m) = q m) : ((List.range (2 ^ n)).filter p).length = ((List.range (2 ^ n)).filter q).length := by
  have nd : ∀ (l : List Nat), (∀ x ∈ l, x < 2 ^ n) → l.Nodup → (l.map (rev n)).Nodup := by
    intro l
    induction l with
    | nil => intro _ _; exact List.nodup_nil
    | cons a l ih =>
      intro hl hd
      have hd := List.nodup_cons.mp hd
      rw [List.map_cons, List.nodup_cons]
      refine ⟨fun hm => ?_, ih (fun x hx => hl x (List.mem_cons_of_mem _ hx)) hd.2⟩
      obtain ⟨b, hb, e⟩ := List.mem_map.mp hm
      have := rev_inj (hl b (List.mem_cons_of_mem _ hb)) (hl a (List.mem_cons_self ..)) e
      exact hd.1 (this ▸ hb)
  have rn : (List.range (2 ^ n)).Nodup := List.nodup_range
  apply Nat.le_antisymm
  · have a := nd ((List.range (2 ^ n)).filter p) (fun x hx => List.mem_range.mp (List.mem_filter.mp hx).1) (List.Nodup.sublist List.filter_sublist rn)
    have b := nodup_len _ ((List.range (2 ^ n)).filter q) a fun x hx => by
      obtain ⟨m, hm, rfl⟩ := List.mem_map.mp hx
      obtain ⟨h1, h2⟩ := List.mem_filter.mp hm
      have h1 := List.mem_range.mp h1
      refine List.mem_filter.mpr ⟨List.mem_range.mpr (rev_lt _ _), ?_⟩
      rw [← h _ (rev_lt n m), rev_rev h1]
      exact h2
    rw [List.length_map] at b
    exact b
  · have a := nd ((List.range (2 ^ n)).filter q) (fun x hx => List.mem_range.mp (List.mem_filter.mp hx).1) (List.Nodup.sublist List.filter_sublist rn)
    have b := nodup_len _ ((List.range (2 ^ n)).filter p) a fun x hx => by
      obtain ⟨m, hm, rfl⟩ := List.mem_map.mp hx
      obtain ⟨h1, h2⟩ := List.mem_filter.mp hm
      have h1 := List.mem_range.mp h1
      refine List.mem_filter.mpr ⟨List.mem_range.mpr (rev_lt _ _), ?_⟩
      rw [h _ h1]
      exact h2
    rw [List.length_map] at b
    exact b
end Fa
namespace Fa
open PySem PySem.Spec PyProof.Rows L2 Lk
/-! ## rules for numbers from nought -/
theorem band_nn (a b : Nat) : Builtin.bitAnd (a : Int) (b : Int) = ((a &&& b : Nat) : Int) := by
  rw [bitAnd_pp (Int.natCast_nonneg a) (Int.natCast_nonneg b), Int.toNat_natCast, Int.toNat_natCast]
theorem bxor_nn (a b : Nat) : Builtin.bitXor (a : Int) (b : Int) = ((a ^^^ b : Nat) : Int) := by
  rw [bitXor_and, band_nn]
  have := xor_add a b
  omega
theorem cast_pow (k : Nat) : (2 : Int) ^ k = ((2 ^ k : Nat) : Int) := by
  rw [Int.natCast_pow]
  rfl
theorem lt_line {n : Nat} (h : n ≤ 1000000) : n < sizeLine := by
  have : sizeLine = 2 ^ 24 := rfl
  omega
section
variable {X : Cx}
theorem op_andC : OpR X (binaryOp .BitAnd) (fun x y H Q => ∃ n m : Nat, x = .int (n : Int) ∧ y = .int (m : Int) ∧ Q (.int ((n &&& m : Nat) : Int)) H) := by
  intro pins s σ H x y v u Q I rx ry h
  obtain ⟨n, m, rfl, rfl, q⟩ := h
  rw [← band_nn] at q
  exact op_and pins s σ H _ _ v u Q I rx ry ⟨_, _, rfl, rfl, q⟩
theorem op_orC : OpR X (binaryOp .BitOr) (fun x y H Q => ∃ n m : Nat, x = .int (n : Int) ∧ y = .int (m : Int) ∧ Q (.int ((n ||| m : Nat) : Int)) H) := by
  intro pins s σ H x y v u Q I rx ry h
  obtain ⟨n, m, rfl, rfl, q⟩ := h
  have e : Builtin.bitOr (n : Int) (m : Int) = ((n ||| m : Nat) : Int) := by rw [bitOr_nn (Int.natCast_nonneg _) (Int.natCast_nonneg _), Int.toNat_natCast, Int.toNat_natCast]
  rw [← e] at q
  exact op_or pins s σ H _ _ v u Q I rx ry ⟨_, _, rfl, rfl, q⟩
theorem op_xorC : OpR X (binaryOp .BitXor) (fun x y H Q => ∃ n m : Nat, x = .int (n : Int) ∧ y = .int (m : Int) ∧ Q (.int ((n ^^^ m : Nat) : Int)) H) := by
  intro pins s σ H x y v u Q I rx ry h
  obtain ⟨n, m, rfl, rfl, q⟩ := h
  rw [← bxor_nn] at q
  exact op_xor pins s σ H _ _ v u Q I rx ry ⟨_, _, rfl, rfl, q⟩
/-- 1 << k -/
theorem op_oneC : OpR X (binaryOp .LShift) (fun x y H Q => ∃ k : Nat, x = .int 1 ∧ y = .int (k : Int) ∧ k ≤ 1000 ∧ Q (.int ((2 ^ k : Nat) : Int)) H) := by
  intro pins s σ H x y v u Q I rx ry h
  obtain ⟨k, rfl, rfl, hk, q⟩ := h
  rw [← cast_pow] at q
  exact op_oneShl pins s σ H _ _ v u Q I rx ry ⟨k, rfl, rfl, by omega, q⟩
/-- n >> k -/
theorem op_shrC : OpR X (binaryOp .RShift) (fun x y H Q => ∃ n k : Nat, x = .int (n : Int) ∧ y = .int (k : Int) ∧ Q (.int ((n / 2 ^ k : Nat) : Int)) H) := by
  intro pins s σ H x y v u Q I rx ry h
  obtain ⟨n, k, rfl, rfl, q⟩ := h
  refine op_shrN pins s σ H _ _ v u Q I rx ry ⟨_, k, rfl, rfl, ?_⟩
  rw [cast_pow, ← Int.natCast_ediv]
  exact q
end
section
variable {X : Cx} {a : Expr} {ta : TE}
/-- a whole number as a test -/
def tTruI (ta : TE) : TT := fun σ H Q => ta σ H fun x H' => ∃ i : Int, x = .int i ∧ Q (i != 0) H'
theorem pt_int (ha : PE X a ta) (he : ∀ whole, isTrue a X.env whole = (do let v ← whole; standAt a.pos; holding [v] (truthy v))) : PT X a (tTruI ta) := by
  constructor
  intro pins s σ H Q I hq
  refine isTrue_plain (thn (ha.run pins s σ H _ I hq) ?_) (he _)
  rintro v s1 ⟨x, H1, I1, r1, i, rfl, q⟩
  exact tru_ok pins s1 σ H1 _ v Q I1 r1 ⟨_, rfl, q⟩
end
section
variable {X : Cx}
/-- list(..) within a comprehension, where X.K is K by computation -/
theorem call_listNK {K : PySem.W.Frag} (hK : X.K = K := by rfl) : CallR X (.type "list") (fun xs H Q => ∃ p ys, xs = [.ref p] ∧ SqL K H p ys ∧ New (.lst ys) H Q) := by
  subst hK
  intro pins s σ H xs us Q I r h
  obtain ⟨p, ys, h1, h2, q⟩ := h
  exact call_listN pins s σ H xs us Q I r ⟨p, ys, h1, .inl h2, q⟩
end
/-- two ways that meet: what follows is shown once -/
theorem seq_z {a b : TS} {D : Ends} {σ : L2.St} {H : Hp} (st : Int → L2.St) (p : Int → Prop) (h2 : ∀ z, p z → b D (st z) H) (h1 : (∀ z, p z → b D (st z) H) → a { D with nx := b D } σ H) : tSeq a b D σ H := h1 h2
theorem g_name {i : Nat} {v : V} {σ : L2.St} {H : Hp} {k : L2.St → Hp → Prop} (h : k (σ.set i (some v)) H) : gName i v σ H k := h
theorem nx_red {f : L2.St → Hp → Prop} {r : VK} {b c : L2.St → Hp → Prop} {σ : L2.St} {H : Hp} (h : f σ H) : Ends.nx { nx := f, rt := r, bk := b, ct := c } σ H := h
/-! ## a def that may be called -/
def Has (P : Program) (w : World) (K : PySem.W.Frag) (mg : Str → Option Value) (base : Heap) (k : Nat) (x : Str) (ps : List Str) (sp : Sp) : Prop :=
  ∃ (f : Addr) (fd : FuncData), FnOk P w K mg base CX0 k f fd ps sp ∧ Binds K fd ps [] ∧ mg x = some (.ref f) ∧ PySem.W.keepIn K (.ref f) = true
theorem Has.mono {P : Program} {w : World} {K : PySem.W.Frag} {mg : Str → Option Value} {base : Heap} {k j : Nat} {x : Str} {ps : List Str} {sp : Sp} (h : Has P w K mg base k x ps sp) (l : k ≤ j) : Has P w K mg base j x ps sp := by
  obtain ⟨f, fd, F, r⟩ := h
  exact ⟨f, fd, F.mono l, r⟩
section
variable {X : Cx} {k : Nat} {ps : List Str} {sp : Sp} {E : XK} {x : Str} {p pos : Pos} {e : Expr} {es : List Expr} {t : TA}
theorem hc (G : Has X.prog X.w X.K X.mg X.base k x ps sp) (hr : Room k X.A) (hg : Gl X x) (ha : PA X (e :: es) t)
    (hdb : (x == ("__debug__" : Str)) = false := by decide) (he : starEach (e :: es) X.env = (false, eval e X.env) :: starEach es X.env := by rfl)
    (hpl : (backTo pos (starEach es X.env)).any (·.1) = false := by rfl) : PE X (.Call (.Name x p) (e :: es) [] pos) (tCall sp [] E0 t) := by
  obtain ⟨f, fd, F, b, g, kp⟩ := G
  exact pe_call F hr hg g kp b .nil pass0 ha hdb he hpl
end
/-! ## what a comprehension has made so far -/
def PvA (H : Hp) (D : Addr) (acc : Nat → List V) (i : Nat) (H' : Hp) : Prop := Same H H' ∧ H' D = some (.lst (acc i))
namespace PvA
variable {H H' H4 : Hp} {D : Addr} {acc : Nat → List V} {i : Nat} {y : V}
theorem same_u {H : Hp} {p : Addr} {o : HO} (h : H p = none) : Same H (upd H p o) := fun b x e => by
  rw [upd_ne (ne_of_none e h)]
  exact e
theorem start (nD : H D = none) (h0 : acc 0 = []) : PvA H D acc 0 (upd H D (.lst [])) := ⟨same_u nD, by rw [h0]; exact upd_same⟩
theorem keep (nD : H D = none) (p : PvA H D acc i H') (s : Same H' H4) (hz : (acc i).length ≤ 1000000) (e : acc (i + 1) = acc i ++ [y]) :
    ∃ ac, H4 D = some (.lst ac) ∧ ac.length < sizeLine ∧ PvA H D acc (i + 1) (upd H4 D (.lst (ac ++ [y]))) :=
  ⟨acc i, s _ _ p.2, lt_line hz, fun b o h => by
    rw [upd_ne (ne_of_none h nD)]
    exact s _ _ (p.1 b o h), by rw [upd_same, e]⟩
theorem skip (p : PvA H D acc i H') (s : Same H' H4) (e : acc (i + 1) = acc i) : PvA H D acc (i + 1) H4 := ⟨p.1.trans s, by rw [e]; exact s _ _ p.2⟩
end PvA
theorem take_snocF {α : Type} {l : List α} {i : Nat} {x : α} (h : l[i]? = some x) : l.take (i + 1) = l.take i ++ [x] := by
  rw [List.take_add_one, h]
  rfl
section
variable {α β : Type} {f : α → β} {ys : List α} {i : Nat} {y : α} {p : α → Bool}
theorem acc_map (h : ys[i]? = some y) : (ys.take (i + 1)).map f = (ys.take i).map f ++ [f y] := by
  rw [take_snocF h, List.map_append]
  rfl
theorem acc_ft (h : ys[i]? = some y) (hp : p y = true) : ((ys.take (i + 1)).filter p).map f = ((ys.take i).filter p).map f ++ [f y] := by
  rw [take_snocF h, List.filter_append, List.map_append, List.filter_cons, if_pos hp]
  rfl
theorem acc_ff (h : ys[i]? = some y) (hp : p y = false) : ((ys.take (i + 1)).filter p).map f = ((ys.take i).filter p).map f := by
  rw [take_snocF h, List.filter_append, List.map_append, List.filter_cons, if_neg (by rw [hp]; exact Bool.false_ne_true)]
  simp
theorem acc_lm {n : Nat} (h : ys.length ≤ n) : ((ys.take i).map f).length ≤ n := by
  rw [List.length_map, List.length_take]
  omega
theorem acc_lf {n : Nat} (h : ys.length ≤ n) : (((ys.take i).filter p).map f).length ≤ n := by
  rw [List.length_map]
  exact Nat.le_trans (List.length_filter_le _ _) (by rw [List.length_take]; omega)
theorem range_at {n i : Nat} (h : i < n) : (List.range n)[i]? = some i := by
  rw [List.getElem?_range h]
end
def natV (m : Nat) : V := .int (m : Int)
def natD (m : Nat) : PyData := .int (m : Int)
abbrev setD (ms : List Nat) : PyData := .list (ms.map natD)
abbrev famD (mss : List (List Nat)) : PyData := .list (mss.map setD)
section
variable {K : PySem.W.Frag} {H : Hp}
theorem DpAll.nats : ∀ (ns : List Nat), DpAll K H (ns.map natV) (ns.map natD)
  | [] => .nil
  | _ :: ns => .cons (.int _) (DpAll.nats ns)
theorem DpAll.of_nats : ∀ {vs : List V} {ns : List Nat}, DpAll K H vs (ns.map natD) → vs = ns.map natV
  | _, [], h => by cases h; rfl
  | _, n :: ns, h => by
    cases h with
    | cons h1 h2 =>
      cases h1
      rw [DpAll.of_nats h2]
      rfl
theorem Dp.set_of {v : V} {ms : List Nat} (h : Dp K H v (setD ms)) : ∃ b, v = .ref b ∧ SqL K H b (ms.map natV) := by
  cases h with
  | lst hs ha => exact ⟨_, rfl, by rw [← DpAll.of_nats ha]; exact hs⟩
theorem Dp.of_set {b : Addr} {ms : List Nat} (h : SqL K H b (ms.map natV)) : Dp K H (.ref b) (setD ms) := .lst h (DpAll.nats ms)
end
theorem ok_nat {n w m : Nat} (h : m < 2 ^ 30) (hw : 30 ≤ w) : Ok n w (natD m) := .int (by omega) hw
theorem ok_set {ms : List Nat} {L : Nat} (h : ∀ m ∈ ms, m < 2 ^ 30) (hl : ms.length ≤ L) : Ok 1 (L * 31) (setD ms) := Ok.list (n := 0) (w := 30) (fun d hd => by
  obtain ⟨m, hm, rfl⟩ := List.mem_map.mp hd
  exact ok_nat (h m hm) (Nat.le_refl _)) (by rw [List.length_map]; exact hl)
theorem ok_fam {mss : List (List Nat)} {L M : Nat} (h : ∀ ms ∈ mss, ms.length ≤ L ∧ ∀ m ∈ ms, m < 2 ^ 30) (hl : mss.length ≤ M) : Ok 2 (M * (L * 31 + 1)) (famD mss) := Ok.list (n := 1) (w := L * 31) (fun d hd => by
  obtain ⟨ms, hm, rfl⟩ := List.mem_map.mp hd
  exact ok_set (h ms hm).2 (h ms hm).1) (by rw [List.length_map]; exact hl)
end Fa
namespace Fa
open PySem PySem.Spec PyProof.Rows L2 Lk
/-! ### l.extend(t), t a tuple -/
open PySem.AutoSeq1 in
theorem list_extend_tupA (l : Addr) (items : Array Value) (n : Nat) (b : Addr) (items2 : Array Value) (n2 : Nat) (od : Option Addr) (sl : Array (Option Value)) (hs0 : ¬(!items.isEmpty && Builtin.List.listTooLong (items.size + items2.size)) = true) (hs1 : items.size ≤ sizeLine) (hs2 : items.size + items2.size ≤ sizeLine + 1 := by seq_fits) :
    Meets (Builtin.«list.extend» ⟨[.ref l, .ref b], []⟩) (fun _ R s => s.heap.get? l = some { cls := .type "list", dict := none, data := .seq items n, slots := #[] } ∧ s.heap.get? b = some { cls := .type "tuple", dict := od, data := .seq items2 n2, slots := sl } ∧ R (.ok (.ret Value.none)) { s with heap := s.heap.update l (Obj.mapSeq fun x => x ++ items2), toks := s.toks }) :=
  .of_wp fun prog w A R s h => by
    obtain ⟨hp, g, d, tk, os⟩ := s; obtain ⟨hl, hb, h⟩ := h; have f1 := idx_int; have f2 := AutoSeq1.sub_tuple_tuple; have f3 := AutoSeq1.sub_list_list; have f4 := AutoSeq1.sub_tuple_list; have f5 := AutoSeq1.sub_list_tuple;
    have hz' : (items ++ items2).size ≤ sizeLine + 1 := by rw [Array.size_append]; exact hs2
    wp_walk using (wpAny_updateSeq hl rfl (hz := hs1) (_hz' := hz')), wpAny_loadPart' hl, wpAny_loadPart' hb; exact ⟨_, rfl, h⟩
def rExtendT (K : PySem.W.Frag) : V → List V → Hp → VK → Prop := fun x vs H Q => ∃ l b xs zs, x = .ref l ∧ vs = [.ref b] ∧ H l = some (.lst xs) ∧ SqT K H b zs ∧ xs.length + zs.length ≤ sizeLine ∧ Q .non (upd H l (.lst (xs ++ zs)))
theorem mt_extendT {X : Cx} : MtM X "list.extend" (rExtendT X.K) := by
  intro pins s σ H x vs v us Q I rx rv h
  obtain ⟨l, b, xs, zs, rfl, rfl, hH, hB, hz, q⟩ := h
  cases rx
  obtain ⟨u, rfl, ru⟩ := rv.one
  cases ru
  obtain ⟨z, its, n, r, hl, e⟩ := I.lstM hH
  obtain ⟨its2, r2, ⟨⟨oc, od, odata, osl⟩, e2, hc, n2, hdata⟩, z2⟩ := I.tuple hB
  have hl2 : zs.length = its2.length := r2.length
  cases hc
  cases hdata
  have hsz : its.toArray.size + its2.toArray.size ≤ sizeLine := by rw [List.size_toArray, List.size_toArray]; omega
  have hlong : ¬ (!its.toArray.isEmpty && Builtin.List.listTooLong (its.toArray.size + its2.toArray.size)) = true := by
    rw [notLongL hsz, Bool.and_false]
    exact Bool.false_ne_true
  refine call_meets F.slot_list_extend ⟨_, e, rfl⟩ F.entry_list_extend (F.args_list_extend_2 _ _)
    (list_extend_tupA l its.toArray n b its2.toArray n2 od osl hlong (by rw [List.size_toArray]; omega) (by omega)) ⟨e, e2, ?_⟩
  refine ⟨.non, _, I.lset (its' := its ++ its2) hH e (by simp) (r.append r2) ?_, rfl, q⟩
  rw [List.length_append]
  omega
theorem at_z {xs : List V} {i : Nat} {v : V} (h : xs[i]? = some v) : atI xs (0 + (i : Int)) = some v := by
  rw [Int.zero_add]
  exact atI_nat h
theorem dec_str (a b : Str) : decide (V.str a = V.str b) = decide (a = b) := by
  by_cases h : a = b
  · rw [decide_eq_true h, decide_eq_true (congrArg V.str h)]
  · rw [decide_eq_false h, decide_eq_false fun e => h (V.str.inj e)]
theorem call_tupleNK {X : Cx} {K : PySem.W.Frag} (hK : X.K = K := by rfl) : CallR X (.type "tuple") (fun xs H Q => ∃ p ys, xs = [.ref p] ∧ SqL K H p ys ∧ New (.tup ys) H Q) := by
  subst hK
  exact call_tupleN
theorem call_len_seqK {X : Cx} {K : PySem.W.Frag} (hK : X.K = K := by rfl) : CallR X (.builtin "len") (fun xs H Q => ∃ p ys, xs = [.ref p] ∧ (SqL K H p ys ∨ SqT K H p ys) ∧ Q (.int ys.length) H) := by
  subst hK
  exact call_len_seq
/-- sorted of whole numbers, the new heap a letter -/
theorem cr_sortedN {X : Cx} : CallR X (.builtin "sorted") (fun vs H Q => ∃ (a : Addr) (ns : List Int), vs = [V.ref a] ∧ SqL X.K H a (ns.map V.int) ∧ ∀ ns' : List Int, ns'.Perm ns → ns'.Pairwise (· ≤ ·) → New (.lst (ns'.map V.int)) H Q) := by
  intro pins s σ H xs us Q I r h
  obtain ⟨a, ns, h1, h2, q⟩ := h
  exact cr_sortedI pins s σ H xs us Q I r ⟨a, ns, h1, h2, fun ns' p hp hw nx => new_of (q ns' hp hw) p nx⟩
theorem cut_ints (ns : List Int) (lo hi : Option Int) : ∃ ms : List Int, cutV (ns.map V.int) lo hi = ms.map V.int ∧ ms.length ≤ ns.length := by
  unfold cutV
  rw [← List.map_drop, ← List.map_take]
  exact ⟨_, rfl, by rw [List.length_take, List.length_drop]; omega⟩
theorem cr_minK {X : Cx} {K : PySem.W.Frag} (hK : X.K = K := by rfl) (hc : X.calm = true := by rfl) : CallR X (.builtin "min") (rMin K) := by
  subst hK
  exact cr_min hc
theorem cr_maxK {X : Cx} {K : PySem.W.Frag} (hK : X.K = K := by rfl) (hc : X.calm = true := by rfl) : CallR X (.builtin "max") (rMax K) := by
  subst hK
  exact cr_max hc
theorem cr_sumK {X : Cx} {K : PySem.W.Frag} (hK : X.K = K := by rfl) (hc : X.calm = true := by rfl) : CallR X (.builtin "sum") (rSum K) := by
  subst hK
  exact cr_sum hc
theorem cr_allK {X : Cx} {K : PySem.W.Frag} (hK : X.K = K := by rfl) (hc : X.calm = true := by rfl) : CallR X (.builtin "all") (rAll K) := by
  subst hK
  exact cr_all hc
theorem cr_anyK {X : Cx} {K : PySem.W.Frag} (hK : X.K = K := by rfl) (hc : X.calm = true := by rfl) : CallR X (.builtin "any") (rAny K) := by
  subst hK
  exact cr_any hc
/-! ## least and greatest -/
def minR : List Int → Int
  | [] => 0
  | [a] => a
  | a :: b :: l => min a (minR (b :: l))
def maxR : List Int → Int
  | [] => 0
  | [a] => a
  | a :: b :: l => max a (maxR (b :: l))
theorem minR_spec : ∀ {l : List Int}, l ≠ [] → minR l ∈ l ∧ ∀ x ∈ l, minR l ≤ x
  | [], h => absurd rfl h
  | [a], _ => ⟨List.mem_singleton.mpr rfl, fun x hx => by rw [List.mem_singleton.mp hx]; exact Int.le_refl _⟩
  | a :: b :: l, _ => by
    have ih := minR_spec (l := b :: l) (by simp)
    show min a (minR (b :: l)) ∈ _ ∧ ∀ x ∈ _, min a (minR (b :: l)) ≤ x
    refine ⟨?_, fun x hx => ?_⟩
    · by_cases h : a ≤ minR (b :: l)
      · rw [Int.min_eq_left h]
        exact List.mem_cons_self ..
      · rw [Int.min_eq_right (by omega)]
        exact List.mem_cons_of_mem _ ih.1
    · rcases List.mem_cons.mp hx with rfl | hx
      · exact Int.min_le_left _ _
      · exact Int.le_trans (Int.min_le_right _ _) (ih.2 x hx)
theorem maxR_spec : ∀ {l : List Int}, l ≠ [] → maxR l ∈ l ∧ ∀ x ∈ l, x ≤ maxR l
  | [], h => absurd rfl h
  | [a], _ => ⟨List.mem_singleton.mpr rfl, fun x hx => by rw [List.mem_singleton.mp hx]; exact Int.le_refl _⟩
  | a :: b :: l, _ => by
    have ih := maxR_spec (l := b :: l) (by simp)
    show max a (maxR (b :: l)) ∈ _ ∧ ∀ x ∈ _, x ≤ max a (maxR (b :: l))
    refine ⟨?_, fun x hx => ?_⟩
    · by_cases h : maxR (b :: l) ≤ a
      · rw [Int.max_eq_left h]
        exact List.mem_cons_self ..
      · rw [Int.max_eq_right (by omega)]
        exact List.mem_cons_of_mem _ ih.1
    · rcases List.mem_cons.mp hx with rfl | hx
      · exact Int.le_max_left _ _
      · exact Int.le_trans (ih.2 x hx) (Int.le_max_right _ _)
theorem minR_uniq {l : List Int} {m : Int} (h1 : m ∈ l) (h2 : ∀ x ∈ l, m ≤ x) : minR l = m := by
  have s := minR_spec (l := l) (fun e => by rw [e] at h1; cases h1)
  have a := s.2 m h1
  have b := h2 _ s.1
  omega
theorem maxR_uniq {l : List Int} {m : Int} (h1 : m ∈ l) (h2 : ∀ x ∈ l, x ≤ m) : maxR l = m := by
  have s := maxR_spec (l := l) (fun e => by rw [e] at h1; cases h1)
  have a := s.2 m h1
  have b := h2 _ s.1
  omega
theorem sorted_head {l ns : List Int} (hp : ns.Perm l) (hs : ns.Pairwise (· ≤ ·)) (hl : l ≠ []) : ns[0]? = some (minR l) := by
  cases ns with
  | nil => exact absurd hp.symm.eq_nil hl
  | cons a ns =>
    have h := List.pairwise_cons.mp hs
    rw [minR_uniq (l := l) (m := a) (hp.mem_iff.mp (List.mem_cons_self ..)) fun x hx => by
      rcases List.mem_cons.mp (hp.mem_iff.mpr hx) with rfl | hx
      · exact Int.le_refl _
      · exact h.1 x hx]
    rfl
theorem sorted_last {l ns : List Int} (hp : ns.Perm l) (hs : ns.Pairwise (· ≤ ·)) (hl : l ≠ []) : ∃ ms, ns = ms ++ [maxR l] := by
  rcases List.eq_nil_or_concat ns with rfl | ⟨ms, a, rfl⟩
  · exact absurd hp.symm.eq_nil hl
  · rw [List.concat_eq_append] at *
    refine ⟨ms, ?_⟩
    have h := List.pairwise_append.mp hs
    rw [maxR_uniq (l := l) (m := a) (hp.mem_iff.mp (by simp)) fun x hx => by
      rcases List.mem_append.mp (hp.mem_iff.mpr hx) with hx | hx
      · exact h.2.2 x hx a (List.mem_singleton.mpr rfl)
      · rw [List.mem_singleton.mp hx]
        exact Int.le_refl _]
/-! ## cards: the mathematics -/
def wat (W : List (List Int)) (cs : List Nat) (i : Nat) : Int := (W.getD i []).getD (cs.getD i 0) 0
def wsum (W : List (List Int)) (cs : List Nat) : Int := ((List.range cs.length).map (wat W cs)).sum
def RowN (ns cs : List Nat) : Prop := cs.length = ns.length ∧ ∀ (i n c : Nat), ns[i]? = some n → cs[i]? = some c → c < n
def CardN (ns : List Nat) (W : List (List Int)) : Prop := W.length = ns.length ∧ (∀ (i n : Nat) (r : List Int), ns[i]? = some n → W[i]? = some r → r.length = n) ∧ ∀ r ∈ W, ∀ x ∈ r, x.natAbs < 2 ^ 20
abbrev rowT (r : List Int) : PyData := .tuple (r.map PyData.int)
abbrev wD (W : List (List Int)) : PyData := .tuple (W.map rowT)
abbrev cardD (W : List (List Int)) (bd : Int) : PyData := .tuple [.str "card", wD W, .int bd]
theorem getD_some {α : Type} {l : List α} {i : Nat} {x d : α} (h : l[i]? = some x) : l.getD i d = x := by
  rw [List.getD_eq_getElem?_getD, h]
  rfl
section
variable {K : PySem.W.Frag} {H : Hp}
theorem Dp.row_of {v : V} {r : List Int} (h : Dp K H v (rowT r)) : ∃ t, v = .ref t ∧ SqT K H t (r.map V.int) := by
  cases h with
  | tup hs ha => exact ⟨_, rfl, by rw [← DpAll.of_ints ha]; exact hs⟩
theorem Dp.of_row {t : Addr} {r : List Int} (h : SqT K H t (r.map V.int)) : Dp K H (.ref t) (rowT r) := .tup h (DpAll.ints r)
theorem Dp.w_of {v : V} {W : List (List Int)} (h : Dp K H v (wD W)) : ∃ q xs, v = .ref q ∧ SqT K H q xs ∧ xs.length = W.length ∧ ∀ (i : Nat) (x : V), xs[i]? = some x → ∃ r t, W[i]? = some r ∧ x = .ref t ∧ SqT K H t (r.map V.int) := by
  cases h with
  | tup hs ha =>
    refine ⟨_, _, rfl, hs, by rw [DpAll.length ha, List.length_map], fun i x hx => ?_⟩
    obtain ⟨d, hd, hxd⟩ := DpAll.get ha hx
    rw [List.getElem?_map] at hd
    obtain ⟨r, hr, rfl⟩ := Option.map_eq_some_iff.mp hd
    obtain ⟨t, rfl, ht⟩ := Dp.row_of hxd
    exact ⟨r, t, hr, rfl, ht⟩
theorem Dp.card_of {v : V} {W : List (List Int)} {bd : Int} (h : Dp K H v (cardD W bd)) : ∃ p q, v = .ref p ∧ SqT K H p [.str "card", .ref q, .int bd] ∧ Dp K H (.ref q) (wD W) := by
  cases h with
  | tup hs ha =>
    cases ha with
    | cons h1 h2 =>
      cases h1
      cases h2 with
      | cons h3 h4 =>
        cases h4 with
        | cons h5 h6 =>
          cases h5
          cases h6
          have h3' := h3
          cases h3 with
          | tup hq hb => exact ⟨_, _, rfl, hs, h3'⟩
end
/-! ## calls by keywords alone -/
def g213 {α : Type} : List α → List α → List α
  | [], [a, b, c] => [b, a, c]
  | _, _ => []
def g132 {α : Type} : List α → List α → List α
  | [], [a, b, c] => [a, c, b]
  | _, _ => []
section
variable {K : PySem.W.Frag} {x qual : Str} {st : Stmt} {f : Addr} {fd : FuncData} {n m l : Str}
theorem kb213 (F : Fun K x qual st f fd) (h : ∀ (kV doc pm : Value) (an : Option Addr) (cdv ct w w' w'' : Value),
      bindArgs (PySem.W.fnOf x qual (defArgs st) (defBody st) (defScope st) .none kV doc pm an cdv ct) ⟨[], [(m, w'), (n, w), (l, w'')]⟩ = pure [(n, w), (m, w'), (l, w'')]) : KBinds K fd [n, m, l] [m, n, l] g213 g213 := by
  obtain ⟨oc, od, kV, doc, pm, an, cdv, ct, osl, rfl, lk, hcd⟩ := F.ex
  constructor
  · intro s us ws _ hl
    match us, ws, hl with
    | [], [w', w, w''], _ => exact .of_eq (h kV doc pm an cdv ct w w' w'')
  · intro vs us zs ws r rz
    cases r with
    | cons _ _ => exact .nil
    | nil =>
      match rz with
      | .nil => exact .nil
      | .cons a .nil => exact .nil
      | .cons a (.cons b .nil) => exact .nil
      | .cons a (.cons b (.cons c .nil)) => exact .cons b (.cons a (.cons c .nil))
      | .cons a (.cons b (.cons c (.cons _ _))) => exact .nil
theorem kb132 (F : Fun K x qual st f fd) (h : ∀ (kV doc pm : Value) (an : Option Addr) (cdv ct w w' w'' : Value),
      bindArgs (PySem.W.fnOf x qual (defArgs st) (defBody st) (defScope st) .none kV doc pm an cdv ct) ⟨[], [(n, w), (l, w''), (m, w')]⟩ = pure [(n, w), (m, w'), (l, w'')]) : KBinds K fd [n, m, l] [n, l, m] g132 g132 := by
  obtain ⟨oc, od, kV, doc, pm, an, cdv, ct, osl, rfl, lk, hcd⟩ := F.ex
  constructor
  · intro s us ws _ hl
    match us, ws, hl with
    | [], [w, w'', w'], _ => exact .of_eq (h kV doc pm an cdv ct w w' w'')
  · intro vs us zs ws r rz
    cases r with
    | cons _ _ => exact .nil
    | nil =>
      match rz with
      | .nil => exact .nil
      | .cons a .nil => exact .nil
      | .cons a (.cons b .nil) => exact .nil
      | .cons a (.cons b (.cons c .nil)) => exact .cons a (.cons c (.cons b .nil))
      | .cons a (.cons b (.cons c (.cons _ _))) => exact .nil
end
def HasK (P : Program) (w : World) (K : PySem.W.Frag) (mg : Str → Option Value) (base : Heap) (k : Nat) (x : Str) (ps ks : List Str) (gA : List Value → List Value → List Value) (gB : List V → List V → List V) (sp : Sp) : Prop :=
  ∃ (f : Addr) (fd : FuncData), FnOk P w K mg base CX0 k f fd ps sp ∧ KBinds K fd ps ks gA gB ∧ mg x = some (.ref f) ∧ PySem.W.keepIn K (.ref f) = true
theorem HasK.mono {P : Program} {w : World} {K : PySem.W.Frag} {mg : Str → Option Value} {base : Heap} {k j : Nat} {x : Str} {ps ks : List Str} {gA : List Value → List Value → List Value} {gB : List V → List V → List V} {sp : Sp} (h : HasK P w K mg base k x ps ks gA gB sp) (l : k ≤ j) : HasK P w K mg base j x ps ks gA gB sp := by
  obtain ⟨f, fd, F, r⟩ := h
  exact ⟨f, fd, F.mono l, r⟩
section
variable {X : Cx} {k : Nat} {ps ks : List Str} {sp : Sp} {E : XK} {x : Str} {p pos : Pos} {kws : List Keyword} {tk : TA} {gA : List Value → List Value → List Value} {gB : List V → List V → List V}
theorem hck (G : HasK X.prog X.w X.K X.mg X.base k x ps ks gA gB sp) (hr : Room k X.A) (hg : Gl X x) (hkw : PK X kws tk)
    (hall : (backToKw pos (keywordEach kws X.env)).all (·.1.isSome) = true := by rfl) (hks : (backToKw pos (keywordEach kws X.env)).filterMap (·.1) = ks := by rfl)
    (hdb : (x == ("__debug__" : Str)) = false := by decide)
    (hpl : ((backTo pos (starEach [] X.env)).any (·.1) || (backToKw pos (keywordEach kws X.env)).any (·.1.isNone)) = false := by rfl) :
    PE X (.Call (.Name x p) [] kws pos) (tCallK sp gB E0 tNil tk) := by
  obtain ⟨f, fd, F, b, g, kp⟩ := G
  exact pe_callK0 F hr hg g kp b pass0 hkw hall hks hdb hpl
end
theorem st_z {t : TS} {D : Ends} {H : Hp} (st : Int → L2.St) (p : Int → Prop) (z : Int) (hz : p z) (h : ∀ z, p z → t D (st z) H) : t D (st z) H := h z hz
/-- the names written out anew -/
theorem st_eq {t : TS} {D : Ends} {σ σ' : L2.St} {H : Hp} (e : σ = σ') (h : t D σ' H) : t D σ H := by
  rw [e]
  exact h
/-- two ways that meet, each with a heap of its own -/
theorem seq_h {a b : TS} {D : Ends} {σ : L2.St} {H : Hp} (st : Int → L2.St) (p : Int → Hp → Prop) (h2 : ∀ z H', p z H' → b D (st z) H') (h1 : (∀ z H', p z H' → b D (st z) H') → a { D with nx := b D } σ H) : tSeq a b D σ H := h1 h2
/-! ## all but the list at b stays -/
def But (b : Addr) (H H' : Hp) : Prop := (∀ c o, c ≠ b → H c = some o → H' c = some o) ∧ ∀ c, H' c = none → H c = none
namespace But
variable {b : Addr} {H H1 H2 : Hp}
theorem of (s : Same H H1) : But b H H1 := ⟨fun c o _ e => s c o e, fun c e => s.free e⟩
theorem rfl' : But b H H := ⟨fun _ _ _ e => e, fun _ e => e⟩
theorem trans (x : But b H H1) (y : But b H1 H2) : But b H H2 := ⟨fun c o n e => y.1 c o n (x.1 c o n e), fun c e => x.2 c (y.2 c e)⟩
theorem set {o : HO} : But b H (upd H b o) := by
  refine ⟨fun c o' n e => by rw [upd_ne n]; exact e, fun c e => ?_⟩
  by_cases z : c = b
  · rw [z, upd_same] at e
    cases e
  · rw [upd_ne z] at e
    exact e
/-- a new object is written -/
theorem new {D : Addr} {o : HO} (x : But b H H1) (nD : H D = none) (nb : D ≠ b) : But b H (upd H1 D o) := by
  refine ⟨fun c o' n e => ?_, fun c e => ?_⟩
  · rw [upd_ne (ne_of_none e nD)]
    exact x.1 c o' n e
  · by_cases z : c = D
    · rw [z]
      exact nD
    · rw [upd_ne z] at e
      exact x.2 c e
end But
mutual
def noL : PyData → Bool
  | .list _ => false
  | .dict _ => false
  | .tuple ds => noLs ds
  | _ => true
def noLs : List PyData → Bool
  | [] => true
  | d :: ds => noL d && noLs ds
end
mutual
theorem Dp.sameT {K : PySem.W.Frag} {H H' : Hp} (g : ∀ a xs, SqT K H a xs → SqT K H' a xs) : ∀ (d : PyData) {v : V}, noL d = true → Dp K H v d → Dp K H' v d
  | .none, _, _, h => by cases h; exact .non
  | .bool _, _, _, h => by cases h; exact .bl _
  | .int _, _, _, h => by cases h; exact .int _
  | .str _, _, _, h => by cases h; exact .str _
  | .list _, _, n, _ => by cases n
  | .tuple ds, _, n, h => by
    cases h with
    | tup hs ha => exact .tup (g _ _ hs) (DpAll.sameT g ds n ha)
  | .dict _, _, n, _ => by cases n
theorem DpAll.sameT {K : PySem.W.Frag} {H H' : Hp} (g : ∀ a xs, SqT K H a xs → SqT K H' a xs) : ∀ (ds : List PyData) {vs : List V}, noLs ds = true → DpAll K H vs ds → DpAll K H' vs ds
  | [], _, _, h => by cases h; exact .nil
  | d :: ds, _, n, h => by
    have n' : (noL d && noLs ds) = true := n
    rw [Bool.and_eq_true] at n'
    cases h with
    | cons h1 h2 => exact .cons (Dp.sameT g d n'.1 h1) (DpAll.sameT g ds n'.2 h2)
end
theorem noLs_ints : ∀ ns : List Int, noLs (ns.map PyData.int) = true
  | [] => rfl
  | _ :: ns => noLs_ints ns
theorem noLs_rows : ∀ W : List (List Int), noLs (W.map rowT) = true
  | [] => rfl
  | r :: W => by
    show (noLs (r.map PyData.int) && noLs (W.map rowT)) = true
    rw [noLs_ints, noLs_rows]
    rfl
theorem SqT.but {K : PySem.W.Frag} {H H' : Hp} {b : Addr} {zs : List V} (hb : H b = some (.lst zs)) (k : But b H H') {a : Addr} {xs : List V} (h : SqT K H a xs) : SqT K H' a xs := by
  have ne : ∀ o, (∀ ys, o ≠ HO.lst ys) → H a = some o → H' a = some o := fun o no e => k.1 a o (fun z => by
    rw [z, hb] at e
    exact no zs (Option.some.inj e).symm) e
  rcases h with (h | ⟨o, h⟩) | h
  · exact .inl (.inl (ne _ (fun _ z => HO.noConfusion z) h))
  · exact .inl (.inr ⟨o, ne _ (fun _ z => HO.noConfusion z) h⟩)
  · exact .inr h
theorem Dp.but {K : PySem.W.Frag} {H H' : Hp} {b : Addr} {zs : List V} (hb : H b = some (.lst zs)) (k : But b H H') {d : PyData} {v : V} (n : noL d = true) (h : Dp K H v d) : Dp K H' v d := Dp.sameT (fun _ _ => SqT.but hb k) d n h
theorem DpAll.but {K : PySem.W.Frag} {H H' : Hp} {b : Addr} {zs : List V} (hb : H b = some (.lst zs)) (k : But b H H') {ds : List PyData} {vs : List V} (n : noLs ds = true) (h : DpAll K H vs ds) : DpAll K H' vs ds := DpAll.sameT (fun _ _ => SqT.but hb k) ds n h
theorem nat_at {cs : List Nat} {i : Nat} (h : i < cs.length) : (cs.map natV)[i]? = some (natV cs[i]) := by
  rw [List.getElem?_map, List.getElem?_eq_getElem h]
  rfl
def slackC (W : List (List Int)) (bd : Int) (cs : List Nat) : Int := if wsum W cs ≥ bd then wsum W cs - bd else bd - 1 - wsum W cs
def dropC (W : List (List Int)) (bd : Int) (cs : List Nat) (i : Nat) : Int := if wsum W cs ≥ bd then wat W cs i - minR (W.getD i []) else maxR (W.getD i []) - wat W cs i
def dropsC (W : List (List Int)) (bd : Int) (cs : List Nat) : List Int := (List.range cs.length).map (dropC W bd cs)
section
variable {K : PySem.W.Frag}
/-- a place in the weights -/
theorem w_place {H : Hp} {qa : Addr} {W : List (List Int)} {ns cs : List Nat} (hq : Dp K H (.ref qa) (wD W)) (hC : CardN ns W) (hR : RowN ns cs) {i : Nat} (lt : i < cs.length) :
    ∃ (xs : List V) (t : Addr) (r : List Int), SqT K H qa xs ∧ xs[i]? = some (.ref t) ∧ SqT K H t (r.map V.int) ∧ W[i]? = some r ∧ (r.map V.int)[cs[i]]? = some (.int (wat W cs i)) ∧ r ≠ [] ∧ r ∈ W := by
  obtain ⟨qa', xs, e, hs, lx, hx⟩ := Dp.w_of hq
  cases e
  have ln : xs.length = ns.length := by rw [lx, hC.1]
  have lt1 : i < ns.length := by rw [← hR.1]; exact lt
  have lt2 : i < xs.length := by omega
  obtain ⟨r, t, hr', ex, ht⟩ := hx i _ (List.getElem?_eq_getElem lt2)
  have el := hC.2.1 i _ _ (List.getElem?_eq_getElem lt1) hr'
  have bc := hR.2 i _ _ (List.getElem?_eq_getElem lt1) (List.getElem?_eq_getElem lt)
  have lr : cs[i] < r.length := by omega
  refine ⟨xs, t, r, hs, by rw [List.getElem?_eq_getElem lt2, ex], ht, hr', ?_, fun e => by rw [e] at lr; exact absurd lr (Nat.not_lt_zero _), List.mem_of_getElem? hr'⟩
  rw [List.getElem?_map, List.getElem?_eq_getElem lr]
  have e2 : wat W cs i = r[cs[i]] := by
    unfold wat
    rw [getD_some hr', getD_some (List.getElem?_eq_getElem lt), getD_some (List.getElem?_eq_getElem lr)]
  rw [e2]
  rfl
end
def spSumOf (K : PySem.W.Frag) : Sp := fun vs H Q _ => ∃ (v : V) (b : Addr) (ns cs : List Nat) (W : List (List Int)), vs = [v, .ref b] ∧ Dp K H v (wD W) ∧ CardN ns W ∧ SqL K H b (cs.map natV) ∧ RowN ns cs ∧ cs.length ≤ 1000 ∧ ∀ H', Same H H' → Q (.int (wsum W cs)) H'
theorem row_facts {ns : List Nat} {W : List (List Int)} (hC : CardN ns W) (hb : ∀ n ∈ ns, 2 ≤ n ∧ n ≤ 6) : ∀ (i : Nat) (r : List Int), W[i]? = some r → r.length ≤ 1000 ∧ r ≠ [] := fun i r h => by
  have li := (List.getElem?_eq_some_iff.mp h).1
  have lt1 : i < ns.length := by rw [← hC.1]; exact li
  have e := hC.2.1 i _ _ (List.getElem?_eq_getElem lt1) h
  have := hb _ (List.getElem_mem lt1)
  refine ⟨by omega, fun z => ?_⟩
  rw [z] at e
  have : (0 : Nat) = ns[i] := e
  omega
section
variable {K : PySem.W.Frag}
theorem But.same {b : Addr} {H H1 H2 : Hp} (s : Same H H1) (k : But b H1 H2) (n : H b = none) : Same H H2 := fun c o e => k.1 c o (ne_of_none e n) (s c o e)
theorem small_of {x : Int} (h : x.natAbs < 2 ^ 30) : Ok 0 30 (.int x) := .int h (Nat.le_refl _)
theorem ok_ilist {r : List Int} {L : Nat} (h : ∀ x ∈ r, x.natAbs < 2 ^ 30) (hl : r.length ≤ L) : Ok 1 (L * 31) (.list (r.map PyData.int)) := Ok.list (n := 0) (w := 30) (okAll.ints h (Nat.le_refl _)) (by rw [List.length_map]; exact hl)
theorem wat_small {ns cs : List Nat} {W : List (List Int)} (hC : CardN ns W) (i : Nat) : (wat W cs i).natAbs < 2 ^ 20 := by
  unfold wat
  rw [List.getD_eq_getElem?_getD, List.getD_eq_getElem?_getD (l := W)]
  cases hW : W[i]? with
  | none =>
    rw [Option.getD_none, List.getElem?_nil]
    decide
  | some r =>
    rw [Option.getD_some]
    cases hr : r[cs.getD i 0]? with
    | none => decide
    | some x => exact hC.2.2 r (List.mem_of_getElem? hW) x (List.mem_of_getElem? hr)
theorem min_small {r : List Int} (h : ∀ x ∈ r, x.natAbs < 2 ^ 20) : (minR r).natAbs < 2 ^ 20 := by
  by_cases e : r = []
  · rw [e]
    decide
  · exact h _ (minR_spec e).1
theorem max_small {r : List Int} (h : ∀ x ∈ r, x.natAbs < 2 ^ 20) : (maxR r).natAbs < 2 ^ 20 := by
  by_cases e : r = []
  · rw [e]
    decide
  · exact h _ (maxR_spec e).1
theorem row_small {ns : List Nat} {W : List (List Int)} (hC : CardN ns W) (i : Nat) : ∀ x ∈ W.getD i [], x.natAbs < 2 ^ 20 := fun x hx => by
  rw [List.getD_eq_getElem?_getD] at hx
  cases hW : W[i]? with
  | none =>
    rw [hW] at hx
    cases hx
  | some r =>
    rw [hW] at hx
    exact hC.2.2 r (List.mem_of_getElem? hW) x hx
theorem drop_small {ns cs : List Nat} {W : List (List Int)} (hC : CardN ns W) (bd : Int) (i : Nat) : (dropC W bd cs i).natAbs < 2 ^ 30 := by
  have a := wat_small (cs := cs) hC i
  have b := min_small (row_small hC i)
  have c := max_small (row_small hC i)
  unfold dropC
  split <;> omega
theorem ok_dropsC {ns cs : List Nat} {W : List (List Int)} (hC : CardN ns W) (bd : Int) (h : cs.length ≤ 24) : Ok 1 1000 (.list ((dropsC W bd cs).map PyData.int)) := (ok_ilist (L := 24) (fun x hx => by
  obtain ⟨i, _, rfl⟩ := List.mem_map.mp hx
  exact drop_small hC bd i) (by unfold dropsC; rw [List.length_map, List.length_range]; exact h)).mono (by decide) (by decide)
theorem sum_small : ∀ {l : List Int} {n : Nat}, (∀ x ∈ l, x.natAbs < 2 ^ 20) → l.length ≤ n → l.sum.natAbs ≤ n * 2 ^ 20
  | [], n, _, _ => by
    show (0 : Nat) ≤ _
    exact Nat.zero_le _
  | a :: l, 0, _, h => absurd h (by simp)
  | a :: l, n + 1, hx, h => by
    have ih := sum_small (l := l) (n := n) (fun x hx' => hx x (List.mem_cons_of_mem _ hx')) (by simpa using h)
    have ha := hx a (List.mem_cons_self ..)
    rw [List.sum_cons, Nat.succ_mul]
    omega
theorem ok_pair {x y : Int} (hx : x.natAbs < 2 ^ 30) (hy : y.natAbs < 2 ^ 30) : Ok 1 100 (.tuple [.int x, .int y]) := (Ok.tuple (n := 0) (w := 30) (L := 2) (.cons (.int hx (Nat.le_refl _)) (.cons (.int hy (Nat.le_refl _)) .nil)) (Nat.le_refl 2)).mono (by decide) (by decide)
theorem ok_two {ns cs : List Nat} (h1 : ns.length ≤ 24) (h2 : ∀ n ∈ ns, 2 ≤ n ∧ n ≤ 6) (hR : RowN ns cs) : Ok 2 3000 (.list [setD ns, setD cs]) := by
  have a : Ok 1 (24 * 31) (setD ns) := ok_set (fun m hm => by have := h2 m hm; omega) h1
  have b : Ok 1 (24 * 31) (setD cs) := ok_set (fun m hm => by
    obtain ⟨i, hi, e⟩ := List.getElem_of_mem hm
    have li : i < ns.length := by rw [← hR.1]; exact hi
    have := hR.2 i _ _ (List.getElem?_eq_getElem li) (List.getElem?_eq_getElem hi)
    have := h2 _ (List.getElem_mem li)
    omega) (by rw [hR.1]; exact h1)
  exact (Ok.list (n := 1) (w := 24 * 31) (L := 2) (.cons a (.cons b .nil)) (Nat.le_refl 2)).mono (by decide) (by decide)
theorem d_two {H : Hp} {hd a b : Addr} {ns cs : List Nat} (h : SqL K H hd [.ref a, .ref b]) (ha : SqL K H a (ns.map natV)) (hb : SqL K H b (cs.map natV)) : Dp K H (.ref hd) (.list [setD ns, setD cs]) := .lst h (.cons (Dp.of_set ha) (.cons (Dp.of_set hb) .nil))
end
end Fa
namespace Fa
open PySem PySem.Spec PyProof.Rows L2 Lk
/-! ## the greatest sum of at most k numbers of a list -/
def topG : List Int → Nat → Int
  | [], _ => 0
  | _ :: _, 0 => 0
  | x :: xs, k + 1 => max (x + topG xs k) (topG xs (k + 1))
theorem topG_zero : ∀ l : List Int, topG l 0 = 0
  | [] => rfl
  | _ :: _ => rfl
theorem topG_nil : ∀ k, topG [] k = 0
  | 0 => rfl
  | _ + 1 => rfl
theorem topG_cons (x : Int) (xs : List Int) (k : Nat) : topG (x :: xs) (k + 1) = max (x + topG xs k) (topG xs (k + 1)) := rfl
theorem topG_mono (x : Int) (xs : List Int) : ∀ k, topG xs k ≤ topG (x :: xs) k
  | 0 => by rw [topG_zero, topG_zero]; exact Int.le_refl 0
  | k + 1 => by rw [topG_cons]; omega
theorem topG_take (x : Int) (xs : List Int) (k : Nat) : x + topG xs k ≤ topG (x :: xs) (k + 1) := by rw [topG_cons]; omega
theorem topG_perm {l m : List Int} (h : l.Perm m) : ∀ k, topG l k = topG m k := by
  induction h with
  | nil => exact fun _ => rfl
  | cons x _ ih =>
    intro k
    cases k with
    | zero => rfl
    | succ k => rw [topG_cons, topG_cons, ih, ih]
  | swap x y l =>
    intro k
    cases k with
    | zero => rfl
    | succ k =>
      cases k with
      | zero =>
        simp only [topG_cons, topG_zero]
        omega
      | succ k =>
        simp only [topG_cons]
        omega
  | trans _ _ h1 h2 => exact fun k => (h1 k).trans (h2 k)
theorem topG_le {x : Int} (hx : 0 ≤ x) : ∀ (xs : List Int), (∀ y ∈ xs, y ≤ x) → ∀ k, topG xs (k + 1) ≤ x + topG xs k
  | [], _, k => by rw [topG_nil, topG_nil]; omega
  | y :: ys, h, k => by
    have h1 := h y (List.mem_cons_self ..)
    have ih := topG_le hx ys fun z hz => h z (List.mem_cons_of_mem _ hz)
    cases k with
    | zero =>
      have := ih 0
      rw [topG_zero] at this
      rw [topG_cons, topG_zero, topG_zero]
      omega
    | succ k =>
      have := ih k
      have := ih (k + 1)
      rw [topG_cons, topG_cons]
      omega
theorem topG_desc : ∀ (ms : List Int), (∀ y ∈ ms, 0 ≤ y) → ms.Pairwise (· ≥ ·) → ∀ k, topG ms k = (ms.take k).sum
  | [], _, _, k => by rw [topG_nil, List.take_nil]; rfl
  | x :: xs, h0, hp, 0 => rfl
  | x :: xs, h0, hp, k + 1 => by
    have hx := h0 x (List.mem_cons_self ..)
    have p := List.pairwise_cons.mp hp
    have ih := topG_desc xs (fun y hy => h0 y (List.mem_cons_of_mem _ hy)) p.2 k
    have := topG_le hx xs (fun y hy => p.1 y hy) k
    rw [topG_cons, List.take_succ_cons, List.sum_cons, ← ih]
    omega
theorem perm_sum {l m : List Int} (h : l.Perm m) : l.sum = m.sum := by
  induction h with
  | nil => rfl
  | cons x _ ih => rw [List.sum_cons, List.sum_cons, ih]
  | swap x y l =>
    simp only [List.sum_cons]
    omega
  | trans _ _ h1 h2 => exact h1.trans h2
/-- the sum of the first of the numbers in descending sequence -/
theorem topG_of {ms ds : List Int} (hp : ms.Perm ds) (hw : ms.Pairwise (· ≥ ·)) (h0 : ∀ y ∈ ds, 0 ≤ y) (k : Nat) : (ms.take k).sum = topG ds k := by
  rw [← topG_perm hp, topG_desc ms (fun y hy => h0 y (hp.mem_iff.mp hy)) hw]
/-! ## the first places that reach a goal -/
def sumAt (ds : List Int) (fs : List Nat) : Int := (fs.map fun f => ds.getD f 0).sum
theorem sumAt_snoc (ds : List Int) (fs : List Nat) (f : Nat) : sumAt ds (fs ++ [f]) = sumAt ds fs + ds.getD f 0 := by
  unfold sumAt
  rw [List.map_append, List.sum_append]
  simp
/-- no place that is passed over would do -/
def Passed (ds : List Int) (goal : Int) (L : Nat) (fs : List Nat) (i : Nat) : Prop := ∀ (k f : Nat), f < i → f ∉ fs → (∀ (j g : Nat), fs[j]? = some g → (j < k ↔ g < f)) → k ≤ fs.length → k < L →
  sumAt ds (fs.take k) + ds.getD f 0 + topG (ds.drop (f + 1)) (L - k - 1) < goal
structure Way (ds : List Int) (goal : Int) (L : Nat) (fs : List Nat) (i : Nat) : Prop where
  asc : fs.Pairwise (· < ·)
  lt : ∀ f ∈ fs, f < i
  len : fs.length ≤ L
  can : goal - sumAt ds fs ≤ topG (ds.drop i) (L - fs.length)
  few : ∀ r, r < L - fs.length → topG (ds.drop i) r < goal - sumAt ds fs
  pass : Passed ds goal L fs i
structure First (ds : List Int) (goal : Int) (fs : List Nat) : Prop where
  asc : fs.Pairwise (· < ·)
  lt : ∀ f ∈ fs, f < ds.length
  can : goal ≤ sumAt ds fs
  few : ∀ r, r < fs.length → topG ds r < goal
  pass : Passed ds goal fs.length fs ds.length
theorem cut_from (ds : List Int) {v : Int} {k : Nat} (h : v = (k : Int)) : cutV (ds.map V.int) (some v) none = (ds.drop k).map V.int := by
  subst h
  unfold cutV
  rw [HT.sIx_nat, HT.sIx_none, ← List.map_drop, ← List.map_take, List.length_map]
  congr 1
  rw [List.take_of_length_le (by rw [List.length_drop]; omega)]
  by_cases e : k ≤ ds.length
  · rw [Nat.min_eq_left e]
  · rw [List.drop_eq_nil_of_le (by omega), List.drop_eq_nil_of_le (by omega)]
theorem cut_to (ds : List Int) {v : Int} {k : Nat} (h : v = (k : Int)) : cutV (ds.map V.int) none (some v) = (ds.take k).map V.int := by
  subst h
  unfold cutV
  rw [HT.sIx_nat, HT.sIx_none, ← List.map_drop, ← List.map_take, List.length_map, List.drop_zero]
  congr 1
  by_cases e : k ≤ ds.length
  · rw [Nat.min_eq_left e, Nat.sub_zero]
  · rw [List.take_of_length_le (by omega), List.take_of_length_le (by omega)]
variable {ds : List Int} {goal : Int} {L i : Nat} {fs : List Nat}
theorem asc_fit : ∀ (l : List Nat) (lo n : Nat), l.Pairwise (· < ·) → (∀ f ∈ l, lo ≤ f ∧ f < n) → l.length ≤ n - lo
  | [], _, _, _, _ => Nat.zero_le _
  | a :: l, lo, n, hp, h => by
    have p := List.pairwise_cons.mp hp
    have ha := h a (List.mem_cons_self ..)
    have ih := asc_fit l (a + 1) n p.2 fun f hf => ⟨p.1 f hf, (h f (List.mem_cons_of_mem _ hf)).2⟩
    rw [List.length_cons]
    omega
theorem Way.fit (w : Way ds goal L fs i) : fs.length ≤ i := by
  have := asc_fit fs 0 i w.asc fun f hf => ⟨Nat.zero_le _, w.lt f hf⟩
  omega
theorem First.fit (w : First ds goal fs) : fs.length ≤ ds.length := by
  have := asc_fit fs 0 ds.length w.asc fun f hf => ⟨Nat.zero_le _, w.lt f hf⟩
  omega
theorem asc_iff {l : List Nat} (h : l.Pairwise (· < ·)) {j i g f : Nat} (hj : l[j]? = some g) (hi : l[i]? = some f) : (j < i ↔ g < f) ∧ (i < j ↔ f < g) := by
  obtain ⟨lj, ej⟩ := List.getElem?_eq_some_iff.mp hj
  obtain ⟨li, ei⟩ := List.getElem?_eq_some_iff.mp hi
  have p := List.pairwise_iff_getElem.mp h
  rcases Nat.lt_trichotomy j i with z | z | z
  · have := p j i lj li z
    omega
  · subst z
    rw [hj] at hi
    cases hi
    omega
  · have := p i j li lj z
    omega
/-- the turn of a walk through places that are passed over -/
def Turn (fs : List Nat) (i st : Nat) : Prop := ∀ j g, fs[j]? = some g → (j < i ↔ g < st)
theorem Turn.zero : Turn fs 0 0 := fun j g _ => by omega
theorem Turn.next (h : fs.Pairwise (· < ·)) {f : Nat} (hi : fs[i]? = some f) : Turn fs (i + 1) (f + 1) := fun j g hj => by
  have := asc_iff h hj hi
  omega
theorem First.passed (w : First ds goal fs) {st f x : Nat} (ht : Turn fs i st) (hi : fs[i]? = some f) (h1 : st ≤ x) (h2 : x < f) : sumAt ds (fs.take i) + ds.getD x 0 + topG (ds.drop (x + 1)) (fs.length - i - 1) < goal := by
  have li := (List.getElem?_eq_some_iff.mp hi).1
  have lf := w.lt f (List.mem_of_getElem? hi)
  refine w.pass i x (by omega) (fun hm => ?_) (fun j g hj => ?_) (by omega) li
  · obtain ⟨j, hj⟩ := List.getElem?_of_mem hm
    have := ht j x hj
    have := asc_iff w.asc hj hi
    omega
  · have := ht j g hj
    have := asc_iff w.asc hj hi
    omega
theorem sumAt_take {f : Nat} (hi : fs[i]? = some f) : sumAt ds (fs.take (i + 1)) = sumAt ds (fs.take i) + ds.getD f 0 := by
  rw [List.take_add_one, hi]
  exact sumAt_snoc ds _ f
theorem Way.start (h1 : goal ≤ topG ds L) (h2 : ∀ r, r < L → topG ds r < goal) : Way ds goal L [] 0 where
  asc := .nil
  lt := fun f h => by simp at h
  len := Nat.zero_le _
  can := by show goal - 0 ≤ topG ds L; omega
  few := fun r hr => by show topG ds r < goal - 0; have := h2 r hr; omega
  pass := fun k f h => by omega
theorem drop_at {d : Int} (h : ds[i]? = some d) : ds.drop i = d :: ds.drop (i + 1) := by
  obtain ⟨lt, e⟩ := List.getElem?_eq_some_iff.mp h
  rw [List.drop_eq_getElem_cons lt, e]
theorem Way.take {d : Int} (w : Way ds goal L fs i) (h : ds[i]? = some d) (h1 : fs.length < L) (h2 : goal - sumAt ds fs ≤ d + topG (ds.drop (i + 1)) (L - fs.length - 1)) : Way ds goal L (fs ++ [i]) (i + 1) := by
  have gd : ds.getD i 0 = d := getD_some h
  have eL : (fs ++ [i]).length = fs.length + 1 := by rw [List.length_append]; rfl
  refine ⟨?_, ?_, by omega, ?_, ?_, ?_⟩
  · rw [List.pairwise_append]
    exact ⟨w.asc, List.pairwise_singleton .., fun a ha b hb => by rw [List.mem_singleton] at hb; subst hb; exact w.lt a ha⟩
  · intro f hf
    rw [List.mem_append, List.mem_singleton] at hf
    rcases hf with hf | rfl
    · have := w.lt f hf
      omega
    · omega
  · rw [sumAt_snoc, gd, eL, show L - (fs.length + 1) = L - fs.length - 1 by omega]
    omega
  · intro r hr
    rw [sumAt_snoc, gd]
    have := w.few (r + 1) (by omega)
    rw [drop_at h] at this
    have := topG_take d (ds.drop (i + 1)) r
    omega
  · intro k f hf hn hk hl hL
    have ne : f ≠ i := fun z => hn (by rw [z]; simp)
    have hnl : f ∉ fs := fun z => hn (List.mem_append_left _ z)
    have h3 := hk fs.length i (by rw [List.getElem?_append_right (Nat.le_refl _), Nat.sub_self]; rfl)
    have kl : k ≤ fs.length := by omega
    have e := w.pass k f (by omega) hnl (fun j g hg => hk j g (by rw [List.getElem?_append_left (List.getElem?_eq_some_iff.mp hg).1]; exact hg)) kl hL
    rw [List.take_append_of_le_length kl]
    exact e
theorem Way.skip {d : Int} (w : Way ds goal L fs i) (h : ds[i]? = some d) (h2 : fs.length < L → d + topG (ds.drop (i + 1)) (L - fs.length - 1) < goal - sumAt ds fs) : Way ds goal L fs (i + 1) := by
  have gd : ds.getD i 0 = d := getD_some h
  refine ⟨w.asc, fun f hf => by have := w.lt f hf; omega, w.len, ?_, ?_, ?_⟩
  · have c := w.can
    rw [drop_at h] at c
    by_cases e : fs.length < L
    · have := h2 e
      obtain ⟨m, em⟩ : ∃ m, L - fs.length = m + 1 := ⟨L - fs.length - 1, by omega⟩
      rw [em] at c this ⊢
      rw [topG_cons] at c
      rw [Nat.add_sub_cancel] at this
      omega
    · rw [show L - fs.length = 0 by omega, topG_zero] at c ⊢
      exact c
  · intro r hr
    have := w.few r hr
    rw [drop_at h] at this
    have := topG_mono d (ds.drop (i + 1)) r
    omega
  · intro k f hf hn hk hl hL
    by_cases e : f = i
    · subst e
      have ek : k = fs.length := by
        refine Nat.le_antisymm hl (Nat.le_of_not_lt fun z => ?_)
        have g := List.getElem?_eq_getElem z
        have := hk k _ g
        have := w.lt _ (List.getElem_mem z)
        omega
      subst ek
      have := h2 hL
      rw [List.take_length, gd]
      omega
    · exact w.pass k f (by omega) hn hk hl hL
theorem Way.done (w : Way ds goal L fs ds.length) (h2 : ∀ r, r < L → topG ds r < goal) : First ds goal fs ∧ fs.length = L := by
  have e : fs.length = L := by
    refine Nat.le_antisymm w.len (Nat.le_of_not_lt fun z => ?_)
    have := w.few 0 (by omega)
    have := w.can
    rw [List.drop_length, topG_nil] at *
    omega
  refine ⟨⟨w.asc, w.lt, ?_, ?_, ?_⟩, e⟩
  · have := w.can
    rw [List.drop_length, topG_nil] at this
    omega
  · rw [e]
    exact h2
  · rw [e]
    exact w.pass
end Fa
/-! a try whose clause keeps the error: the statements behind it still know what it is -/
namespace Fa
open PySem PySem.Spec PyProof.Rows L2 Lk
/-- Cx with the error pinned -/
abbrev pinX (X : Cx) (a : Addr) (oe : Obj) (pn : List (Addr × Obj)) : Cx := X.tr ((a, oe) :: pn) X.xe
section
variable {X : Cx} {pins : List (Addr × Obj)} {σ : L2.St} {H : Hp} {s : Shared} {D : Ends}
theorem Inv.pinned {a : Addr} {oe : Obj} (I : Inv (X.suite a ((a, oe) :: (X.pn ++ pins))) [] σ H s) (ok : X.Ok) : Inv (pinX X a oe (X.pn ++ pins)) [] σ H s := by
  obtain ⟨_, a2, a3, a4, a5, a6, a7, a8, a9, a10, a11⟩ := I
  exact ⟨ok.toTry _ _, a2, a3, a4, a5, a6, a7, a8, a9, a10, a11⟩
theorem Inv.unpinned {a : Addr} {oe : Obj} (I : Inv (pinX X a oe (X.pn ++ pins)) [] σ H s) (ok : X.Ok) : Inv X pins σ H s := by
  obtain ⟨_, a2, a3, a4, a5, a6, a7, a8, a9, a10, a11⟩ := I
  exact ⟨ok, a2, a3, a4, a5, a6, a7, a8, fun p hp => a9 p (by rw [List.append_nil]; exact List.mem_cons_of_mem _ hp), a10, a11⟩
/-- SP of X from SP of a context that differs in its pins alone -/
theorem SP.to {Y : Cx} {pins' : List (Addr × Obj)} (h : ∀ σ H s, Inv Y pins' σ H s → Inv X pins σ H s) {f : Flow} {s' : Shared} (q : SP Y pins' D f s') : SP X pins D f s' := by
  cases f with
  | next => exact let ⟨σ', H', I, q⟩ := q; ⟨σ', H', h _ _ _ I, q⟩
  | brk => exact let ⟨σ', H', I, q⟩ := q; ⟨σ', H', h _ _ _ I, q⟩
  | cont => exact let ⟨σ', H', I, q⟩ := q; ⟨σ', H', h _ _ _ I, q⟩
  | ret u => exact let ⟨v, σ', H', I, r, q⟩ := q; ⟨v, σ', H', h _ _ _ I, r, q⟩
end
section
variable {X : Cx} {x n : Str} {c : Value} {i : Nat} {body suite rest : List Stmt} {b₀ : Stmt} {np pos pos' : Pos} {tb : WX → TS} {ts t2 : Addr → Value → Option Addr → TS} {t1 : TS}
/-- what the clause asks of an error that it takes; every error must be one -/
def wKeep (K : PySem.W.Frag) (c : Value) (i : Nat) (ts t2 : Addr → Value → Option Addr → TS) (D : Ends) : WX := fun cls d σ H =>
  PySem.W.exmOne K cls c = some true ∧ ∀ a, H a = none → ts a cls d { nx := fun σ' H' => t2 a cls d D (σ'.set i none) H', rt := D.rt } (σ.set i (some (.ref a))) H
/-- how the try is left: by its end, or by the clause's end with the error pinned, or by a return -/
def Left (X : Cx) (pins : List (Addr × Obj)) (D : Ends) (t1 : TS) (t2 : Addr → Value → Option Addr → TS) (f : Flow) (s' : Shared) : Prop :=
  SP X pins { D with nx := t1 D } f s' ∨ f = .next ∧ ∃ a oe cls d σ' H', Zc cls d oe ∧ (∃ vs, oe.data = .fields vs) ∧ Inv (pinX X a oe (X.pn ++ pins)) [] σ' H' s' ∧ t2 a cls d D σ' H'
/-- the clause's suite, and its name goes -/
theorem suite_left {pins : List (Addr × Obj)} {D : Ends} {a : Addr} {oe : Obj} {cls : Value} {d : Option Addr} {σ : L2.St} {H : Hp} {s : Shared} (ok : X.Ok) (hN : X.N.Nodup) (hi : X.N[i]? = some n) (hln : X.env.kindOf n = some .local) (hz : Zc cls d oe) (hd : ∃ vs, oe.data = .fields vs)
    (hsu : PSs (X.suite a ((a, oe) :: (X.pn ++ pins))) (b₀ :: suite) (ts a cls d)) (S : Inv (X.suite a ((a, oe) :: (X.pn ++ pins))) [] σ H s) (h : ts a cls d { nx := fun σ' H' => t2 a cls d D (σ'.set i none) H', rt := D.rt } σ H)
    {E : Value → Shared → Prop} : wpAny (model X.prog X.w) (X.A.mark (some (.ref a))) (execs (b₀ :: suite) X.env) (fun f s6 => wpAny (model X.prog X.w) X.A (do bindName X.env n .none; unbindBehindTheSuite X.env n pos') (fun _ s7 => Left X pins D t1 t2 f s7) X.xe s6) E s := by
  refine wpAny_mono (hsu.run [] s σ H _ S h) (fun f s6 q => ?_) fun _ _ z => False.elim z
  cases f with
  | next =>
    obtain ⟨σ6, H6, S6, q6⟩ := q
    exact gone_ok (X := pinX X a oe (X.pn ++ pins)) (Inv.pinned S6 ok) hN hi hln fun s7 J7 => .inr ⟨rfl, a, oe, cls, d, _, _, hz, hd, J7, q6⟩
  | brk => exact let ⟨_, _, _, z⟩ := q; False.elim z
  | cont => exact let ⟨_, _, _, z⟩ := q; False.elim z
  | ret u =>
    obtain ⟨v6, σ6, H6, S6, r6, q6⟩ := q
    exact gone_ok (S6.unsuite ok) hN hi hln fun s7 J7 => .inl ⟨_, _, _, J7, r6, q6⟩
/-- try: body / except x as n: suite, and the rest of the block: every error of the body is taken -/
theorem pss_try_keep (hs : X.stack = X.env :: X.outer) (hf : X.env.frame = some X.env.locals) (hN : X.N.Nodup) (hi : X.N[i]? = some n) (hln : X.env.kindOf n = some .local) (hc : Names X x c)
    (hb : ∀ (W : WX) (pn : List (Addr × Obj)) (xe : Value → Shared → Prop), Takes (X.tr pn xe) W → PassesOwn (model X.prog X.w) X.A X.env xe → PSs (X.tr pn xe) body (tb W))
    (hsu : ∀ (a : Addr) (oe : Obj) (cls : Value) (d : Option Addr) (pn : List (Addr × Obj)), Zc cls d oe → (∃ vs, oe.data = .fields vs) → PSs (X.suite a ((a, oe) :: pn)) (b₀ :: suite) (ts a cls d))
    (hr1 : PSs X rest t1)
    (hr2 : ∀ (a : Addr) (oe : Obj) (cls : Value) (d : Option Addr) (pn : List (Addr × Obj)), Zc cls d oe → (∃ vs, oe.data = .fields vs) → PSs (pinX X a oe pn) rest (t2 a cls d)) :
    PSs X (.Try body [.ExceptHandler (some (.Name x np)) (some n) (b₀ :: suite) pos'] [] [] pos :: rest) (fun D σ H => tb (wKeep X.K c i ts t2 D) { D with nx := t1 D } σ H) := by
  refine ⟨fun pins s σ H D I h => wpAny_execs_cons (thn (Q := Left X pins D t1 t2) ?_ fun f s1 q => ?_)⟩
  · have ok := I.ok
    refine wpAny_Try_except (wpAny_mono ((hb (wKeep X.K c i ts t2 D) (X.pn ++ pins) _ (fun u s' xx => ?_) PassesOwn.looking).run [] s σ H { D with nx := t1 D } (I.toTry _) h) (fun f s1 q => ?_) fun e s1 he => he)
    · obtain ⟨a, B, sI, pins', σ', H', cls, d, rfl, J', nb, up, sky, na, os, ag, hm, hyes⟩ := xx
      have J : Inv X pins σ' H' sI := J'.ofTry ok
      rw [hs] at sky
      refine Sky.land Zc.steady (by rw [ok.frames, hs]) hf sky fun h3 fl3 up3 => ?_
      obtain ⟨oe3, vs3, he3, hz3, hd3⟩ := fl3.there
      have out : ∀ L ∈ X.env :: X.outer, L.frame ≠ some a := fun L hL e => by
        obtain ⟨_, o, ho, hnf⟩ := fl3.2.2.1.mem (List.mem_filterMap.mpr ⟨L, hL, e⟩)
        rw [he3] at ho
        cases ho
        exact hnf _ hd3
      have nL : a ≠ X.env.locals := fun z => out _ List.mem_cons_self (by rw [hf, z])
      have nF : a ∉ X.fs := fun hm => let ⟨L, hL, e⟩ := List.mem_filterMap.mp hm; out L (List.mem_cons_of_mem _ hL) e
      have J3 : L2.Inv X pins σ' H' { s' with heap := h3 } := J.landed nb fl3.1 (up.trans up3) os ag
      have S3 := J3.suite he3 hd3 na nL nF
      have LM := PySem.W.exm_one (M := model X.prog X.w) J3.kIn (fun A Q E s k q => wpAny_typeOf_ref (k _ _ he3) (by rw [hz3.1]; exact q)) hm
      have test : ∀ {Q E : Value → Shared → Prop}, Q c { s' with heap := h3 } → wpAny (model X.prog X.w) (X.A.mark (some (.ref a))) (eval (.Name x np) X.env) Q E { s' with heap := h3 } := fun {Q E} q => by
        obtain ⟨hg, hdbg, hm | ⟨hm, hv, hnn⟩⟩ := hc
        · exact ld_glob (X := X.suite a ((a, oe3) :: (X.pn ++ pins))) S3 hg hm q hdbg
        · exact ld_blt (X := X.suite a ((a, oe3) :: (X.pn ++ pins))) S3 hg hm hv q hnn hdbg
      refine wpAny_handleBy_cons (codeAny_handlers_test (test (LM.here (codeAny_handlers_suite_as (HandSPX.lands_againZ fl3 fun h4 fl4 up4 => ?_))))) (by intro q; cases q)
      obtain ⟨oe4, vs4, he4, hz4, hd4⟩ := fl4.there
      have J4 : L2.Inv X pins σ' H' { s' with heap := h4 } := J.landed nb fl4.1 ((up.trans up3).trans up4) os ag
      have S4 := J4.suite he4 hd4 na nL nF
      exact store_ok (X := X.suite a ((a, oe4) :: (X.pn ++ pins))) (v := .ref a) S4 hN hi (.inl hln) rfl (fun s5 S5 => suite_left ok hN hi hln hz4 ⟨_, hd4⟩ (hsu a oe4 cls d (X.pn ++ pins) hz4 ⟨_, hd4⟩) S5 (hyes a na)) (.inr hln)
    · have q := SP.to (D := { D with nx := t1 D }) (fun σ H s J => J.ofTry ok) q
      cases f with
      | next => exact wpAny_execs_nil (.inl q)
      | brk => exact .inl q
      | cont => exact .inl q
      | ret u => exact .inl q
  · rcases q with q | ⟨rfl, a, oe, cls, d, σ', H', hz, hd, J, q⟩
    · cases f with
      | next => exact let ⟨σ', H', J, q⟩ := q; hr1.run pins s1 σ' H' D J q
      | brk => exact q
      | cont => exact q
      | ret u => exact q
    · exact wpAny_mono ((hr2 a oe cls d (X.pn ++ pins) hz hd).run [] s1 σ' H' D J q) (fun f s2 q2 => SP.to (fun σ H s J => Inv.unpinned J I.ok) q2) fun _ _ z => z
/-- what stands behind a try, the error one of class C -/
theorem pss_known {Y : Cx} {C : Addr} {oe : Obj} {cls : Value} {d : Option Addr} {st : List Stmt} {t : TS} (hz : Zc cls d oe) (h : Zc (.ref C) none oe → PSs Y st t) : PSs Y st (fun D σ H => cls = .ref C ∧ d = none ∧ t D σ H) :=
  ⟨fun pins s σ H D I q => by
    obtain ⟨rfl, rfl, q⟩ := q
    exact (h hz).run pins s σ H D I q⟩
/-- isinstance of the pinned error -/
theorem isi_pinned {a C : Addr} {oe : Obj} {pn : List (Addr × Obj)} (T : ExcC X.K C) (hz : Zc (.ref C) none oe) (hf : ∃ vs, oe.data = .fields vs) : CallR (pinX X a oe pn) (.builtin "isinstance") (rIsE X.K C a) := by
  rintro pins s σ H _ us Q I r ⟨c, cv, b, rfl, hcv, e, q⟩
  obtain ⟨u1, u2, rfl, r1, r2⟩ : ∃ u1 u2, us = [u1, u2] ∧ RelV (.ref a) u1 ∧ RelV c u2 := by
    cases r with
    | cons r1 rr =>
      cases rr with
      | cons r2 rr =>
        cases rr
        exact ⟨_, _, rfl, r1, r2⟩
  cases r1
  rw [hcv _ r2]
  have J : PySem.W.InstAt s.heap a oe C none := by
    obtain ⟨vs, hv⟩ := hf
    have hg := (I.pin (a, oe) (List.mem_append_left _ List.mem_cons_self)).1
    cases oe
    obtain ⟨rfl, rfl⟩ := hz
    cases hv
    exact ⟨hg, rfl, rfl, trivial⟩
  exact PySem.W.kia_one (PySem.W.handS_kitx_exc T.hg T.hk T.hs T.hd T.ha T.hn T.ht T.hm) I.kIn J e (fun z => nomatch z) fun tk => ⟨.bl b, H, I.kept (t' := tk) fun _ _ z => z, rfl, q⟩
end
/-- two ways that meet in a block -/
theorem seq_s {a b : TS} {D : Ends} {σ : L2.St} {H : Hp} (p : L2.St → Hp → Prop) (h2 : ∀ σ' H', p σ' H' → b D σ' H') (h1 : (∀ σ' H', p σ' H' → b D σ' H') → a { D with nx := b D } σ H) : tSeq a b D σ H := h1 h2
/-- an error's class: what is asked of it -/
structure ErrC (K : PySem.W.Frag) (C : Addr) : Prop where
  ex : PySem.W.excIn K C [.type "ValueError", .type "Exception", .type "BaseException", .type "object"] "ValueError.__new__" = true
  kp : PySem.W.keepIn K (.ref C) = true
  ty : PySem.W.typeIn K (.ref C) = some (.type "type")
  is : ExcC K C
end Fa
namespace Fa
open PySem PySem.Spec PyProof.Rows L2 Lk
def top (i : Nat) : Stmt := PySem.Challenge.pw_leastreasons_k43_shortest_turns_in_cards.main.body.getD i (.Pass ⟨0, 0, 0, 0⟩)
abbrev sIsInteger : Stmt := top 9
abbrev sBelow : Stmt := top 10
abbrev sAscN : Stmt := top 12
abbrev sIsSizes : Stmt := top 18
abbrev sCheckSizes : Stmt := top 19
structure Txt (mg : Str → Option Value) : Prop where
  int : mg "int" = none
  bool : mg "bool" = none
  list : mg "list" = none
  tuple : mg "tuple" = none
  str : mg "str" = none
  len : mg "len" = none
  isi : mg "isinstance" = none
  all : mg "all" = none
  range : mg "range" = none
  sorted : mg "sorted" = none
  sum : mg "sum" = none
  max : mg "max" = none
  min : mg "min" = none
def intD : PyData → Bool
  | .int _ => true
  | _ => false
def belowD (d : PyData) (l : Int) : Bool := match d with
  | .int i => decide (0 ≤ i) && decide (i < l)
  | _ => false
section
variable {P : Program} {w : World} {K : PySem.W.Frag} {mg : Str → Option Value} {base : Heap}
/-! ### is_integer -/
theorem scIsInteger : FnScope ["value"] ["value"] (defScope sIsInteger) := ⟨rfl, rfl, rfl, by decide +kernel, rfl, by decide +kernel, by decide +kernel⟩
def spIsInteger (K : PySem.W.Frag) : Sp := fun vs H Q _ => ∃ v d, vs = [v] ∧ Dp K H v d ∧ Q (.bl (intD d)) H
theorem ok_isInteger {f : Addr} {fd : FuncData} {k : Nat} (F : Fun K "is_integer" "is_integer" sIsInteger f fd) (T : Txt mg) : FnOk P w K mg base CX0 (k + 1) f fd ["value"] (spIsInteger K) := by
  refine F.ok scIsInteger (fun vs H Q E h => ?_) (fun cdv A outer s H vs Q E hr h => ?_)
  · obtain ⟨v, d, rfl, _⟩ := h
    rfl
  · obtain ⟨v, d, rfl, hd, q⟩ := h
    refine ⟨_, pss_one (ps_ret (pe_and (pe_callB (call_isiD "int") (by rfl) T.isi (by decide +kernel) (pa_cons (pv 0) (pa_cons (pe_bltn (v := .ty "int") (by rfl) T.int (by decide +kernel) rfl) pa_nil)))
      (pe_one (pe_not (pe_callB (call_isiD "bool") (by rfl) T.isi (by decide +kernel) (pa_cons (pv 0) (pa_cons (pe_bltn (v := .ty "bool") (by rfl) T.bool (by decide +kernel) rfl) pa_nil))))))), ?_⟩
    refine ⟨v, rfl, v, d, rfl, hd, _, rfl, ?_⟩
    cases d <;> first
      | exact iteT ⟨_, rfl, _, _, rfl, hd, _, rfl, q⟩
      | exact iteF q
/-! ### is_integer_below -/
theorem scBelow : FnScope ["value", "limit"] ["value", "limit"] (defScope sBelow) := ⟨rfl, rfl, rfl, by decide +kernel, rfl, by decide +kernel, by decide +kernel⟩
def spBelow (K : PySem.W.Frag) : Sp := fun vs H Q _ => ∃ v d l, vs = [v, .int l] ∧ Dp K H v d ∧ Q (.bl (belowD d l)) H
theorem ok_below {f : Addr} {fd : FuncData} {k : Nat} (F : Fun K "is_integer_below" "is_integer_below" sBelow f fd) (GI : Has P w K mg base k "is_integer" ["value"] (spIsInteger K)) : FnOk P w K mg base CX0 (k + 1) f fd ["value", "limit"] (spBelow K) := by
  refine F.ok scBelow (fun vs H Q E h => ?_) (fun cdv A outer s H vs Q E hr h => ?_)
  · obtain ⟨v, d, l, rfl, _⟩ := h
    rfl
  · obtain ⟨v, d, l, rfl, hd, q⟩ := h
    refine ⟨_, pss_one (ps_ret (pe_and (hc GI hr (by rfl) (pa_cons (pv 0) pa_nil)) (pe_one (pe_chain op_le op_lt pe_int (pv 0) (pv 1))))), ?_⟩
    refine ⟨v, rfl, v, d, rfl, hd, _, rfl, ?_⟩
    cases d with
    | int i =>
      cases hd
      refine iteT ?_
      refine ⟨_, rfl, _, _, rfl, rfl, _, rfl, ite2 (fun e => ?_) (fun e => ?_)⟩
      · refine ⟨_, rfl, _, _, rfl, rfl, ?_⟩
        have : belowD (.int i) l = decide (i < l) := by
          show (decide (0 ≤ i) && decide (i < l)) = _
          rw [e]
          rfl
        rw [this] at q
        exact q
      · have : belowD (.int i) l = false := by
          show (decide (0 ≤ i) && decide (i < l)) = _
          rw [Bool.eq_false_iff.mpr e]
          rfl
        rw [this] at q
        exact q
    | none => exact iteF q
    | bool b => exact iteF q
    | str b => exact iteF q
    | list b => exact iteF q
    | tuple b => exact iteF q
    | dict b => cases hd
/-! ### ascending_numbers, of a tuple -/
theorem scAscN : FnScope ["numbers", "number"] ["numbers"] (defScope sAscN) := ⟨rfl, rfl, rfl, by decide +kernel, rfl, by decide +kernel, by decide +kernel⟩
def spAscN (K : PySem.W.Frag) : Sp := fun vs H Q _ => ∃ (a : Addr) (r : List Int), vs = [.ref a] ∧ SqT K H a (r.map V.int) ∧ r.length ≤ 1000 ∧ ∀ (H' : Hp) (p : Addr) (ns : List Int), Same H H' → H p = none → H' p = some (.lst (ns.map V.int)) → ns.Perm r → ns.Pairwise (· ≤ ·) → Q (.ref p) H'
theorem ok_ascN {f : Addr} {fd : FuncData} {k : Nat} (F : Fun K "ascending_numbers" "ascending_numbers" sAscN f fd) (T : Txt mg) : FnOk P w K mg base CX0 (k + 1) f fd ["numbers"] (spAscN K) := by
  refine F.ok scAscN (fun vs H Q E h => ?_) (fun cdv A outer s H vs Q E hr h => ?_)
  · obtain ⟨a, r, rfl, _⟩ := h
    rfl
  · obtain ⟨a, r, rfl, hs, hl, q⟩ := h
    refine ⟨_, (pss_one (ps_ret (pe_callB cr_sortedN (by rfl) T.sorted (by decide +kernel) (pa_cons (pe_lc (own := [("number", 1)]) (g := gName 1) (tt := tYes) rfl scAscN.nd (pi_tup (pv 0)) (blkOk_by (own := [("number", 1)]) (N := ["numbers", "number"]) (sc := defScope sAscN) (by decide +kernel)) (fun _ _ _ _ _ => pg_name (i := 1) scAscN.nd rfl (Or.inl rfl)) (fun _ _ _ _ _ => pts_nil) (fun _ _ _ _ _ => (pe_callTy call_int1 (by rfl) T.int (by decide +kernel) (pa_cons (pv 1) pa_nil)))) pa_nil)))), ?_⟩
    refine ⟨_, rfl, a, rfl, ⟨_, hs⟩, fun D nD => ?_⟩
    refine lc_tup (K := K) (a := a) (xs := r.map V.int) (PvA H D fun i => (r.take i).map V.int) (PvA.start nD rfl) (fun i H' _ p => Same.tup p.1 hs) ?_ ?_
    · rintro i x H' hx p
      rw [List.getElem?_map] at hx
      obtain ⟨c, hc', rfl⟩ := Option.map_eq_some_iff.mp hx
      refine ⟨rfl, ?_⟩
      refine ⟨_, rfl, .inl ⟨_, rfl, ?_⟩⟩
      exact p.keep nD (Same.refl _) (acc_lm (by omega)) (acc_map hc')
    · rintro H1 ⟨sm, eD⟩
      dsimp only at eD
      rw [List.length_map, List.take_length] at eD
      exact ⟨D, r, rfl, .inl (.inl eD), fun ns hp hw p H2 s2 n2 e2 => q H2 p ns (sm.trans s2) (sm.free n2) e2 hp hw⟩
/-! ### is_sizes, check_sizes, of sizes -/
structure Cst (mg : Str → Option Value) : Prop where
  most : ∃ t, mg "MOST_FIELDS" = some (.int 24 t)
  least : ∃ t, mg "LEAST_SIZE" = some (.int 2 t)
  great : ∃ t, mg "GREATEST_SIZE" = some (.int 6 t)
def SizesN (K : PySem.W.Frag) (H : Hp) (a : Addr) (ns : List Nat) : Prop := SqL K H a (ns.map natV) ∧ ns.length ≤ 24 ∧ ∀ n ∈ ns, 2 ≤ n ∧ n ≤ 6
theorem SizesN.sm {H H' : Hp} {a : Addr} {ns : List Nat} (s : Same H H') (h : SizesN K H a ns) : SizesN K H' a ns := ⟨s.seq h.1, h.2⟩
theorem scIsSizes : FnScope ["value", "size"] ["value"] (defScope sIsSizes) := ⟨rfl, rfl, rfl, by decide +kernel, rfl, by decide +kernel, by decide +kernel⟩
def spIsSizes (K : PySem.W.Frag) : Sp := fun vs H Q _ => ∃ (a : Addr) (ns : List Nat), vs = [.ref a] ∧ SizesN K H a ns ∧ ∀ H', Same H H' → Q (.bl true) H'
theorem ok_isSizes {f : Addr} {fd : FuncData} {k : Nat} (F : Fun K "is_sizes" "is_sizes" sIsSizes f fd) (T : Txt mg) (C : Cst mg) (G_is_integer : Has P w K mg base k "is_integer" ["value"] (spIsInteger K)) : FnOk P w K mg base CX0 (k + 1) f fd ["value"] (spIsSizes K) := by
  obtain ⟨t1, m_MOST_FIELDS⟩ := C.most
  obtain ⟨t2, m_LEAST_SIZE⟩ := C.least
  obtain ⟨t3, m_GREATEST_SIZE⟩ := C.great
  refine F.ok scIsSizes (fun vs H Q E h => ?_) (fun cdv A outer s H vs Q E hr h => ?_)
  · obtain ⟨a, ns, rfl, _⟩ := h
    rfl
  · obtain ⟨a, ns, rfl, ⟨hs, hl, hb⟩, q⟩ := h
    refine ⟨_, (pss_cons (ps_if (PW.pt (pw_or (pt_not (pt_val (pe_callB (call_isiD "list") (by rfl) T.isi (by decide +kernel) (pa_cons (pv 0) (pa_cons (pe_bltn (v := .ty "list") (by rfl) T.list (by decide +kernel) rfl) pa_nil))))) (pw_or1 (pt_cmpR op_gt (pe_callB call_len_seq (by rfl) T.len PySem.boot_len (pa_cons (pv 0) pa_nil)) (pe_glob (v := .int 24) rfl m_MOST_FIELDS ⟨_, rfl⟩) (nomark _))))) (pss_one (ps_ret pe_bl))
        pss_nil)
      (pss_one (ps_ret (pe_callB (cr_all rfl) (by rfl) T.all (by decide +kernel) (pa_cons (pe_lc (own := [("size", 1)]) (g := gName 1) (tt := tYes) rfl scIsSizes.nd (pi_list (pv 0))
          (blkOk_by (own := [("size", 1)]) (N := ["value", "size"]) (sc := defScope sIsSizes) (by decide +kernel)) (fun _ _ _ _ _ => pg_name (i := 1) scIsSizes.nd rfl (Or.inl rfl)) (fun _ _ _ _ _ => pts_nil)
          (fun _ _ _ _ _ => (pe_and (hc G_is_integer hr (by rfl) (pa_cons (pv 1) pa_nil)) (pe_one (pe_chain op_le op_le (pe_glob (v := .int 2) rfl m_LEAST_SIZE ⟨_, rfl⟩) (pv 1) (pe_glob (v := .int 6) rfl m_GREATEST_SIZE ⟨_, rfl⟩)))))) pa_nil))))), ?_⟩
    refine ⟨_, rfl, _, _, rfl, Dp.of_set hs, _, rfl, iteF ?_⟩
    refine ⟨_, rfl, a, _, rfl, .inl hs, _, _, rfl, rfl, _, rfl, ?_⟩
    rw [decide_eq_false (by rw [List.length_map]; omega)]
    refine iteF ⟨_, rfl, a, rfl, ⟨_, hs⟩, fun D nD => ?_⟩
    refine lc_list (K := K) (a := a) (xs := ns.map natV) (PvA H D fun i => (List.replicate i true).map V.bl) (PvA.start nD rfl) (fun i H' _ p => p.1.seq hs) ?_ ?_
    · rintro i x H' hx p
      rw [List.getElem?_map] at hx
      obtain ⟨n, hn, rfl⟩ := Option.map_eq_some_iff.mp hx
      have b := hb n (List.mem_of_getElem? hn)
      have lt := (List.getElem?_eq_some_iff.mp hn).1
      refine ⟨rfl, ?_⟩
      refine ⟨_, rfl, natV n, .int n, rfl, .int _, _, rfl, iteT ⟨_, rfl, _, _, rfl, rfl, _, rfl, ite2 (fun _ => ?_) (fun e => absurd (decide_eq_true (show (2 : Int) ≤ (n : Int) by omega)) e)⟩⟩
      refine ⟨_, _, rfl, rfl, ?_⟩
      exact p.keep nD (Same.refl _) (by rw [List.length_map, List.length_replicate]; omega) (show (List.replicate (i + 1) true).map V.bl = (List.replicate i true).map V.bl ++ [V.bl (decide ((n : Int) ≤ 6))] by
        rw [decide_eq_true (by omega), List.replicate_succ', List.map_append]
        rfl)
    · rintro H1 ⟨sm, eD⟩
      refine ⟨D, List.replicate (ns.map natV).length true, rfl, .inl (.inl eD), ?_⟩
      rw [show (List.replicate (ns.map natV).length true).all id = true by
        rw [List.all_eq_true]
        intro x hx
        rw [List.eq_of_mem_replicate hx]
        rfl]
      exact q H1 sm
theorem scCheckSizes : FnScope ["sizes"] ["sizes"] (defScope sCheckSizes) := ⟨rfl, rfl, rfl, by decide +kernel, rfl, by decide +kernel, by decide +kernel⟩
def spCheckSizes (K : PySem.W.Frag) : Sp := fun vs H Q _ => ∃ (a : Addr) (ns : List Nat), vs = [.ref a] ∧ SizesN K H a ns ∧ ∀ H', Same H H' → Q .non H'
theorem ok_checkSizes {f : Addr} {fd : FuncData} {k : Nat} (F : Fun K "check_sizes" "check_sizes" sCheckSizes f fd) (G_is_sizes : Has P w K mg base k "is_sizes" ["value"] (spIsSizes K)) : FnOk P w K mg base CX0 (k + 1) f fd ["sizes"] (spCheckSizes K) := by
  refine F.ok scCheckSizes (fun vs H Q E h => ?_) (fun cdv A outer s H vs Q E hr h => ?_)
  · obtain ⟨a, ns, rfl, _⟩ := h
    rfl
  · obtain ⟨a, ns, rfl, hs, q⟩ := h
    refine ⟨_, (pss_one (ps_if (pt_not (pt_val (hc G_is_sizes hr (by rfl) (pa_cons (pv 0) pa_nil)))) (pss_one ps_never)
        pss_nil)), ?_⟩
    exact ⟨.ref a, rfl, a, ns, rfl, hs, fun H' sm => ⟨_, rfl, iteF (q H' sm)⟩⟩
end
end Fa
namespace Fa
open PySem PySem.Spec PyProof.Rows L2 Lk
abbrev sIsHalf : Stmt := top 20
abbrev sIsCase : Stmt := top 21
abbrev sCheckCase : Stmt := top 22
def CaseN (K : PySem.W.Frag) (H : Hp) (b : Addr) (ns cs : List Nat) : Prop := SqL K H b (cs.map natV) ∧ RowN ns cs
section
variable {P : Program} {w : World} {K : PySem.W.Frag} {mg : Str → Option Value} {base : Heap}
theorem CaseN.sm {H H' : Hp} {a : Addr} {ns cs : List Nat} (s : Same H H') (h : CaseN K H a ns cs) : CaseN K H' a ns cs := ⟨s.seq h.1, h.2⟩
theorem inV_nats : ∀ vs : List Nat, inV V.non (vs.map natV) = false
  | [] => rfl
  | v :: vs => by
    have ih := inV_nats vs
    unfold inV at ih ⊢
    rw [List.map_cons, List.any_cons, ih]
    rfl
/-! ### is_half_case, is_case, check_case, of a case -/
theorem scIsHalf : FnScope ["sizes", "value", "at"] ["sizes", "value"] (defScope sIsHalf) := ⟨rfl, rfl, rfl, by decide +kernel, rfl, by decide +kernel, by decide +kernel⟩
def spIsHalf (K : PySem.W.Frag) : Sp := fun vs H Q _ => ∃ (a b : Addr) (ns cs : List Nat), vs = [.ref a, .ref b] ∧ SizesN K H a ns ∧ CaseN K H b ns cs ∧ ∀ H', Same H H' → Q (.bl true) H'
theorem ok_isHalf {f : Addr} {fd : FuncData} {k : Nat} (F : Fun K "is_half_case" "is_half_case" sIsHalf f fd) (T : Txt mg) (G_is_integer_below : Has P w K mg base k "is_integer_below" ["value", "limit"] (spBelow K)) : FnOk P w K mg base CX0 (k + 1) f fd ["sizes", "value"] (spIsHalf K) := by
  refine F.ok scIsHalf (fun vs H Q E h => ?_) (fun cdv A outer s H vs Q E hr h => ?_)
  · obtain ⟨a, b, ns, cs, rfl, _⟩ := h
    rfl
  · obtain ⟨a, b, ns, cs, rfl, ⟨hs, hl, hb⟩, ⟨hc', hR⟩, q⟩ := h
    refine ⟨_, (pss_cons (ps_if (PW.pt (pw_or (pt_not (pt_val (pe_callB (call_isiD "list") (by rfl) T.isi (by decide +kernel) (pa_cons (pv 1) (pa_cons (pe_bltn (v := .ty "list") (by rfl) T.list (by decide +kernel) rfl) pa_nil))))) (pw_or1 (pt_cmpR op_ne (pe_callB call_len_seq (by rfl) T.len PySem.boot_len (pa_cons (pv 1) pa_nil)) (pe_callB call_len_seq (by rfl) T.len PySem.boot_len (pa_cons (pv 0) pa_nil)) (nomark _))))) (pss_one (ps_ret pe_bl))
        pss_nil)
      (pss_one (ps_ret (pe_callB (cr_all rfl) (by rfl) T.all (by decide +kernel) (pa_cons (pe_lc (own := [("at", 2)]) (g := gName 2) (tt := tYes) rfl scIsHalf.nd (pi_range1 rfl T.range (pa_cons (pe_callB call_len_seq (by rfl) T.len PySem.boot_len (pa_cons (pv 0) pa_nil)) pa_nil))
          (blkOk_by (own := [("at", 2)]) (N := ["sizes", "value", "at"]) (sc := defScope sIsHalf) (by decide +kernel)) (fun _ _ _ _ _ => pg_name (i := 2) scIsHalf.nd rfl (Or.inl rfl)) (fun _ _ _ _ _ => pts_nil)
          (fun _ _ _ _ _ => (pe_or (pe_cmpR op_isN (pe_ix (r := rIxL K) ix_list (pv 1) (pv 2) (fun _ _ => rfl)) pe_non (nomark _)) (pe_one (hc G_is_integer_below hr (by rfl) (pa_cons (pe_ix (r := rIxL K) ix_list (pv 1) (pv 2) (fun _ _ => rfl)) (pa_cons (pe_ix (r := rIxL K) ix_list (pv 0) (pv 2) (fun _ _ => rfl)) pa_nil))))))) pa_nil))))), ?_⟩
    refine ⟨_, rfl, _, _, rfl, Dp.of_set hc', _, rfl, iteF ?_⟩
    refine ⟨_, rfl, b, _, rfl, .inl hc', _, rfl, a, _, rfl, .inl hs, rfl, _, rfl, iteNS ?_ ?_⟩
    · rw [List.length_map, List.length_map, hR.1]
    refine ⟨_, rfl, a, _, rfl, .inl hs, (ns.length : Int), by rw [List.length_map], by omega, by omega, fun D nD => ?_⟩
    refine lc_range (lo := 0) (n := ((ns.length : Nat) : Int).toNat) (PvA H D fun i => (List.replicate i true).map V.bl) (PvA.start nD rfl) ?_ ?_
    · rintro i H' hi p
      have lt : i < ns.length := by omega
      have lt2 : i < cs.length := by rw [hR.1]; exact lt
      have bc := hR.2 i _ _ (List.getElem?_eq_getElem lt) (List.getElem?_eq_getElem lt2)
      refine ⟨rfl, ?_⟩
      refine ⟨_, rfl, _, rfl, b, _, _, _, rfl, rfl, p.1.seq hc', at_z (nat_at lt2), rfl, _, rfl, iteF ?_⟩
      refine ⟨_, rfl, _, rfl, b, _, _, _, rfl, rfl, p.1.seq hc', at_z (nat_at lt2), _, rfl, _, rfl, a, _, _, _, rfl, rfl, p.1.seq hs, at_z (nat_at lt), _, .int _, _, rfl, .int _, ?_⟩
      rw [show belowD (.int ((cs[i] : Nat) : Int)) ((ns[i] : Nat) : Int) = true by
        show (decide ((0 : Int) ≤ ((cs[i] : Nat) : Int)) && decide (((cs[i] : Nat) : Int) < ((ns[i] : Nat) : Int))) = true
        rw [decide_eq_true (by omega), decide_eq_true (by omega)]
        rfl]
      exact p.keep nD (Same.refl _) (by rw [List.length_map, List.length_replicate]; omega) (by
        show (List.replicate (i + 1) true).map V.bl = _
        rw [List.replicate_succ', List.map_append]
        rfl)
    · rintro H1 ⟨sm, eD⟩
      refine ⟨D, List.replicate ((ns.length : Nat) : Int).toNat true, rfl, .inl (.inl eD), ?_⟩
      rw [show (List.replicate ((ns.length : Nat) : Int).toNat true).all id = true by
        rw [List.all_eq_true]
        intro x hx
        rw [List.eq_of_mem_replicate hx]
        rfl]
      exact q H1 sm
theorem scIsCase : FnScope ["sizes", "value"] ["sizes", "value"] (defScope sIsCase) := ⟨rfl, rfl, rfl, by decide +kernel, rfl, by decide +kernel, by decide +kernel⟩
theorem ok_isCase {f : Addr} {fd : FuncData} {k : Nat} (F : Fun K "is_case" "is_case" sIsCase f fd) (G_is_half_case : Has P w K mg base k "is_half_case" ["sizes", "value"] (spIsHalf K)) : FnOk P w K mg base CX0 (k + 1) f fd ["sizes", "value"] (spIsHalf K) := by
  refine F.ok scIsCase (fun vs H Q E h => ?_) (fun cdv A outer s H vs Q E hr h => ?_)
  · obtain ⟨a, b, ns, cs, rfl, _⟩ := h
    rfl
  · obtain ⟨a, b, ns, cs, rfl, hs, hc', q⟩ := h
    refine ⟨_, (pss_one (ps_ret (pe_and (hc G_is_half_case hr (by rfl) (pa_cons (pv 0) (pa_cons (pv 1) pa_nil))) (pe_one (pe_cmpR op_notIn_seq pe_non (pv 1) (by rfl)))))), ?_⟩
    refine ⟨_, rfl, _, rfl, a, b, ns, cs, rfl, hs, hc', fun H' sm => ⟨_, rfl, iteT ?_⟩⟩
    refine ⟨_, rfl, b, _, rfl, .inl (sm.seq hc'.1), rfl, ?_, ?_⟩
    · rw [List.all_eq_true]
      intro x hx
      obtain ⟨i, _, rfl⟩ := List.mem_map.mp hx
      rfl
    · show Q (.bl (!inV V.non (cs.map natV))) H'
      rw [inV_nats]
      exact q H' sm
theorem scCheckCase : FnScope ["sizes", "case"] ["sizes", "case"] (defScope sCheckCase) := ⟨rfl, rfl, rfl, by decide +kernel, rfl, by decide +kernel, by decide +kernel⟩
def spCheckCase (K : PySem.W.Frag) : Sp := fun vs H Q _ => ∃ (a b : Addr) (ns cs : List Nat), vs = [.ref a, .ref b] ∧ SizesN K H a ns ∧ CaseN K H b ns cs ∧ ∀ H', Same H H' → Q .non H'
theorem ok_checkCase {f : Addr} {fd : FuncData} {k : Nat} (F : Fun K "check_case" "check_case" sCheckCase f fd) (G_is_case : Has P w K mg base k "is_case" ["sizes", "value"] (spIsHalf K)) : FnOk P w K mg base CX0 (k + 1) f fd ["sizes", "case"] (spCheckCase K) := by
  refine F.ok scCheckCase (fun vs H Q E h => ?_) (fun cdv A outer s H vs Q E hr h => ?_)
  · obtain ⟨a, b, ns, cs, rfl, _⟩ := h
    rfl
  · obtain ⟨a, b, ns, cs, rfl, hs, hc', q⟩ := h
    refine ⟨_, (pss_one (ps_if (pt_not (pt_val (hc G_is_case hr (by rfl) (pa_cons (pv 0) (pa_cons (pv 1) pa_nil))))) (pss_one ps_never)
        pss_nil)), ?_⟩
    exact ⟨_, rfl, _, rfl, a, b, ns, cs, rfl, hs, hc', fun H' sm => ⟨_, rfl, iteF (q H' sm)⟩⟩
end
end Fa
namespace Fa
open PySem PySem.Spec PyProof.Rows L2 Lk
abbrev sTupleOf : Stmt := top 33
abbrev sAreInts : Stmt := top 39
abbrev sWeights : Stmt := top 38
abbrev sLong : Stmt := top 32
abbrev sOutside : Stmt := top 30
abbrev sInner : Stmt := top 27
abbrev sShape : Stmt := top 28
abbrev sCheckForm : Stmt := top 42
abbrev sCheckCard : Stmt := top 46
def joins : List V := [.str "and", .str "or", .str "odd"]
def JW (K : PySem.W.Frag) (mg : Str → Option Value) : Prop := ∃ t, mg "JOINING_WORDS" = some (.ref t) ∧ ∀ H, SqT K H t joins
section
variable {P : Program} {w : World} {K : PySem.W.Frag} {mg : Str → Option Value} {base : Heap}
theorem Dp.len_eq {v : V} {r : List Int} (_h : Dp K H v (rowT r)) : True := trivial
/-! ### _is_tuple_of, _are_integers, _is_weights, of what is right -/
theorem scTupleOf : FnScope ["value", "length"] ["value", "length"] (defScope sTupleOf) := ⟨rfl, rfl, rfl, by decide +kernel, rfl, by decide +kernel, by decide +kernel⟩
def spTupleOf (K : PySem.W.Frag) : Sp := fun vs H Q _ => ∃ (a : Addr) (xs : List V) (ds : List PyData), vs = [.ref a, .int (xs.length : Int)] ∧ SqT K H a xs ∧ Dp K H (.ref a) (.tuple ds) ∧ Q (.bl true) H
theorem ok_tupleOf {f : Addr} {fd : FuncData} {k : Nat} (F : Fun K "_is_tuple_of" "_is_tuple_of" sTupleOf f fd) (T : Txt mg) : FnOk P w K mg base CX0 (k + 1) f fd ["value", "length"] (spTupleOf K) := by
  refine F.ok scTupleOf (fun vs H Q E h => ?_) (fun cdv A outer s H vs Q E hr h => ?_)
  · obtain ⟨a, xs, ds, rfl, _⟩ := h
    rfl
  · obtain ⟨a, xs, ds, rfl, hs, hd, q⟩ := h
    refine ⟨_, (pss_one (ps_ret (pe_and (pe_callB (call_isiD "tuple") (by rfl) T.isi (by decide +kernel) (pa_cons (pv 0) (pa_cons (pe_bltn (v := .ty "tuple") (by rfl) T.tuple (by decide +kernel) rfl) pa_nil))) (pe_one (pe_cmpR op_eq (pe_callB call_len_seq (by rfl) T.len PySem.boot_len (pa_cons (pv 0) pa_nil)) (pv 1) (nomark _)))))), ?_⟩
    refine ⟨_, rfl, _, _, rfl, hd, _, rfl, iteT ⟨_, rfl, a, _, rfl, .inr hs, _, rfl, rfl, ?_⟩⟩
    rw [decide_eq_true rfl]
    exact q
theorem scAreInts : FnScope ["values", "value"] ["values"] (defScope sAreInts) := ⟨rfl, rfl, rfl, by decide +kernel, rfl, by decide +kernel, by decide +kernel⟩
def spAreInts (K : PySem.W.Frag) : Sp := fun vs H Q _ => ∃ (a : Addr) (r : List Int), vs = [.ref a] ∧ SqT K H a (r.map V.int) ∧ r.length ≤ 1000 ∧ ∀ H', Same H H' → Q (.bl true) H'
theorem ok_areInts {f : Addr} {fd : FuncData} {k : Nat} (F : Fun K "_are_integers" "_are_integers" sAreInts f fd) (T : Txt mg) (G_is_integer : Has P w K mg base k "is_integer" ["value"] (spIsInteger K)) : FnOk P w K mg base CX0 (k + 1) f fd ["values"] (spAreInts K) := by
  refine F.ok scAreInts (fun vs H Q E h => ?_) (fun cdv A outer s H vs Q E hr h => ?_)
  · obtain ⟨a, r, rfl, _⟩ := h
    rfl
  · obtain ⟨a, r, rfl, hs, hl, q⟩ := h
    refine ⟨_, (pss_one (ps_ret (pe_callB (cr_all rfl) (by rfl) T.all (by decide +kernel) (pa_cons (pe_lc (own := [("value", 1)]) (g := gName 1) (tt := tYes) rfl scAreInts.nd (pi_tup (pv 0))
          (blkOk_by (own := [("value", 1)]) (N := ["values", "value"]) (sc := defScope sAreInts) (by decide +kernel)) (fun _ _ _ _ _ => pg_name (i := 1) scAreInts.nd rfl (Or.inl rfl)) (fun _ _ _ _ _ => pts_nil)
          (fun _ _ _ _ _ => (hc G_is_integer hr (by rfl) (pa_cons (pv 1) pa_nil)))) pa_nil)))), ?_⟩
    refine ⟨_, rfl, a, rfl, ⟨_, hs⟩, fun D nD => ?_⟩
    refine lc_tup (K := K) (a := a) (xs := r.map V.int) (PvA H D fun i => (List.replicate i true).map V.bl) (PvA.start nD rfl) (fun i H' _ p => Same.tup p.1 hs) ?_ ?_
    · rintro i x H' hx p
      have lt := (List.getElem?_eq_some_iff.mp hx).1
      rw [List.getElem?_map] at hx
      obtain ⟨c, hc', rfl⟩ := Option.map_eq_some_iff.mp hx
      rw [List.length_map] at lt
      refine ⟨rfl, ?_⟩
      refine ⟨_, rfl, _, .int c, rfl, .int _, ?_⟩
      exact p.keep nD (Same.refl _) (by rw [List.length_map, List.length_replicate]; omega) (by
        show (List.replicate (i + 1) true).map V.bl = _
        rw [List.replicate_succ', List.map_append]
        rfl)
    · rintro H1 ⟨sm, eD⟩
      refine ⟨D, List.replicate (r.map V.int).length true, rfl, .inl (.inl eD), ?_⟩
      rw [show (List.replicate (r.map V.int).length true).all id = true by
        rw [List.all_eq_true]
        intro x hx
        rw [List.eq_of_mem_replicate hx]
        rfl]
      exact q H1 sm
theorem scWeights : FnScope ["sizes", "value", "at"] ["sizes", "value"] (defScope sWeights) := ⟨rfl, rfl, rfl, by decide +kernel, rfl, by decide +kernel, by decide +kernel⟩
def spWeights (K : PySem.W.Frag) : Sp := fun vs H Q _ => ∃ (a : Addr) (v : V) (ns : List Nat) (W : List (List Int)), vs = [.ref a, v] ∧ SizesN K H a ns ∧ Dp K H v (wD W) ∧ CardN ns W ∧ ∀ H', Same H H' → Q (.bl true) H'
theorem ok_weights {f : Addr} {fd : FuncData} {k : Nat} (F : Fun K "_is_weights" "_is_weights" sWeights f fd) (T : Txt mg) (G__is_tuple_of : Has P w K mg base k "_is_tuple_of" ["value", "length"] (spTupleOf K)) (G__are_integers : Has P w K mg base k "_are_integers" ["values"] (spAreInts K)) :
    FnOk P w K mg base CX0 (k + 1) f fd ["sizes", "value"] (spWeights K) := by
  refine F.ok scWeights (fun vs H Q E h => ?_) (fun cdv A outer s H vs Q E hr h => ?_)
  · obtain ⟨a, v, ns, W, rfl, _⟩ := h
    rfl
  · obtain ⟨a, v, ns, W, rfl, ⟨hs, hl, hb⟩, hW, hC, q⟩ := h
    refine ⟨_, (pss_cons (ps_if (pt_not (pt_val (hc G__is_tuple_of hr (by rfl) (pa_cons (pv 1) (pa_cons (pe_callB call_len_seq (by rfl) T.len PySem.boot_len (pa_cons (pv 0) pa_nil)) pa_nil))))) (pss_one (ps_ret pe_bl))
        pss_nil)
      (pss_one (ps_ret (pe_callB (cr_all rfl) (by rfl) T.all (by decide +kernel) (pa_cons (pe_lc (own := [("at", 2)]) (g := gName 2) (tt := tYes) rfl scWeights.nd (pi_range1 rfl T.range (pa_cons (pe_callB call_len_seq (by rfl) T.len PySem.boot_len (pa_cons (pv 0) pa_nil)) pa_nil))
          (blkOk_by (own := [("at", 2)]) (N := ["sizes", "value", "at"]) (sc := defScope sWeights) (by decide +kernel)) (fun _ _ _ _ _ => pg_name (i := 2) scWeights.nd rfl (Or.inl rfl)) (fun _ _ _ _ _ => pts_nil)
          (fun _ _ _ _ _ => (pe_and (hc G__is_tuple_of hr (by rfl) (pa_cons (pe_ix (r := rIxT K) ix_tup (pv 1) (pv 2) (fun _ _ => rfl)) (pa_cons (pe_ix (r := rIxL K) ix_list (pv 0) (pv 2) (fun _ _ => rfl)) pa_nil))) (pe_one (hc G__are_integers hr (by rfl) (pa_cons (pe_ix (r := rIxT K) ix_tup (pv 1) (pv 2) (fun _ _ => rfl)) pa_nil)))))) pa_nil))))), ?_⟩
    have hW0 := hW
    obtain ⟨qa, xs, rfl, hq, lx, hx⟩ := Dp.w_of hW
    have ln : xs.length = ns.length := by rw [lx, hC.1]
    refine ⟨_, rfl, _, rfl, a, _, rfl, .inl hs, qa, xs, _, ?_, hq, hW0, _, rfl, iteF ?_⟩
    · rw [List.length_map, ← ln]
      rfl
    refine ⟨_, rfl, a, _, rfl, .inl hs, (ns.length : Int), by rw [List.length_map], by omega, by omega, fun D nD => ?_⟩
    refine lc_range (lo := 0) (n := ((ns.length : Nat) : Int).toNat) (PvA H D fun i => (List.replicate i true).map V.bl) (PvA.start nD rfl) ?_ ?_
    · rintro i H' hi p
      have lt : i < ns.length := by omega
      have lt2 : i < xs.length := by omega
      obtain ⟨r, t, hr', ex, ht⟩ := hx i _ (List.getElem?_eq_getElem lt2)
      have gx : xs[i]? = some (.ref t) := by rw [List.getElem?_eq_getElem lt2, ex]
      have el := hC.2.1 i _ _ (List.getElem?_eq_getElem lt) hr'
      have ht' := Same.tup p.1 ht
      have hq' := Same.tup p.1 hq
      have bn := hb _ (List.getElem_mem lt)
      refine ⟨rfl, ?_⟩
      refine ⟨_, rfl, _, rfl, qa, _, _, _, rfl, rfl, hq', at_z gx, _, rfl, _, rfl, a, _, _, _, rfl, rfl, p.1.seq hs, at_z (show (ns.map natV)[i]? = some (natV ns[i]) by rw [List.getElem?_map, List.getElem?_eq_getElem lt]; rfl), t, r.map V.int, r.map PyData.int, ?_, ht', Dp.of_row ht', _, rfl, iteT ?_⟩
      · rw [List.length_map, el]
        rfl
      refine ⟨_, rfl, _, rfl, qa, _, _, _, rfl, rfl, hq', at_z gx, t, r, rfl, ht', by omega, fun H2 s2 => ?_⟩
      exact p.keep nD s2 (by rw [List.length_map, List.length_replicate]; omega) (by
        show (List.replicate (i + 1) true).map V.bl = _
        rw [List.replicate_succ', List.map_append]
        rfl)
    · rintro H1 ⟨sm, eD⟩
      refine ⟨D, List.replicate ((ns.length : Nat) : Int).toNat true, rfl, .inl (.inl eD), ?_⟩
      rw [show (List.replicate ((ns.length : Nat) : Int).toNat true).all id = true by
        rw [List.all_eq_true]
        intro x hx
        rw [List.eq_of_mem_replicate hx]
        rfl]
      exact q H1 sm
/-! ### the shape of a card -/
def CardArgs (K : PySem.W.Frag) (H : Hp) (a : Addr) (v : V) (ns : List Nat) (W : List (List Int)) (bd : Int) : Prop := SizesN K H a ns ∧ Dp K H v (cardD W bd) ∧ CardN ns W
theorem CardArgs.sm {H H' : Hp} {a : Addr} {v : V} {ns : List Nat} {W : List (List Int)} {bd : Int} (s : Same H H') (h : CardArgs K H a v ns W bd) : CardArgs K H' a v ns W bd := ⟨h.1.sm s, Dp.sm s h.2.1, h.2.2⟩
theorem scLong : FnScope ["sizes", "word", "part", "second_part"] ["sizes", "word", "part", "second_part"] (defScope sLong) := ⟨rfl, rfl, rfl, by decide +kernel, rfl, by decide +kernel, by decide +kernel⟩
def spLong (K : PySem.W.Frag) : Sp := fun vs H Q _ => ∃ (a : Addr) (v : V) (ns : List Nat) (W : List (List Int)) (bd : Int), vs = [.ref a, .str "card", v, .int bd] ∧ SizesN K H a ns ∧ Dp K H v (wD W) ∧ CardN ns W ∧ ∀ H', Same H H' → Q (.bl true) H'
theorem ok_long {f : Addr} {fd : FuncData} {k : Nat} (F : Fun K "_is_long_form_outside" "_is_long_form_outside" sLong f fd) (G__is_weights : Has P w K mg base k "_is_weights" ["sizes", "value"] (spWeights K)) (G_is_integer : Has P w K mg base k "is_integer" ["value"] (spIsInteger K)) :
    FnOk P w K mg base CX0 (k + 1) f fd ["sizes", "word", "part", "second_part"] (spLong K) := by
  refine F.ok scLong (fun vs H Q E h => ?_) (fun cdv A outer s H vs Q E hr h => ?_)
  · obtain ⟨a, v, ns, W, bd, rfl, _⟩ := h
    rfl
  · obtain ⟨a, v, ns, W, bd, rfl, hS, hW, hC, q⟩ := h
    refine ⟨_, (pss_cons (ps_if (pt_cmpR op_eq (pv 1) pe_str (nomark _)) (pss_one ps_never) pss_nil)
      (pss_cons (ps_if (pt_cmpR op_eq (pv 1) pe_str (nomark _)) (pss_one ps_never) pss_nil)
      (pss_cons (ps_if (pt_cmpR op_eq (pv 1) pe_str (nomark _)) (pss_one ps_never) pss_nil)
      (pss_one (ps_ret (pe_and (pe_cmpR op_eq (pv 1) pe_str (nomark _)) (pe_and (hc G__is_weights hr (by rfl) (pa_cons (pv 0) (pa_cons (pv 2) pa_nil))) (pe_one (hc G_is_integer hr (by rfl) (pa_cons (pv 3) pa_nil)))))))))), ?_⟩
    refine ⟨_, rfl, rfl, _, rfl, ?_⟩
    rw [Fa.dec_str, decide_eq_false (by decide +kernel)]
    refine iteF ⟨_, rfl, rfl, _, rfl, ?_⟩
    rw [Fa.dec_str, decide_eq_false (by decide +kernel)]
    refine iteF ⟨_, rfl, rfl, _, rfl, ?_⟩
    rw [Fa.dec_str, decide_eq_false (by decide +kernel)]
    refine iteF ⟨_, rfl, rfl, _, rfl, ?_⟩
    rw [Fa.dec_str, decide_eq_true rfl]
    refine iteT ⟨_, rfl, _, rfl, a, v, ns, W, rfl, hS, hW, hC, fun H1 s1 => ⟨_, rfl, iteT ?_⟩⟩
    exact ⟨_, rfl, _, .int bd, rfl, .int _, q H1 s1⟩
theorem scOutside : FnScope ["sizes", "value"] ["sizes", "value"] (defScope sOutside) := ⟨rfl, rfl, rfl, by decide +kernel, rfl, by decide +kernel, by decide +kernel⟩
def spOutside (K : PySem.W.Frag) : Sp := fun vs H Q _ => ∃ (a : Addr) (v : V) (ns : List Nat) (W : List (List Int)) (bd : Int), vs = [.ref a, v] ∧ CardArgs K H a v ns W bd ∧ ∀ H', Same H H' → Q (.bl true) H'
theorem ok_outside {f : Addr} {fd : FuncData} {k : Nat} (F : Fun K "_is_form_outside" "_is_form_outside" sOutside f fd) (T : Txt mg) (G__is_long_form_outside : Has P w K mg base k "_is_long_form_outside" ["sizes", "word", "part", "second_part"] (spLong K)) :
    FnOk P w K mg base CX0 (k + 1) f fd ["sizes", "value"] (spOutside K) := by
  refine F.ok scOutside (fun vs H Q E h => ?_) (fun cdv A outer s H vs Q E hr h => ?_)
  · obtain ⟨a, v, ns, W, bd, rfl, _⟩ := h
    rfl
  · obtain ⟨a, v, ns, W, bd, rfl, ⟨hS, hd, hC⟩, q⟩ := h
    refine ⟨_, (pss_cons (ps_if (PW.pt (pw_or (pt_not (pt_val (pe_callB (call_isiD "tuple") (by rfl) T.isi (by decide +kernel) (pa_cons (pv 1) (pa_cons (pe_bltn (v := .ty "tuple") (by rfl) T.tuple (by decide +kernel) rfl) pa_nil))))) (pw_or (pt_cmpR op_eq (pe_callB call_len_seq (by rfl) T.len PySem.boot_len (pa_cons (pv 1) pa_nil)) pe_int (nomark _)) (pw_or1 (pt_not (pt_val (pe_callB (call_isiD "str") (by rfl) T.isi (by decide +kernel) (pa_cons (pe_ix ix_tup (pv 1) pe_int (fun _ _ => rfl)) (pa_cons (pe_bltn (v := .ty "str") (by rfl) T.str (by decide +kernel) rfl) pa_nil))))))))) (pss_one (ps_ret pe_bl))
        pss_nil)
      (pss_cons (ps_if (pt_cmpR op_eq (pe_callB call_len_seq (by rfl) T.len PySem.boot_len (pa_cons (pv 1) pa_nil)) pe_int (nomark _)) (pss_one ps_never) pss_nil)
      (pss_one (ps_ret (pe_and (pe_cmpR op_eq (pe_callB call_len_seq (by rfl) T.len PySem.boot_len (pa_cons (pv 1) pa_nil)) pe_int (nomark _)) (pe_one (hc G__is_long_form_outside hr (by rfl) (pa_cons (pv 0) (pa_cons (pe_ix ix_tup (pv 1) pe_int (fun _ _ => rfl)) (pa_cons (pe_ix ix_tup (pv 1) pe_int (fun _ _ => rfl)) (pa_cons (pe_ix ix_tup (pv 1) pe_int (fun _ _ => rfl)) pa_nil))))))))))), ?_⟩
    have hd0 := hd
    obtain ⟨p, qa, rfl, hp, hq⟩ := Dp.card_of hd
    refine ⟨_, rfl, _, _, rfl, hd0, _, rfl, iteF ?_⟩
    refine ⟨_, rfl, p, _, rfl, .inr hp, rfl, _, rfl, ?_⟩
    rw [show decide (V.int (([V.str "card", V.ref qa, V.int bd].length : Nat) : Int) = V.int 0) = false by rw [decide_eq_false (fun z => by cases V.int.inj z)]]
    refine iteF ⟨_, rfl, p, _, _, _, rfl, rfl, hp, rfl, .str "card", .str "card", rfl, .str _, _, rfl, iteF ?_⟩
    refine ⟨_, rfl, p, _, rfl, .inr hp, rfl, _, rfl, ?_⟩
    rw [show decide (V.int (([V.str "card", V.ref qa, V.int bd].length : Nat) : Int) = V.int 2) = false by rw [decide_eq_false (fun z => by cases V.int.inj z)]]
    refine iteF ⟨_, rfl, p, _, rfl, .inr hp, rfl, _, rfl, ?_⟩
    rw [show decide (V.int (([V.str "card", V.ref qa, V.int bd].length : Nat) : Int) = V.int 3) = true from decide_eq_true rfl]
    refine iteT ⟨_, rfl, _, rfl, p, _, _, _, rfl, rfl, hp, rfl, _, rfl, p, _, _, _, rfl, rfl, hp, rfl, _, rfl, p, _, _, _, rfl, rfl, hp, rfl, a, .ref qa, ns, W, bd, rfl, hS, hq, hC, fun H1 s1 => q H1 s1⟩
theorem scInner : FnScope ["form"] ["form"] (defScope sInner) := ⟨rfl, rfl, rfl, by decide +kernel, rfl, by decide +kernel, by decide +kernel⟩
def spInner (K : PySem.W.Frag) : Sp := fun vs H Q _ => ∃ (v : V) (W : List (List Int)) (bd : Int), vs = [v] ∧ Dp K H v (cardD W bd) ∧ ∀ H' p, Same H H' → H' p = some (.tup []) → Q (.ref p) H'
theorem ok_inner {f : Addr} {fd : FuncData} {k : Nat} (F : Fun K "inner_forms" "inner_forms" sInner f fd) (J : JW K mg) : FnOk P w K mg base CX0 (k + 1) f fd ["form"] (spInner K) := by
  obtain ⟨t, hj, hJ⟩ := J
  refine F.ok scInner (fun vs H Q E h => ?_) (fun cdv A outer s H vs Q E hr h => ?_)
  · obtain ⟨v, W, bd, rfl, _⟩ := h
    rfl
  · obtain ⟨v, W, bd, rfl, hd, q⟩ := h
    refine ⟨_, (pss_cons (ps_if (pt_cmpR op_eq (pe_ix ix_tup (pv 0) pe_int (fun _ _ => rfl)) pe_str (nomark _)) (pss_one ps_never) pss_nil)
      (pss_cons (ps_if (pt_cmpR op_eq (pe_ix ix_tup (pv 0) pe_int (fun _ _ => rfl)) pe_str (nomark _)) (pss_one ps_never) pss_nil)
      (pss_cons (ps_if (pt_cmpR op_in_seq (pe_ix ix_tup (pv 0) pe_int (fun _ _ => rfl)) (pe_glob (v := .ref t) rfl hj rfl) (by rfl)) (pss_one ps_never) pss_nil)
      (pss_one (ps_ret (pe_tupN pa_nil)))))), ?_⟩
    obtain ⟨p, qa, rfl, hp, hq⟩ := Dp.card_of hd
    refine ⟨_, rfl, p, _, _, _, rfl, rfl, hp, rfl, rfl, _, rfl, ?_⟩
    rw [Fa.dec_str, decide_eq_false (by decide +kernel)]
    refine iteF ⟨_, rfl, p, _, _, _, rfl, rfl, hp, rfl, rfl, _, rfl, ?_⟩
    rw [Fa.dec_str, decide_eq_false (by decide +kernel)]
    refine iteF ⟨_, rfl, p, _, _, _, rfl, rfl, hp, rfl, t, _, rfl, .inr (hJ H), rfl, rfl, _, rfl, ?_⟩
    rw [show inV (V.str "card") joins = false by decide +kernel]
    exact iteF ⟨by show 0 ≤ sizeLine; decide, fun pt H' s1 n1 e1 => q H' pt s1 e1⟩
theorem scShape : FnScope ["sizes", "value", "left", "part"] ["sizes", "value"] (defScope sShape) := ⟨rfl, rfl, rfl, by decide +kernel, rfl, by decide +kernel, by decide +kernel⟩
theorem ok_shape {f : Addr} {fd : FuncData} {k : Nat} (F : Fun K "has_form_shape" "has_form_shape" sShape f fd) (G__is_form_outside : Has P w K mg base k "_is_form_outside" ["sizes", "value"] (spOutside K)) (G_inner_forms : Has P w K mg base k "inner_forms" ["form"] (spInner K)) :
    FnOk P w K mg base CX0 (k + 1) f fd ["sizes", "value"] (spOutside K) := by
  refine F.ok scShape (fun vs H Q E h => ?_) (fun cdv A outer s H vs Q E hr h => ?_)
  · obtain ⟨a, v, ns, W, bd, rfl, _⟩ := h
    rfl
  · obtain ⟨a, v, ns, W, bd, rfl, hA, q⟩ := h
    refine ⟨_, (pss_cons (ps_set (i := 2) scShape.nd rfl (.inl rfl) (pe_lstN (pa_cons (pv 1) pa_nil)))
      (pss_cons (ps_while PassesOwn.never (pt_truth (pv 2) (fun _ => rfl))
        (pss_cons (ps_set (i := 3) scShape.nd rfl (.inl rfl) (pe_bm0 PySem.F.plainAttrs_list PySem.F.slot_list_pop PySem.F.type_list_pop mt_pop (pv 2)))
      (pss_cons (ps_if (pt_not (pt_val (hc G__is_form_outside hr (by rfl) (pa_cons (pv 0) (pa_cons (pv 3) pa_nil))))) (pss_one (ps_ret pe_bl))
        pss_nil)
      (pss_one (ps_expr (pe_bm PySem.F.plainAttrs_list PySem.F.slot_list_extend PySem.F.type_list_extend mt_extendT (pv 2) (pa_cons (hc G_inner_forms hr (by rfl) (pa_cons (pv 3) pa_nil)) pa_nil)))))))
      (pss_one (ps_ret pe_bl)))), ?_⟩
    refine ⟨_, rfl, by show 1 ≤ sizeLine; decide, fun l H1 s1 n1 e1 => ?_⟩
    refine ⟨fun m σ H' => m ≤ 1 ∧ ∃ y3, σ = [some (.ref a), some v, some (.ref l), y3] ∧ Same H H' ∧ H' l = some (.lst (List.replicate m v)), ⟨1, Nat.le_refl _, none, rfl, s1, e1⟩, ?_⟩
    rintro m σ H' ⟨m1, y3, rfl, sm, eL⟩
    refine ⟨_, rfl, !(List.replicate m v).isEmpty, .inl ⟨_, .inl (.inl eL), rfl⟩, ?_⟩
    cases m with
    | zero => exact iteF (q H' sm)
    | succ m =>
      have nl := n1
      refine iteT ⟨fun σ' H' => ∃ y3, σ' = [some (.ref a), some v, some (.ref l), y3] ∧ Same H H' ∧ H' l = some (.lst (List.replicate m v)), fun σ' H' h => ⟨m, Nat.lt_succ_self m, by omega, h⟩, ?_⟩
      refine ⟨_, rfl, .inl ⟨rfl, _, .inl (.inl eL)⟩, l, _, v, rfl, rfl, eL, ?_, ?_⟩
      · rw [List.length_replicate, Nat.succ_sub_one, List.getElem?_replicate, if_pos (Nat.lt_succ_self m)]
      have ed : (List.replicate (m + 1) v).dropLast = List.replicate m v := by
        rw [List.dropLast_replicate]
        rfl
      rw [ed]
      have sm2 : Same H (upd H' l (.lst (List.replicate m v))) := fun b o eb => by
        rw [upd_ne (ne_of_none eb n1)]
        exact sm b o eb
      refine ⟨_, rfl, _, rfl, a, v, ns, W, bd, rfl, hA.sm sm2, fun H2 s2 => ⟨_, rfl, iteF ?_⟩⟩
      have sm3 := sm2.trans s2
      have e2 : H2 l = some (.lst (List.replicate m v)) := s2 _ _ upd_same
      refine ⟨_, rfl, .inl ⟨rfl, _, .inl (.inl e2)⟩, _, rfl, v, W, bd, rfl, (hA.sm sm3).2.1, fun H3 p s3 e3 => ?_⟩
      have l0 : m ≤ 1 := by omega
      refine ⟨l, p, _, [], rfl, rfl, s3 _ _ e2, .inl (.inl e3), by rw [List.length_replicate]; show m + 0 ≤ sizeLine; have : sizeLine = 2 ^ 24 := rfl; omega, _, rfl, fun b o eb => ?_, ?_⟩
      · rw [upd_ne (ne_of_none eb n1)]
        exact (sm3.trans s3) b o eb
      · rw [upd_same, List.append_nil]
theorem scCheckForm : FnScope ["sizes", "form"] ["sizes", "form"] (defScope sCheckForm) := ⟨rfl, rfl, rfl, by decide +kernel, rfl, by decide +kernel, by decide +kernel⟩
def spCheckForm (K : PySem.W.Frag) : Sp := fun vs H Q _ => ∃ (a : Addr) (v : V) (ns : List Nat) (W : List (List Int)) (bd : Int), vs = [.ref a, v] ∧ CardArgs K H a v ns W bd ∧ ∀ H', Same H H' → Q .non H'
theorem ok_checkForm {f : Addr} {fd : FuncData} {k : Nat} (F : Fun K "check_form" "check_form" sCheckForm f fd) (G_has_form_shape : Has P w K mg base k "has_form_shape" ["sizes", "value"] (spOutside K)) : FnOk P w K mg base CX0 (k + 1) f fd ["sizes", "form"] (spCheckForm K) := by
  refine F.ok scCheckForm (fun vs H Q E h => ?_) (fun cdv A outer s H vs Q E hr h => ?_)
  · obtain ⟨a, v, ns, W, bd, rfl, _⟩ := h
    rfl
  · obtain ⟨a, v, ns, W, bd, rfl, hA, q⟩ := h
    refine ⟨_, (pss_one (ps_if (pt_not (pt_val (hc G_has_form_shape hr (by rfl) (pa_cons (pv 0) (pa_cons (pv 1) pa_nil))))) (pss_one ps_never)
        pss_nil)), ?_⟩
    exact ⟨_, rfl, _, rfl, a, v, ns, W, bd, rfl, hA, fun H1 s1 => ⟨_, rfl, iteF (q H1 s1)⟩⟩
theorem scCheckCard : FnScope ["sizes", "card"] ["sizes", "card"] (defScope sCheckCard) := ⟨rfl, rfl, rfl, by decide +kernel, rfl, by decide +kernel, by decide +kernel⟩
theorem ok_checkCard {f : Addr} {fd : FuncData} {k : Nat} (F : Fun K "check_card" "check_card" sCheckCard f fd) (G_check_form : Has P w K mg base k "check_form" ["sizes", "form"] (spCheckForm K)) : FnOk P w K mg base CX0 (k + 1) f fd ["sizes", "card"] (spCheckForm K) := by
  refine F.ok scCheckCard (fun vs H Q E h => ?_) (fun cdv A outer s H vs Q E hr h => ?_)
  · obtain ⟨a, v, ns, W, bd, rfl, _⟩ := h
    rfl
  · obtain ⟨a, v, ns, W, bd, rfl, hA, q⟩ := h
    refine ⟨_, (pss_cons (ps_expr (hc G_check_form hr (by rfl) (pa_cons (pv 0) (pa_cons (pv 1) pa_nil))))
      (pss_one (ps_if (pt_cmpR op_ne (pe_ix ix_tup (pv 1) pe_int (fun _ _ => rfl)) pe_str (nomark _)) (pss_one ps_never)
        pss_nil))), ?_⟩
    refine ⟨_, rfl, _, rfl, a, v, ns, W, bd, rfl, hA, fun H1 s1 => ?_⟩
    obtain ⟨p, qa, rfl, hp, hq⟩ := Dp.card_of (hA.sm s1).2.1
    refine ⟨_, rfl, p, _, _, _, rfl, rfl, hp, rfl, rfl, _, rfl, iteNS rfl (q H1 s1)⟩
end
end Fa
namespace Fa
open PySem PySem.Spec PyProof.Rows L2 Lk
abbrev sSumOf : Stmt := top 43
abbrev sCardCase : Stmt := top 47
abbrev sLeast : Stmt := top 48
abbrev sGreatest : Stmt := top 49
abbrev sFindSlack : Stmt := top 50
abbrev sListDrops : Stmt := top 51
section
variable {P : Program} {w : World} {K : PySem.W.Frag} {mg : Str → Option Value} {base : Heap}
/-! ### sum_of_weights -/
theorem scSumOf : FnScope ["weights", "case", "at"] ["weights", "case"] (defScope sSumOf) := ⟨rfl, rfl, rfl, by decide +kernel, rfl, by decide +kernel, by decide +kernel⟩
theorem ok_sumOf {f : Addr} {fd : FuncData} {k : Nat} (F : Fun K "sum_of_weights" "sum_of_weights" sSumOf f fd) (T : Txt mg) : FnOk P w K mg base CX0 (k + 1) f fd ["weights", "case"] (spSumOf K) := by
  refine F.ok scSumOf (fun vs H Q E h => ?_) (fun cdv A outer s H vs Q E hr h => ?_)
  · obtain ⟨v, b, ns, cs, W, rfl, _⟩ := h
    rfl
  · obtain ⟨v, b, ns, cs, W, rfl, hW, hC, hb, hR, hl, q⟩ := h
    refine ⟨_, (pss_one (ps_ret (pe_callB (cr_sum rfl) (by rfl) T.sum (by decide +kernel) (pa_cons (pe_lc (own := [("at", 2)]) (g := gName 2) (tt := tYes) rfl scSumOf.nd (pi_range1 rfl T.range (pa_cons (pe_callB call_len_seq (by rfl) T.len PySem.boot_len (pa_cons (pv 1) pa_nil)) pa_nil))
          (blkOk_by (own := [("at", 2)]) (N := ["weights", "case", "at"]) (sc := defScope sSumOf) (by decide +kernel)) (fun _ _ _ _ _ => pg_name (i := 2) scSumOf.nd rfl (Or.inl rfl)) (fun _ _ _ _ _ => pts_nil)
          (fun _ _ _ _ _ => (pe_ix (r := rIxT K) ix_tup (pe_ix (r := rIxT K) ix_tup (pv 0) (pv 2) (fun _ _ => rfl)) (pe_ix (r := rIxL K) ix_list (pv 1) (pv 2) (fun _ _ => rfl)) (fun _ _ => rfl)))) pa_nil)))), ?_⟩
    obtain ⟨qa, _, rfl, _⟩ := Dp.w_of hW
    refine ⟨_, rfl, b, _, rfl, .inl hb, (cs.length : Int), by rw [List.length_map], by omega, by omega, fun D nD => ?_⟩
    refine lc_range (lo := 0) (n := ((cs.length : Nat) : Int).toNat) (PvA H D fun i => (((List.range cs.length).take i).map (wat W cs)).map V.int) (PvA.start nD rfl) ?_ ?_
    · rintro i H' hi p
      have lt : i < cs.length := by omega
      obtain ⟨xs, t, r, hs, gx, ht, _, gr, _⟩ := w_place (Dp.sm p.1 hW) hC hR lt
      refine ⟨rfl, ?_⟩
      refine ⟨_, rfl, _, rfl, qa, _, _, _, rfl, rfl, hs, at_z gx, _, rfl, _, rfl, b, _, _, _, rfl, rfl, p.1.seq hb, at_z (nat_at lt), t, _, _, _, rfl, rfl, ht, atI_nat gr, ?_⟩
      exact p.keep nD (Same.refl _) (by rw [List.length_map, List.length_map, List.length_take, List.length_range]; omega) (by
        show (((List.range cs.length).take (i + 1)).map (wat W cs)).map V.int = _
        rw [acc_map (range_at lt), List.map_append]
        rfl)
    · rintro H1 ⟨sm, eD⟩
      dsimp only at eD
      rw [List.take_of_length_le (by rw [List.length_range]; omega)] at eD
      exact ⟨D, _, rfl, .inl (.inl eD), q H1 sm⟩
/-! ### _least, _greatest -/
theorem scLeast : FnScope ["row"] ["row"] (defScope sLeast) := ⟨rfl, rfl, rfl, by decide +kernel, rfl, by decide +kernel, by decide +kernel⟩
def spLeast (K : PySem.W.Frag) (g : List Int → Int) : Sp := fun vs H Q _ => ∃ (a : Addr) (r : List Int), vs = [.ref a] ∧ SqT K H a (r.map V.int) ∧ r.length ≤ 1000 ∧ r ≠ [] ∧ ∀ H', Same H H' → Q (.int (g r)) H'
theorem ok_least {f : Addr} {fd : FuncData} {k : Nat} (F : Fun K "_least" "_least" sLeast f fd) (G_ascending_numbers : Has P w K mg base k "ascending_numbers" ["numbers"] (spAscN K)) : FnOk P w K mg base CX0 (k + 1) f fd ["row"] (spLeast K minR) := by
  refine F.ok scLeast (fun vs H Q E h => ?_) (fun cdv A outer s H vs Q E hr h => ?_)
  · obtain ⟨a, r, rfl, _⟩ := h
    rfl
  · obtain ⟨a, r, rfl, hs, hl, hne, q⟩ := h
    refine ⟨_, (pss_one (ps_ret (pe_ix ix_list (hc G_ascending_numbers hr (by rfl) (pa_cons (pv 0) pa_nil)) pe_int (fun _ _ => rfl)))), ?_⟩
    refine ⟨_, rfl, a, r, rfl, hs, hl, fun H1 p ns s1 n1 e1 hp hw => ⟨p, _, _, _, rfl, rfl, .inl (.inl e1), ?_, q H1 s1⟩⟩
    refine atI_nat (j := 0) ?_
    rw [List.getElem?_map, sorted_head hp hw hne]
    rfl
theorem scGreatest : FnScope ["row"] ["row"] (defScope sGreatest) := ⟨rfl, rfl, rfl, by decide +kernel, rfl, by decide +kernel, by decide +kernel⟩
theorem ok_greatest {f : Addr} {fd : FuncData} {k : Nat} (F : Fun K "_greatest" "_greatest" sGreatest f fd) (G_ascending_numbers : Has P w K mg base k "ascending_numbers" ["numbers"] (spAscN K)) : FnOk P w K mg base CX0 (k + 1) f fd ["row"] (spLeast K maxR) := by
  refine F.ok scGreatest (fun vs H Q E h => ?_) (fun cdv A outer s H vs Q E hr h => ?_)
  · obtain ⟨a, r, rfl, _⟩ := h
    rfl
  · obtain ⟨a, r, rfl, hs, hl, hne, q⟩ := h
    refine ⟨_, (pss_one (ps_ret (pe_ix ix_list (hc G_ascending_numbers hr (by rfl) (pa_cons (pv 0) pa_nil)) (pe_un un_neg pe_int) (fun _ _ => rfl)))), ?_⟩
    refine ⟨_, rfl, a, r, rfl, hs, hl, fun H1 p ns s1 n1 e1 hp hw => ⟨1, rfl, p, _, _, _, rfl, rfl, .inl (.inl e1), ?_, q H1 s1⟩⟩
    obtain ⟨ms, rfl⟩ := sorted_last hp hw hne
    rw [List.map_append]
    exact atI_last _ _
/-! ### the arguments -/
def CCArgs (K : PySem.W.Frag) (H : Hp) (a b : Addr) (v : V) (ns cs : List Nat) (W : List (List Int)) (bd : Int) : Prop := CardArgs K H a v ns W bd ∧ CaseN K H b ns cs
theorem CCArgs.sm {H H' : Hp} {a b : Addr} {v : V} {ns cs : List Nat} {W : List (List Int)} {bd : Int} (s : Same H H') (h : CCArgs K H a b v ns cs W bd) : CCArgs K H' a b v ns cs W bd := ⟨h.1.sm s, h.2.sm s⟩
theorem scCardCase : FnScope ["sizes", "card", "case"] ["sizes", "card", "case"] (defScope sCardCase) := ⟨rfl, rfl, rfl, by decide +kernel, rfl, by decide +kernel, by decide +kernel⟩
def spCardCase (K : PySem.W.Frag) : Sp := fun vs H Q _ => ∃ (a b : Addr) (v : V) (ns cs : List Nat) (W : List (List Int)) (bd : Int), vs = [.ref a, v, .ref b] ∧ CCArgs K H a b v ns cs W bd ∧ ∀ H', Same H H' → Q .non H'
theorem ok_cardCase {f : Addr} {fd : FuncData} {k : Nat} (F : Fun K "_check_card_and_case" "_check_card_and_case" sCardCase f fd) (G_check_sizes : Has P w K mg base k "check_sizes" ["sizes"] (spCheckSizes K)) (G_check_card : Has P w K mg base k "check_card" ["sizes", "card"] (spCheckForm K))
    (G_check_case : Has P w K mg base k "check_case" ["sizes", "case"] (spCheckCase K)) : FnOk P w K mg base CX0 (k + 1) f fd ["sizes", "card", "case"] (spCardCase K) := by
  refine F.ok scCardCase (fun vs H Q E h => ?_) (fun cdv A outer s H vs Q E hr h => ?_)
  · obtain ⟨a, b, v, ns, cs, W, bd, rfl, _⟩ := h
    rfl
  · obtain ⟨a, b, v, ns, cs, W, bd, rfl, hA, q⟩ := h
    refine ⟨_, (pss_cons (ps_expr (hc G_check_sizes hr (by rfl) (pa_cons (pv 0) pa_nil)))
      (pss_cons (ps_expr (hc G_check_card hr (by rfl) (pa_cons (pv 0) (pa_cons (pv 1) pa_nil))))
      (pss_one (ps_expr (hc G_check_case hr (by rfl) (pa_cons (pv 0) (pa_cons (pv 2) pa_nil))))))), ?_⟩
    refine ⟨_, rfl, a, ns, rfl, hA.1.1, fun H1 s1 => ?_⟩
    refine ⟨_, rfl, _, rfl, a, v, ns, W, bd, rfl, (hA.sm s1).1, fun H2 s2 => ?_⟩
    have s12 := s1.trans s2
    exact ⟨_, rfl, _, rfl, a, b, ns, cs, rfl, (hA.sm s12).1.1, (hA.sm s12).2, fun H3 s3 => q H3 (s12.trans s3)⟩
/-! ### _find_slack, _list_drops -/
theorem scFindSlack : FnScope ["card", "case", "reached"] ["card", "case"] (defScope sFindSlack) := ⟨rfl, rfl, rfl, by decide +kernel, rfl, by decide +kernel, by decide +kernel⟩
def spFindSlack (K : PySem.W.Frag) (g : List (List Int) → Int → List Nat → Int) : Sp := fun vs H Q _ => ∃ (a b : Addr) (v : V) (ns cs : List Nat) (W : List (List Int)) (bd : Int), vs = [v, .ref b] ∧ CCArgs K H a b v ns cs W bd ∧ ∀ H', Same H H' → Q (.int (g W bd cs)) H'
theorem ok_findSlack {f : Addr} {fd : FuncData} {k : Nat} (F : Fun K "_find_slack" "_find_slack" sFindSlack f fd) (G_sum_of_weights : Has P w K mg base k "sum_of_weights" ["weights", "case"] (spSumOf K)) : FnOk P w K mg base CX0 (k + 1) f fd ["card", "case"] (spFindSlack K slackC) := by
  refine F.ok scFindSlack (fun vs H Q E h => ?_) (fun cdv A outer s H vs Q E hr h => ?_)
  · obtain ⟨a, b, v, ns, cs, W, bd, rfl, _⟩ := h
    rfl
  · obtain ⟨a, b, v, ns, cs, W, bd, rfl, hA, q⟩ := h
    refine ⟨_, (pss_cons (ps_set (i := 2) scFindSlack.nd rfl (.inl rfl) (hc G_sum_of_weights hr (by rfl) (pa_cons (pe_ix ix_tup (pv 0) pe_int (fun _ _ => rfl)) (pa_cons (pv 1) pa_nil))))
      (pss_one (ps_ret (pe_ifExp (pt_cmpR op_ge (pv 2) (pe_ix ix_tup (pv 0) pe_int (fun _ _ => rfl)) (nomark _)) (pe_op op_sub (pv 2) (pe_ix ix_tup (pv 0) pe_int (fun _ _ => rfl))) (pe_op op_sub (pe_op op_sub (pe_ix ix_tup (pv 0) pe_int (fun _ _ => rfl)) pe_int) (pv 2)))))), ?_⟩
    obtain ⟨p, qa, rfl, hp, hq⟩ := Dp.card_of hA.1.2.1
    have l24 : cs.length ≤ 1000 := by have := hA.1.1.2.1; rw [hA.2.2.1]; omega
    refine ⟨_, rfl, p, _, _, _, rfl, rfl, hp, rfl, _, rfl, .ref qa, b, ns, cs, W, rfl, hq, hA.1.2.2, hA.2.1, hA.2.2, l24, fun H1 s1 => ?_⟩
    have hp1 := Same.tup s1 hp
    have qq := q H1 s1
    unfold slackC at qq
    refine ⟨_, rfl, _, rfl, p, _, _, _, rfl, rfl, hp1, rfl, _, _, rfl, rfl, _, rfl, ite2 (fun e => ?_) (fun e => ?_)⟩
    · rw [if_pos (of_decide_eq_true e)] at qq
      exact ⟨_, rfl, _, rfl, p, _, _, _, rfl, rfl, hp1, rfl, _, _, rfl, rfl, qq⟩
    · rw [if_neg (fun z => e (decide_eq_true z))] at qq
      exact ⟨_, rfl, p, _, _, _, rfl, rfl, hp1, rfl, _, _, rfl, rfl, _, rfl, _, _, rfl, rfl, qq⟩
theorem scListDrops : FnScope ["card", "case", "weights", "at"] ["card", "case"] (defScope sListDrops) := ⟨rfl, rfl, rfl, by decide +kernel, rfl, by decide +kernel, by decide +kernel⟩
def spListDrops (K : PySem.W.Frag) : Sp := fun vs H Q _ => ∃ (a b : Addr) (v : V) (ns cs : List Nat) (W : List (List Int)) (bd : Int), vs = [v, .ref b] ∧ CCArgs K H a b v ns cs W bd ∧ ∀ H' r, Same H H' → H r = none → H' r = some (.lst ((dropsC W bd cs).map V.int)) → Q (.ref r) H'
theorem ok_listDrops {f : Addr} {fd : FuncData} {k : Nat} (F : Fun K "_list_drops" "_list_drops" sListDrops f fd) (T : Txt mg) (G_sum_of_weights : Has P w K mg base k "sum_of_weights" ["weights", "case"] (spSumOf K)) (G__least : Has P w K mg base k "_least" ["row"] (spLeast K minR))
    (G__greatest : Has P w K mg base k "_greatest" ["row"] (spLeast K maxR)) : FnOk P w K mg base CX0 (k + 1) f fd ["card", "case"] (spListDrops K) := by
  refine F.ok scListDrops (fun vs H Q E h => ?_) (fun cdv A outer s H vs Q E hr h => ?_)
  · obtain ⟨a, b, v, ns, cs, W, bd, rfl, _⟩ := h
    rfl
  · obtain ⟨a, b, v, ns, cs, W, bd, rfl, hA, q⟩ := h
    refine ⟨_, (pss_cons (ps_set (i := 2) scListDrops.nd rfl (.inr rfl) (pe_ix ix_tup (pv 0) pe_int (fun _ _ => rfl)))
      (pss_cons (ps_if (pt_cmpR op_ge (hc G_sum_of_weights hr (by rfl) (pa_cons (pv 2) (pa_cons (pv 1) pa_nil))) (pe_ix ix_tup (pv 0) pe_int (fun _ _ => rfl)) (nomark _)) (pss_one (ps_ret (pe_lc (own := [("at", 3)]) (g := gName 3) (tt := tYes) rfl scListDrops.nd (pi_range1 rfl T.range (pa_cons (pe_callB call_len_seq (by rfl) T.len PySem.boot_len (pa_cons (pv 1) pa_nil)) pa_nil))
          (blkOk_by (own := [("at", 3)]) (N := ["card", "case", "weights", "at"]) (sc := defScope sListDrops) (by decide +kernel)) (fun _ _ _ _ _ => pg_name (i := 3) scListDrops.nd rfl (Or.inl rfl)) (fun _ _ _ _ _ => pts_nil)
          (fun _ _ _ _ _ => (pe_op op_sub (pe_ix (r := rIxT K) ix_tup (pe_ix (r := rIxT K) ix_tup (pv 2) (pv 3) (fun _ _ => rfl)) (pe_ix (r := rIxL K) ix_list (pv 1) (pv 3) (fun _ _ => rfl)) (fun _ _ => rfl)) (hc G__least hr (by rfl) (pa_cons (pe_ix (r := rIxT K) ix_tup (pv 2) (pv 3) (fun _ _ => rfl)) pa_nil)))))))
        pss_nil)
      (pss_one (ps_ret (pe_lc (own := [("at", 3)]) (g := gName 3) (tt := tYes) rfl scListDrops.nd (pi_range1 rfl T.range (pa_cons (pe_callB call_len_seq (by rfl) T.len PySem.boot_len (pa_cons (pv 1) pa_nil)) pa_nil))
          (blkOk_by (own := [("at", 3)]) (N := ["card", "case", "weights", "at"]) (sc := defScope sListDrops) (by decide +kernel)) (fun _ _ _ _ _ => pg_name (i := 3) scListDrops.nd rfl (Or.inl rfl)) (fun _ _ _ _ _ => pts_nil)
          (fun _ _ _ _ _ => (pe_op op_sub (hc G__greatest hr (by rfl) (pa_cons (pe_ix (r := rIxT K) ix_tup (pv 2) (pv 3) (fun _ _ => rfl)) pa_nil)) (pe_ix (r := rIxT K) ix_tup (pe_ix (r := rIxT K) ix_tup (pv 2) (pv 3) (fun _ _ => rfl)) (pe_ix (r := rIxL K) ix_list (pv 1) (pv 3) (fun _ _ => rfl)) (fun _ _ => rfl))))))))), ?_⟩
    obtain ⟨p, qa, rfl, hp, hq⟩ := Dp.card_of hA.1.2.1
    have l24 : cs.length ≤ 24 := by have := hA.1.1.2.1; rw [hA.2.2.1]; omega
    have hC := hA.1.2.2
    have hR := hA.2.2
    have hb := hA.2.1
    have row6 : ∀ {i : Nat} {r : List Int}, W[i]? = some r → r.length ≤ 1000 := fun {i r} h => by
      have li := (List.getElem?_eq_some_iff.mp h).1
      have lt1 : i < ns.length := by rw [← hC.1]; exact li
      have := hC.2.1 i _ _ (List.getElem?_eq_getElem lt1) h
      have := hA.1.1.2.2 _ (List.getElem_mem lt1)
      omega
    refine ⟨_, rfl, p, _, _, _, rfl, rfl, hp, rfl, ?_⟩
    refine ⟨_, rfl, _, rfl, .ref qa, b, ns, cs, W, rfl, hq, hC, hb, hR, by omega, fun H1 s1 => ?_⟩
    have hp1 := Same.tup s1 hp
    have hq1 := Dp.sm s1 hq
    have hb1 := s1.seq hb
    refine ⟨_, rfl, p, _, _, _, rfl, rfl, hp1, rfl, _, _, rfl, rfl, _, rfl, ite2 (fun e => ?_) (fun e => ?_)⟩
    · have e := of_decide_eq_true e
      refine ⟨_, rfl, b, _, rfl, .inl hb1, (cs.length : Int), by rw [List.length_map], by omega, by omega, fun D nD => ?_⟩
      refine lc_range (lo := 0) (n := ((cs.length : Nat) : Int).toNat) (PvA H1 D fun i => (((List.range cs.length).take i).map (dropC W bd cs)).map V.int) (PvA.start nD rfl) ?_ ?_
      · rintro i H' hi pp
        have lt : i < cs.length := by omega
        obtain ⟨xs, t, r, hs, gx, ht, gW, gr, hne, _⟩ := w_place (Dp.sm pp.1 hq1) hC hR lt
        refine ⟨rfl, ?_⟩
        refine ⟨_, rfl, _, rfl, qa, _, _, _, rfl, rfl, hs, at_z gx, _, rfl, _, rfl, b, _, _, _, rfl, rfl, pp.1.seq hb1, at_z (nat_at lt), t, _, _, _, rfl, rfl, ht, atI_nat gr, _, rfl, _, rfl, qa, _, _, _, rfl, rfl, hs, at_z gx, t, r, rfl, ht, row6 gW, hne, fun H2 s2 => ⟨_, _, rfl, rfl, ?_⟩⟩
        exact pp.keep nD s2 (by rw [List.length_map, List.length_map, List.length_take, List.length_range]; omega) (show (((List.range cs.length).take (i + 1)).map (dropC W bd cs)).map V.int = (((List.range cs.length).take i).map (dropC W bd cs)).map V.int ++ [V.int (wat W cs i - minR r)] by
          rw [acc_map (range_at lt), List.map_append, show dropC W bd cs i = wat W cs i - minR r by unfold dropC; rw [if_pos e, getD_some gW]]
          rfl)
      · rintro H2 ⟨sm, eD⟩
        dsimp only at eD
        rw [List.take_of_length_le (by rw [List.length_range]; omega)] at eD
        exact q H2 D (s1.trans sm) (s1.free nD) eD
    · have e : ¬ wsum W cs ≥ bd := fun z => e (decide_eq_true z)
      refine ⟨_, rfl, b, _, rfl, .inl hb1, (cs.length : Int), by rw [List.length_map], by omega, by omega, fun D nD => ?_⟩
      refine lc_range (lo := 0) (n := ((cs.length : Nat) : Int).toNat) (PvA H1 D fun i => (((List.range cs.length).take i).map (dropC W bd cs)).map V.int) (PvA.start nD rfl) ?_ ?_
      · rintro i H' hi pp
        have lt : i < cs.length := by omega
        obtain ⟨xs, t, r, hs, gx, ht, gW, gr, hne, _⟩ := w_place (Dp.sm pp.1 hq1) hC hR lt
        refine ⟨rfl, ?_⟩
        refine ⟨_, rfl, _, rfl, qa, _, _, _, rfl, rfl, hs, at_z gx, t, r, rfl, ht, row6 gW, hne, fun H2 s2 => ?_⟩
        refine ⟨_, rfl, _, rfl, qa, _, _, _, rfl, rfl, Same.tup s2 hs, at_z gx, _, rfl, _, rfl, b, _, _, _, rfl, rfl, s2.seq (pp.1.seq hb1), at_z (nat_at lt), t, _, _, _, rfl, rfl, Same.tup s2 ht, atI_nat gr, _, _, rfl, rfl, ?_⟩
        exact pp.keep nD s2 (by rw [List.length_map, List.length_map, List.length_take, List.length_range]; omega) (show (((List.range cs.length).take (i + 1)).map (dropC W bd cs)).map V.int = (((List.range cs.length).take i).map (dropC W bd cs)).map V.int ++ [V.int (maxR r - wat W cs i)] by
          rw [acc_map (range_at lt), List.map_append, show dropC W bd cs i = maxR r - wat W cs i by unfold dropC; rw [if_neg e, getD_some gW]]
          rfl)
      · rintro H2 ⟨sm, eD⟩
        dsimp only at eD
        rw [List.take_of_length_le (by rw [List.length_range]; omega)] at eD
        exact q H2 D (s1.trans sm) (s1.free nD) eD
end
end Fa
namespace Fa
open PySem PySem.Spec PyProof.Rows L2 Lk
abbrev sBag : Stmt := top 57
abbrev sDraw : Stmt := top 58
abbrev sSheet : Stmt := top 60
abbrev sRow : Stmt := top 62
/-- the bag at b, after at most n draws of its own -/
def BagAt (H : Hp) (b : Addr) (n : Nat) : Prop := ∃ r s t : Int, H b = some (.lst [.int r, .int s, .int t]) ∧ 0 ≤ r ∧ 0 ≤ s ∧ s < 2 ^ 60 ∧ 0 ≤ t ∧ t ≤ n
namespace BagAt
variable {H H' : Hp} {b c : Addr} {n m : Nat}
theorem mono (h : BagAt H b n) (l : n ≤ m) : BagAt H b m := by
  obtain ⟨r, s, t, h1, h2, h3, h4, h5, h6⟩ := h
  exact ⟨r, s, t, h1, h2, h3, h4, h5, by omega⟩
theorem sm (s : Same H H') (h : BagAt H b n) : BagAt H' b n := by
  obtain ⟨r, z, t, h1, h2⟩ := h
  exact ⟨r, z, t, s _ _ h1, h2⟩
theorem upd {o : HO} (nc : c ≠ b) (h : BagAt H b n) : BagAt (L2.upd H c o) b n := by
  obtain ⟨r, z, t, h1, h2⟩ := h
  exact ⟨r, z, t, by rw [upd_ne nc.symm]; exact h1, h2⟩
theorem lst (h : BagAt H b n) : ∃ zs, H b = some (.lst zs) := by
  obtain ⟨r, z, t, h1, h2⟩ := h
  exact ⟨_, h1⟩
theorem ne (h : BagAt H b n) (hc : H c = none) : c ≠ b := by
  obtain ⟨zs, e⟩ := h.lst
  exact (ne_of_none e hc).symm
end BagAt
section
variable {P : Program} {w : World} {K : PySem.W.Frag} {mg : Str → Option Value} {base : Heap}
/-! ### _law_bag -/
theorem scBag : FnScope ["cell", "rest"] ["cell"] (defScope sBag) := ⟨rfl, rfl, rfl, by decide +kernel, rfl, by decide +kernel, by decide +kernel⟩
def spBag : Sp := fun vs H Q _ => ∃ c : Int, vs = [.int c] ∧ ∀ H' p, Same H H' → H p = none → BagAt H' p 0 → Q (.ref p) H'
theorem ok_bag {f : Addr} {fd : FuncData} {k : Nat} (F : Fun K "_law_bag" "_law_bag" sBag f fd) (T : Txt mg) : FnOk P w K mg base CX0 (k + 1) f fd ["cell"] spBag := by
  refine F.ok scBag (fun vs H Q E h => ?_) (fun cdv A outer s H vs Q E hr h => ?_)
  · obtain ⟨c, rfl, _⟩ := h
    rfl
  · obtain ⟨c, rfl, q⟩ := h
    refine ⟨_, (pss_cons (ps_set (i := 1) scBag.nd rfl (.inl rfl) pe_int)
      (pss_cons (ps_if (pt_cmpR op_ge (pv 0) (pe_op op_powN pe_int pe_int) (nomark _)) (pss_one (ps_set (i := 1) scBag.nd rfl (.inl rfl) (pe_op op_sub (pv 0) (pe_op op_powN pe_int pe_int))))
        pss_nil)
      (pss_one (ps_ret (pe_lstN (pa_cons (pv 1) (pa_cons (pe_op op_mod (pe_callTy call_int1 (by rfl) T.int (by decide +kernel) (pa_cons (pv 0) pa_nil)) pe_int) (pa_cons pe_int pa_nil)))))))), ?_⟩
    refine g_name (nx_red ?_)
    refine seq_z (fun z => [some (.int c), some (.int z)]) (fun z => 0 ≤ z) ?_ (fun main => ?_)
    case refine_2 =>
      refine ⟨_, rfl, 10, 18, rfl, rfl, ⟨by decide, by decide⟩, _, _, rfl, rfl, _, rfl, ite2 (fun e => ?_) (fun _ => ?_)⟩
      · have e := of_decide_eq_true e
        refine ⟨_, rfl, 10, 18, rfl, rfl, ⟨by decide, by decide⟩, _, _, rfl, rfl, ?_⟩
        exact main (c - 10 ^ Int.toNat 18) (by have : c ≥ 10 ^ Int.toNat 18 := e; omega)
      · exact main 0 (by decide)
    intro z hz
    have h1 := Int.emod_nonneg c (show (1000000000000000003 : Int) ≠ 0 by decide)
    have h2 := Int.emod_lt_of_pos c (show (0 : Int) < 1000000000000000003 by decide)
    refine ⟨_, rfl, _, rfl, .inl ⟨_, rfl, _, _, rfl, rfl, by show (0 : Int) < 1000000000000000003; decide, by show 3 ≤ sizeLine; decide, fun p H1 s1 n1 e1 => ?_⟩⟩
    exact q H1 p s1 n1 ⟨z, c % 1000000000000000003, 0, e1, hz, h1, by omega, by decide, by decide⟩
/-! ### _law_draw -/
theorem scDraw : FnScope ["bag", "many", "digit", "turn", "mixed"] ["bag", "many"] (defScope sDraw) := ⟨rfl, rfl, rfl, by decide +kernel, rfl, by decide +kernel, by decide +kernel⟩
def spDraw : Sp := fun vs H Q _ => ∃ (b : Addr) (m : Int) (n : Nat), vs = [.ref b, .int m] ∧ BagAt H b n ∧ n ≤ 100000 ∧ 0 < m ∧ m < 2 ^ 30 ∧ ∀ (H' : Hp) (d : Nat), But b H H' → BagAt H' b (n + 1) → (d : Int) < m → Q (.int (d : Int)) H'
theorem small_log2 {i : Int} (h0 : 0 < i) (h : i < 2 ^ 30) : i.natAbs.log2 < 9000 := by
  have := (Nat.log2_lt (n := i.natAbs) (k := 30) (by omega)).mpr (by omega)
  omega
theorem digit_of {x m : Int} (h : 0 < m) : ∃ d : Nat, x % m = (d : Int) ∧ (d : Int) < m := by
  have h1 := Int.emod_nonneg x (show m ≠ 0 by omega)
  have h2 := Int.emod_lt_of_pos x h
  exact ⟨(x % m).toNat, by omega, by omega⟩
theorem ok_draw {f : Addr} {fd : FuncData} {k : Nat} (F : Fun K "_law_draw" "_law_draw" sDraw f fd) (T : Txt mg) : FnOk P w K mg base CX0 (k + 1) f fd ["bag", "many"] spDraw := by
  refine F.ok scDraw (fun vs H Q E h => ?_) (fun cdv A outer s H vs Q E hr h => ?_)
  · obtain ⟨b, m, n, rfl, _⟩ := h
    rfl
  · obtain ⟨b, m, n, rfl, hB, n1, m0, m1, q⟩ := h
    obtain ⟨r, s, t, eb, r0, s0, s1, t0, t1⟩ := hB
    refine ⟨_, (pss_cons (ps_if (pt_cmpR op_gt (pe_ix ix_list (pv 0) pe_int (fun _ _ => rfl)) pe_int (nomark _)) (pss_cons (ps_set (i := 2) scDraw.nd rfl (.inl rfl) (pe_op op_mod (pe_callTy call_int1 (by rfl) T.int (by decide +kernel) (pa_cons (pe_ix ix_list (pv 0) pe_int (fun _ _ => rfl)) pa_nil)) (pv 1)))
      (pss_cons (ps_asg (pe_op op_fdivW (pe_ix ix_list (pv 0) pe_int (fun _ _ => rfl)) (pv 1)) (pg_sub (pv 0) pe_int set_list))
      (pss_one (ps_ret (pv 2)))))
        pss_nil)
      (pss_cons (ps_asg (pe_op op_add (pe_ix ix_list (pv 0) pe_int (fun _ _ => rfl)) pe_int) (pg_sub (pv 0) pe_int set_list))
      (pss_cons (ps_set (i := 3) scDraw.nd rfl (.inl rfl) (pe_ix ix_list (pv 0) pe_int (fun _ _ => rfl)))
      (pss_cons (ps_set (i := 4) scDraw.nd rfl (.inl rfl) (pe_op op_add (pe_op op_mul (pe_op op_add (pe_ix ix_list (pv 0) pe_int (fun _ _ => rfl)) pe_int) (pe_op op_add (pe_op op_add (pe_op op_mul (pe_op op_mul pe_int (pv 3)) (pv 3)) (pe_op op_mul pe_int (pv 3))) pe_int)) (pe_op op_mul pe_int (pv 3))))
      (pss_cons (ps_set (i := 4) scDraw.nd rfl (.inl rfl) (pe_op op_fdivW (pe_op op_mod (pe_callTy call_int1 (by rfl) T.int (by decide +kernel) (pa_cons (pe_op op_add (pe_op op_mulW (pv 4) (pv 4)) (pe_op op_mul pe_int (pv 4))) pa_nil)) pe_int) pe_int))
      (pss_one (ps_ret (pe_op op_mod (pe_op op_fdivW (pe_op op_mod (pe_callTy call_int1 (by rfl) T.int (by decide +kernel) (pa_cons (pe_op op_add (pe_op op_add (pe_op op_mulW (pv 4) (pv 4)) (pe_op op_mul pe_int (pv 4))) (pv 3)) pa_nil)) pe_int) pe_int) (pv 1))))))))), ?_⟩
    have L : SqL K H b [.int r, .int s, .int t] := .inl (.inl eb)
    refine ⟨_, rfl, b, _, 0, _, rfl, rfl, L, atI_nat (j := 0) rfl, _, _, rfl, rfl, _, rfl, ite2 (fun e => ?_) (fun e => ?_)⟩
    · refine ⟨_, rfl, b, _, 0, _, rfl, rfl, L, atI_nat (j := 0) rfl, .inl ⟨_, rfl, _, rfl, _, _, rfl, rfl, m0, ?_⟩⟩
      refine ⟨_, rfl, b, _, 0, _, rfl, rfl, L, atI_nat (j := 0) rfl, _, rfl, _, _, rfl, rfl, ⟨m0, small_log2 m0 m1⟩, _, rfl, b, _, _, 0, rfl, rfl, eb, rfl, ?_⟩
      refine ⟨_, rfl, ?_⟩
      obtain ⟨d, ed, hd⟩ := digit_of (x := r) m0
      have qq := q (upd H b (.lst [.int (r / m), .int s, .int t])) d But.set ⟨r / m, s, t, upd_same, Int.ediv_nonneg r0 (by omega), s0, s1, t0, by omega⟩ hd
      rw [← ed] at qq
      exact qq
    · refine ⟨_, rfl, b, _, 2, _, rfl, rfl, L, atI_nat (j := 2) rfl, _, _, rfl, rfl, _, rfl, b, _, _, 2, rfl, rfl, eb, rfl, ?_⟩
      have e1 : (upd H b (.lst ([V.int r, .int s, .int t].set 2 (.int (t + 1))))) b = some (.lst [.int r, .int s, .int (t + 1)]) := upd_same
      have L1 : SqL K (upd H b (.lst ([V.int r, .int s, .int t].set 2 (.int (t + 1))))) b [.int r, .int s, .int (t + 1)] := .inl (.inl e1)
      have fin : ∀ d : Nat, (d : Int) < m → Q (.int (d : Int)) (upd H b (.lst ([V.int r, .int s, .int t].set 2 (.int (t + 1))))) := fun d hd => q _ d But.set ⟨r, s, t + 1, e1, r0, s0, s1, by omega, by omega⟩ hd
      clear q L eb
      generalize upd H b (.lst ([V.int r, .int s, .int t].set 2 (.int (t + 1)))) = H1 at e1 L1 fin ⊢
      obtain ⟨T0, hT⟩ : ∃ T0 : Int, T0 = t + 1 := ⟨_, rfl⟩
      rw [← hT] at e1 L1
      have T1 : 0 < T0 ∧ T0 ≤ 100001 := by omega
      refine ⟨_, rfl, b, _, 2, _, rfl, rfl, L1, atI_nat (j := 2) rfl, ?_⟩
      refine ⟨_, rfl, b, _, 1, _, rfl, rfl, L1, atI_nat (j := 1) rfl, _, _, rfl, rfl, ?_⟩
      refine ⟨_, rfl, _, _, rfl, rfl, .inl ⟨by decide, by decide⟩, _, rfl, _, _, rfl, rfl, .inl ⟨by omega, by omega⟩, ?_⟩
      refine ⟨_, rfl, _, _, rfl, rfl, .inl ⟨by decide, by decide⟩, _, _, rfl, rfl, _, _, rfl, rfl, ?_⟩
      refine ⟨_, _, rfl, rfl, .inl ⟨by omega, by omega⟩, _, rfl, _, _, rfl, rfl, .inl ⟨by decide, by decide⟩, _, _, rfl, rfl, ?_⟩
      have hTT : 31 * T0 * T0 ≤ 31 * 100001 * 100001 := Int.mul_le_mul (by omega) T1.2 (by omega) (by decide)
      have hTT0 : 0 ≤ 31 * T0 * T0 := Int.mul_nonneg (by omega) (by omega)
      have hX : (s + 7) * (31 * T0 * T0 + 104729 * T0 + 13) ≤ 2 ^ 61 * 2 ^ 40 := Int.mul_le_mul (by omega) (by omega) (by omega) (by decide)
      have hX0 : 0 ≤ (s + 7) * (31 * T0 * T0 + 104729 * T0 + 13) := Int.mul_nonneg (by omega) (by omega)
      have hb : ((s + 7) * (31 * T0 * T0 + 104729 * T0 + 13) + 17 * T0).natAbs < 2 ^ 110 := by omega
      clear hX hX0 hTT hTT0
      show tSeq _ _ _ [some (.ref b), some (.int m), none, some (.int T0), some (.int ((s + 7) * (31 * T0 * T0 + 104729 * T0 + 13) + 17 * T0))] H1
      generalize (s + 7) * (31 * T0 * T0 + 104729 * T0 + 13) + 17 * T0 = X0 at hb ⊢
      refine ⟨_, rfl, _, rfl, _, _, rfl, rfl, wide_mul hb hb (by decide) (by decide) (by decide), _, rfl, _, _, rfl, rfl, .inl ⟨by decide, by decide⟩, _, _, rfl, rfl, .inl ⟨_, rfl, _, _, rfl, rfl, by show (0 : Int) < 1000000000000000009; decide, _, _, rfl, rfl, ⟨by decide, by decide⟩, ?_⟩⟩
      have hy1 := Int.emod_nonneg (X0 * X0 + 999983 * X0) (show (1000000000000000009 : Int) ≠ 0 by decide)
      have hy2 := Int.emod_lt_of_pos (X0 * X0 + 999983 * X0) (show (0 : Int) < 1000000000000000009 by decide)
      have hy : ((X0 * X0 + 999983 * X0) % 1000000000000000009 / 1009).natAbs < 2 ^ 60 := by omega
      refine g_name (nx_red ?_)
      refine st_z (fun z => [some (.ref b), some (.int m), none, some (.int T0), some (.int z)]) (fun z => z.natAbs < 2 ^ 60) _ hy ?_
      clear hy hy1 hy2
      intro Y0 hy
      refine ⟨_, rfl, _, rfl, _, _, rfl, rfl, wide_mul hy hy (by decide) (by decide) (by decide), _, rfl, _, _, rfl, rfl, .inl ⟨by decide, by decide⟩, _, _, rfl, rfl, _, rfl, _, _, rfl, rfl, .inl ⟨_, rfl, _, _, rfl, rfl, by show (0 : Int) < 2147483629; decide, _, _, rfl, rfl, ⟨by decide, by decide⟩, _, rfl, _, _, rfl, rfl, m0, ?_⟩⟩
      obtain ⟨d, ed, hd⟩ := digit_of (x := (Y0 * Y0 + 65537 * Y0 + T0) % 2147483629 / 16) m0
      have qq := fin d hd
      rw [← ed] at qq
      exact qq
/-! ### _law_sheet -/
theorem scSheet : FnScope ["bag", "shape", "many", "k"] ["bag"] (defScope sSheet) := ⟨rfl, rfl, rfl, by decide +kernel, rfl, by decide +kernel, by decide +kernel⟩
def spSheet : Sp := fun vs H Q _ => ∃ (b : Addr) (n : Nat), vs = [.ref b] ∧ BagAt H b n ∧ n ≤ 1000 ∧ ∀ (H' : Hp) (r : Addr) (ns : List Nat), But b H H' → BagAt H' b (n + 30) → H r = none → H' r = some (.lst (ns.map natV)) → ns.length ≤ 24 → (∀ x ∈ ns, 2 ≤ x ∧ x ≤ 6) → Q (.ref r) H'
theorem ok_sheet {f : Addr} {fd : FuncData} {k : Nat} (F : Fun K "_law_sheet" "_law_sheet" sSheet f fd) (T : Txt mg) (G__law_draw : Has P w K mg base k "_law_draw" ["bag", "many"] spDraw) : FnOk P w K mg base CX0 (k + 1) f fd ["bag"] spSheet := by
  refine F.ok scSheet (fun vs H Q E h => ?_) (fun cdv A outer s H vs Q E hr h => ?_)
  · obtain ⟨b, n, rfl, _⟩ := h
    rfl
  · obtain ⟨b, n, rfl, hB, n1, q⟩ := h
    refine ⟨_, (pss_cons (ps_set (i := 1) scSheet.nd rfl (.inl rfl) (hc G__law_draw hr (by rfl) (pa_cons (pv 0) (pa_cons pe_int pa_nil))))
      (pss_cons (ps_set (i := 2) scSheet.nd rfl (.inl rfl) pe_int)
      (pss_cons (ps_if (pt_cmpR op_eq (pv 1) pe_int (nomark _)) (pss_one (ps_set (i := 2) scSheet.nd rfl (.inl rfl) (hc G__law_draw hr (by rfl) (pa_cons (pv 0) (pa_cons pe_int pa_nil)))))
        (pss_one (ps_if (pt_cmpR op_gt (pv 1) pe_int (nomark _)) (pss_one (ps_set (i := 2) scSheet.nd rfl (.inl rfl) (hc G__law_draw hr (by rfl) (pa_cons (pv 0) (pa_cons pe_int pa_nil)))))
        pss_nil)))
      (pss_one (ps_ret (pe_lc (own := [("k", 3)]) (g := gName 3) (tt := tYes) rfl scSheet.nd (pi_range1 rfl T.range (pa_cons (pv 2) pa_nil))
          (blkOk_by (own := [("k", 3)]) (N := ["bag", "shape", "many", "k"]) (sc := defScope sSheet) (by decide +kernel)) (fun _ _ _ _ _ => pg_name (i := 3) scSheet.nd rfl (Or.inl rfl)) (fun _ _ _ _ _ => pts_nil)
          (fun _ _ _ _ _ => (pe_op op_add pe_int (hc G__law_draw hr (by rfl) (pa_cons (pv 0) (pa_cons pe_int pa_nil))))))))))), ?_⟩
    refine ⟨_, rfl, b, 6, n, rfl, hB, by omega, by decide, by decide, fun H1 d k1 hB1 hd => ?_⟩
    refine g_name (nx_red ?_)
    refine g_name (nx_red ?_)
    refine seq_h (fun z => [some (.ref b), some (.int (d : Int)), some (.int z), none]) (fun z H' => 0 ≤ z ∧ z ≤ 24 ∧ But b H H' ∧ BagAt H' b (n + 2)) ?_ (fun main => ?_)
    case refine_2 =>
      refine ⟨_, rfl, rfl, _, rfl, ite2 (fun _ => ?_) (fun _ => ?_)⟩
      · refine ⟨_, rfl, b, 3, n + 1, rfl, hB1, by omega, by decide, by decide, fun H2 d2 k2 hB2 hd2 => ?_⟩
        exact main _ H2 ⟨by omega, by omega, k1.trans k2, hB2⟩
      · refine ⟨_, rfl, _, _, rfl, rfl, _, rfl, ite2 (fun _ => ?_) (fun _ => ?_)⟩
        · refine ⟨_, rfl, b, 25, n + 1, rfl, hB1, by omega, by decide, by decide, fun H2 d2 k2 hB2 hd2 => ?_⟩
          exact main _ H2 ⟨by omega, by omega, k1.trans k2, hB2⟩
        · exact main 24 H1 ⟨by decide, by decide, k1, hB1.mono (by omega)⟩
    rintro z H2 ⟨z0, z1, k2, hB2⟩
    refine ⟨_, rfl, z, rfl, by omega, by omega, fun D nD => ?_⟩
    have nDb := hB2.ne nD
    refine lc_range (lo := 0) (n := z.toNat) (fun i H' => ∃ ms : List Nat, ms.length = i ∧ (∀ x ∈ ms, 2 ≤ x ∧ x ≤ 6) ∧ But b H2 H' ∧ BagAt H' b (n + 2 + i) ∧ H' D = some (.lst (ms.map natV)))
      ⟨[], rfl, fun _ h => (nomatch h), But.of (PvA.same_u nD), hB2.upd nDb, upd_same⟩ ?_ ?_
    · rintro i H3 hi ⟨ms, lm, hm, k3, hB3, eD⟩
      refine ⟨rfl, ?_⟩
      refine ⟨_, rfl, b, 5, n + 2 + i, rfl, hB3, by omega, by decide, by decide, fun H4 d4 k4 hB4 hd4 => ⟨_, _, rfl, rfl, ?_⟩⟩
      refine ⟨_, k4.1 _ _ nDb eD, ?_, ms ++ [2 + d4], ?_, ?_, (k3.trans k4).new nD nDb, hB4.upd nDb, ?_⟩
      · rw [List.length_map]
        exact lt_line (by omega)
      · rw [List.length_append, lm]
        rfl
      · intro x hx
        rcases List.mem_append.mp hx with hx | hx
        · exact hm x hx
        · rw [List.mem_singleton.mp hx]
          omega
      · rw [upd_same, List.map_append]
        rfl
    · rintro H3 ⟨ms, lm, hm, k3, hB3, eD⟩
      exact q H3 D ms (k2.trans k3) (hB3.mono (by omega)) (k2.2 _ nD) eD (by omega) hm
/-! ### _law_row -/
theorem scRow : FnScope ["bag", "sheet", "size"] ["bag", "sheet"] (defScope sRow) := ⟨rfl, rfl, rfl, by decide +kernel, rfl, by decide +kernel, by decide +kernel⟩
def spRow : Sp := fun vs H Q _ => ∃ (b s : Addr) (n : Nat) (ns : List Nat), vs = [.ref b, .ref s] ∧ BagAt H b n ∧ n ≤ 1000 ∧ H s = some (.lst (ns.map natV)) ∧ s ≠ b ∧ ns.length ≤ 24 ∧ (∀ x ∈ ns, 2 ≤ x ∧ x ≤ 6) ∧
  ∀ (H' : Hp) (r : Addr) (cs : List Nat), But b H H' → BagAt H' b (n + 24) → H r = none → H' r = some (.lst (cs.map natV)) → RowN ns cs → Q (.ref r) H'
theorem RowN.snoc {ns cs : List Nat} {i n c : Nat} (h : RowN (ns.take i) cs) (hn : ns[i]? = some n) (hc : c < n) : RowN (ns.take (i + 1)) (cs ++ [c]) := by
  have li := (List.getElem?_eq_some_iff.mp hn).1
  have lc : cs.length = i := by rw [h.1, List.length_take]; omega
  rw [take_snocF hn]
  refine ⟨by rw [List.length_append, List.length_append, h.1]; rfl, fun j m d hm hd => ?_⟩
  by_cases e : j < i
  · rw [List.getElem?_append_left (by rw [List.length_take]; omega)] at hm
    rw [List.getElem?_append_left (by omega)] at hd
    exact h.2 j m d hm hd
  · have lj := (List.getElem?_eq_some_iff.mp hd).1
    rw [List.length_append, lc] at lj
    have : j = i := by
      have : j < i + 1 := lj
      omega
    subst this
    rw [List.getElem?_append_right (by rw [List.length_take]; omega), List.length_take, Nat.min_eq_left (by omega), Nat.sub_self] at hm
    rw [List.getElem?_append_right (by omega), lc, Nat.sub_self] at hd
    cases hm
    cases hd
    exact hc
theorem ok_row {f : Addr} {fd : FuncData} {k : Nat} (F : Fun K "_law_row" "_law_row" sRow f fd) (G__law_draw : Has P w K mg base k "_law_draw" ["bag", "many"] spDraw) : FnOk P w K mg base CX0 (k + 1) f fd ["bag", "sheet"] spRow := by
  refine F.ok scRow (fun vs H Q E h => ?_) (fun cdv A outer s H vs Q E hr h => ?_)
  · obtain ⟨b, s, n, ns, rfl, _⟩ := h
    rfl
  · obtain ⟨b, s0, n, ns, rfl, hB, n1, es, nsb, ls, hs, q⟩ := h
    refine ⟨_, (pss_one (ps_ret (pe_lc (own := [("size", 2)]) (g := gName 2) (tt := tYes) rfl scRow.nd (pi_list (pv 1))
          (blkOk_by (own := [("size", 2)]) (N := ["bag", "sheet", "size"]) (sc := defScope sRow) (by decide +kernel)) (fun _ _ _ _ _ => pg_name (i := 2) scRow.nd rfl (Or.inl rfl)) (fun _ _ _ _ _ => pts_nil)
          (fun _ _ _ _ _ => (hc G__law_draw hr (by rfl) (pa_cons (pv 0) (pa_cons (pv 2) pa_nil))))))), ?_⟩
    refine ⟨_, rfl, s0, rfl, ⟨_, .inl (.inl es)⟩, fun D nD => ?_⟩
    have nDb := hB.ne nD
    have nsD : s0 ≠ D := ne_of_none es nD
    refine lc_list (K := K) (a := s0) (xs := ns.map natV) (fun i H' => ∃ cs : List Nat, RowN (ns.take i) cs ∧ But b H H' ∧ BagAt H' b (n + i) ∧ H' D = some (.lst (cs.map natV)))
      ⟨[], ⟨rfl, fun i m d h _ => by simp at h⟩, But.of (PvA.same_u nD), hB.upd nDb, upd_same⟩ (fun i H' _ ⟨_, _, k3, _, _⟩ => .inl (.inl (k3.1 _ _ nsb es))) ?_ ?_
    · rintro i x H3 hx ⟨cs, hR, k3, hB3, eD⟩
      rw [List.getElem?_map] at hx
      obtain ⟨m, hm, rfl⟩ := Option.map_eq_some_iff.mp hx
      have bm := hs m (List.mem_of_getElem? hm)
      have li := (List.getElem?_eq_some_iff.mp hm).1
      refine ⟨rfl, ?_⟩
      refine ⟨_, rfl, _, rfl, b, (m : Int), n + i, rfl, hB3, by omega, by omega, by omega, fun H4 d k4 hB4 hd => ?_⟩
      refine ⟨_, k4.1 _ _ nDb eD, ?_, cs ++ [d], hR.snoc hm (by omega), (k3.trans k4).new nD nDb, hB4.upd nDb, ?_⟩
      · rw [List.length_map, hR.1, List.length_take]
        exact lt_line (by omega)
      · rw [upd_same, List.map_append]
        rfl
    · rintro H3 ⟨cs, hR, k3, hB3, eD⟩
      rw [List.length_map, List.take_length] at hR
      rw [List.length_map] at hB3
      exact q H3 D cs k3 (hB3.mono (by omega)) nD eD hR
end
end Fa
namespace Fa
open PySem PySem.Spec PyProof.Rows L2 Lk
abbrev sLWeights : Stmt := top 61
abbrev sLSum : Stmt := top 63
abbrev sLBound : Stmt := top 64
def Small (W : List (List Int)) : Prop := ∀ r ∈ W, ∀ x ∈ r, x.natAbs < 2 ^ 10
theorem CardN.snoc {ns : List Nat} {W : List (List Int)} {xs : List Int} {i n : Nat} (h : CardN (ns.take i) W) (hn : ns[i]? = some n) (hl : xs.length = n) (hx : ∀ x ∈ xs, x.natAbs < 2 ^ 20) : CardN (ns.take (i + 1)) (W ++ [xs]) := by
  have li := (List.getElem?_eq_some_iff.mp hn).1
  have lW : W.length = i := by rw [h.1, List.length_take]; omega
  rw [take_snocF hn]
  refine ⟨by rw [List.length_append, List.length_append, h.1]; rfl, fun j m r hm hr => ?_, fun r hr => ?_⟩
  · by_cases e : j < i
    · rw [List.getElem?_append_left (by rw [List.length_take]; omega)] at hm
      rw [List.getElem?_append_left (by omega)] at hr
      exact h.2.1 j m r hm hr
    · have lj := (List.getElem?_eq_some_iff.mp hr).1
      rw [List.length_append, lW] at lj
      have : j = i := by
        have : j < i + 1 := lj
        omega
      subst this
      rw [List.getElem?_append_right (by rw [List.length_take]; omega), List.length_take, Nat.min_eq_left (by omega), Nat.sub_self] at hm
      rw [List.getElem?_append_right (by omega), lW, Nat.sub_self] at hr
      cases hm
      cases hr
      exact hl
  · rcases List.mem_append.mp hr with hr | hr
    · exact h.2.2 r hr
    · rw [List.mem_singleton.mp hr]
      exact hx
section
variable {P : Program} {w : World} {K : PySem.W.Frag} {mg : Str → Option Value} {base : Heap}
/-! ### _law_weights -/
theorem scLWeights : FnScope ["bag", "sheet", "shape", "weights", "size", "step", "value"] ["bag", "sheet"] (defScope sLWeights) := ⟨rfl, rfl, rfl, by decide +kernel, rfl, by decide +kernel, by decide +kernel⟩
def spLWeights (K : PySem.W.Frag) : Sp := fun vs H Q _ => ∃ (b s : Addr) (n : Nat) (ns : List Nat), vs = [.ref b, .ref s] ∧ BagAt H b n ∧ n ≤ 1000 ∧ H s = some (.lst (ns.map natV)) ∧ s ≠ b ∧ ns.length ≤ 24 ∧ (∀ x ∈ ns, 2 ≤ x ∧ x ≤ 6) ∧
  ∀ (H' : Hp) (v : V) (W : List (List Int)), But b H H' → BagAt H' b (n + 200) → Dp K H' v (wD W) → CardN ns W → Small W → Q v H'
theorem ok_lweights {f : Addr} {fd : FuncData} {k : Nat} (F : Fun K "_law_weights" "_law_weights" sLWeights f fd) (T : Txt mg) (G__law_draw : Has P w K mg base k "_law_draw" ["bag", "many"] spDraw) : FnOk P w K mg base CX0 (k + 1) f fd ["bag", "sheet"] (spLWeights K) := by
  refine F.ok scLWeights (fun vs H Q E h => ?_) (fun cdv A outer s H vs Q E hr h => ?_)
  · obtain ⟨b, s, n, ns, rfl, _⟩ := h
    rfl
  · obtain ⟨b, s0, n, ns, rfl, hB, n1, es, nsb, ls, hs, q⟩ := h
    refine ⟨_, (pss_cons (ps_set (i := 2) scLWeights.nd rfl (.inl rfl) (hc G__law_draw hr (by rfl) (pa_cons (pv 0) (pa_cons pe_int pa_nil))))
      (pss_cons (ps_set (i := 3) scLWeights.nd rfl (.inl rfl) (pe_lstN pa_nil))
      (pss_cons (ps_for PassesOwn.never rfl (pi_list (pv 1)) (pg_name (i := 4) scLWeights.nd rfl (.inl rfl))
        (pss_cons (ps_set (i := 5) scLWeights.nd rfl (.inr rfl) (pe_op op_add pe_int (hc G__law_draw hr (by rfl) (pa_cons (pv 0) (pa_cons pe_int pa_nil)))))
      (pss_one (ps_if (pt_cmpR op_eq (pv 2) pe_int (nomark _)) (pss_one (ps_expr (pe_bm PySem.F.plainAttrs_list PySem.F.slot_list_append PySem.F.type_list_append mt_append (pv 3) (pa_cons (pe_callTy call_tupleN (by rfl) T.tuple (by decide +kernel) (pa_cons (pe_lc (own := [("value", 6)]) (g := gName 6) (tt := tYes) rfl scLWeights.nd (pi_range1 rfl T.range (pa_cons (pv 4) pa_nil))
          (blkOk_by (own := [("value", 6)]) (N := ["bag", "sheet", "shape", "weights", "size", "step", "value"]) (sc := defScope sLWeights) (by decide +kernel)) (fun _ _ _ _ _ => pg_name (i := 6) scLWeights.nd rfl (Or.inl rfl)) (fun _ _ _ _ _ => pts_nil)
          (fun _ _ _ _ _ => (pe_op op_sub (hc G__law_draw hr (by rfl) (pa_cons (pv 0) (pa_cons pe_int pa_nil))) pe_int))) pa_nil)) pa_nil))))
        (pss_one (ps_if (pt_cmpR op_eq (pv 2) pe_int (nomark _)) (pss_one (ps_expr (pe_bm PySem.F.plainAttrs_list PySem.F.slot_list_append PySem.F.type_list_append mt_append (pv 3) (pa_cons (pe_callTy call_tupleN (by rfl) T.tuple (by decide +kernel) (pa_cons (pe_lc (own := [("value", 6)]) (g := gName 6) (tt := tYes) rfl scLWeights.nd (pi_range1 rfl T.range (pa_cons (pv 4) pa_nil))
          (blkOk_by (own := [("value", 6)]) (N := ["bag", "sheet", "shape", "weights", "size", "step", "value"]) (sc := defScope sLWeights) (by decide +kernel)) (fun _ _ _ _ _ => pg_name (i := 6) scLWeights.nd rfl (Or.inl rfl)) (fun _ _ _ _ _ => pts_nil)
          (fun _ _ _ _ _ => (pe_op op_sub (hc G__law_draw hr (by rfl) (pa_cons (pv 0) (pa_cons pe_int pa_nil))) pe_int))) pa_nil)) pa_nil))))
        (pss_one (ps_if (pt_cmpR op_eq (pv 2) pe_int (nomark _)) (pss_one (ps_expr (pe_bm PySem.F.plainAttrs_list PySem.F.slot_list_append PySem.F.type_list_append mt_append (pv 3) (pa_cons (pe_callTy call_tupleN (by rfl) T.tuple (by decide +kernel) (pa_cons (pe_lc (own := [("value", 6)]) (g := gName 6) (tt := tYes) rfl scLWeights.nd (pi_range1 rfl T.range (pa_cons (pv 4) pa_nil))
          (blkOk_by (own := [("value", 6)]) (N := ["bag", "sheet", "shape", "weights", "size", "step", "value"]) (sc := defScope sLWeights) (by decide +kernel)) (fun _ _ _ _ _ => pg_name (i := 6) scLWeights.nd rfl (Or.inl rfl)) (fun _ _ _ _ _ => pts_nil)
          (fun _ _ _ _ _ => (hc G__law_draw hr (by rfl) (pa_cons (pv 0) (pa_cons pe_int pa_nil))))) pa_nil)) pa_nil))))
        (pss_one (ps_if (pt_cmpR op_eq (pv 2) pe_int (nomark _)) (pss_one (ps_expr (pe_bm PySem.F.plainAttrs_list PySem.F.slot_list_append PySem.F.type_list_append mt_append (pv 3) (pa_cons (pe_callTy call_tupleN (by rfl) T.tuple (by decide +kernel) (pa_cons (pe_lc (own := [("value", 6)]) (g := gName 6) (tt := tYes) rfl scLWeights.nd (pi_range1 rfl T.range (pa_cons (pv 4) pa_nil))
          (blkOk_by (own := [("value", 6)]) (N := ["bag", "sheet", "shape", "weights", "size", "step", "value"]) (sc := defScope sLWeights) (by decide +kernel)) (fun _ _ _ _ _ => pg_name (i := 6) scLWeights.nd rfl (Or.inl rfl)) (fun _ _ _ _ _ => pts_nil)
          (fun _ _ _ _ _ => (pe_op op_sub (pe_op op_mul pe_int (hc G__law_draw hr (by rfl) (pa_cons (pv 0) (pa_cons pe_int pa_nil)))) pe_int))) pa_nil)) pa_nil))))
        (pss_one (ps_expr (pe_bm PySem.F.plainAttrs_list PySem.F.slot_list_append PySem.F.type_list_append mt_append (pv 3) (pa_cons (pe_callTy call_tupleN (by rfl) T.tuple (by decide +kernel) (pa_cons (pe_lc (own := [("value", 6)]) (g := gName 6) (tt := tYes) rfl scLWeights.nd (pi_range1 rfl T.range (pa_cons (pv 4) pa_nil))
          (blkOk_by (own := [("value", 6)]) (N := ["bag", "sheet", "shape", "weights", "size", "step", "value"]) (sc := defScope sLWeights) (by decide +kernel)) (fun _ _ _ _ _ => pg_name (i := 6) scLWeights.nd rfl (Or.inl rfl)) (fun _ _ _ _ _ => pts_nil)
          (fun _ _ _ _ _ => (pe_op op_mul (pv 6) (pv 5)))) pa_nil)) pa_nil))))))))))))))
      (pss_one (ps_ret (pe_callTy call_tupleN (by rfl) T.tuple (by decide +kernel) (pa_cons (pv 3) pa_nil))))))), ?_⟩
    refine ⟨_, rfl, b, 5, n, rfl, hB, by omega, by decide, by decide, fun H1 d1 k1 hB1 hd1 => ?_⟩
    refine ⟨by show 0 ≤ sizeLine; decide, fun Wl H2 s2 nW eW => ?_⟩
    have nWH : H Wl = none := k1.2 _ nW
    have nWb := hB.ne nWH
    have es2 := s2 _ _ (k1.1 _ _ nsb es)
    refine ⟨_, rfl, s0, rfl, ⟨_, .inl (.inl es2)⟩, for_list (K := K) (a := s0) (xs := ns.map natV) (fun i σ H' => ∃ (y4 y5 : Option V) (W : List (List Int)) (ts : List V), σ = [some (.ref b), some (.ref s0), some (.int (d1 : Int)), some (.ref Wl), y4, y5, none] ∧
        But b H H' ∧ BagAt H' b (n + 1 + 8 * i) ∧ H' Wl = some (.lst ts) ∧ DpAll K H' ts (W.map rowT) ∧ CardN (ns.take i) W ∧ Small W)
      ⟨none, none, [], [], rfl, k1.trans (But.of s2), (hB1.sm s2).mono (by omega), eW, .nil, ⟨rfl, fun i m r h _ => by simp at h, fun _ h => (nomatch h)⟩, fun _ h => (nomatch h)⟩ (fun i σ H' _ ⟨_, _, _, _, _, k3, _⟩ => .inl (.inl (k3.1 _ _ nsb es))) ?_ ?_⟩
    · rintro i x σ H3 hx ⟨y4, y5, W, ts, rfl, k3, hB3, eW3, hA, hC, hSm⟩
      rw [List.getElem?_map] at hx
      obtain ⟨sz, hm, rfl⟩ := Option.map_eq_some_iff.mp hx
      have bm := hs sz (List.mem_of_getElem? hm)
      have li := (List.getElem?_eq_some_iff.mp hm).1
      refine ⟨_, rfl, b, 10, n + 1 + 8 * i, rfl, hB3, by omega, by decide, by decide, fun H4 d0 k34 hB4 hd0 => ⟨_, _, rfl, rfl, ?_⟩⟩
      have k4 := k3.trans k34
      have eW4 := k34.1 _ _ nWb eW3
      obtain ⟨zs3, e3⟩ := hB3.lst
      have hA4 := DpAll.but e3 k34 (noLs_rows W) hA
      obtain ⟨zs4, e4⟩ := hB4.lst
      obtain ⟨m4, hm4⟩ : ∃ m4, m4 = n + 1 + 8 * i + 1 := ⟨_, rfl⟩
      rw [← hm4] at hB4
      refine ⟨_, rfl, rfl, _, rfl, ite2 (fun _ => ?_) (fun _ => ?_)⟩
      · refine ⟨_, rfl, .inl ⟨rfl, _, .inl (.inl eW4)⟩, ?_⟩
        refine ⟨_, rfl, (sz : Int), rfl, by omega, by omega, fun D nD => ?_⟩
        have nDb := hB4.ne nD
        refine lc_range (lo := 0) (n := ((sz : Nat) : Int).toNat) (fun j H' => ∃ xs : List Int, xs.length = j ∧ (∀ x ∈ xs, x.natAbs < 2 ^ 10) ∧ But b H4 H' ∧ BagAt H' b (m4 + j) ∧ H' D = some (.lst (xs.map V.int)))
          ⟨[], rfl, fun _ h => (nomatch h), But.of (PvA.same_u nD), hB4.upd nDb, upd_same⟩ ?_ ?_
        · rintro j H5 hj ⟨xs, lx, hx, k5, hB5, eD⟩
          refine ⟨rfl, ?_⟩
          refine ⟨_, rfl, b, 101, m4 + j, rfl, hB5, by omega, by decide, by decide, fun H6 d k6 hB6 hd => ⟨_, _, rfl, rfl, ?_⟩⟩
          refine ⟨_, k6.1 _ _ nDb eD, ?_, xs ++ [(d : Int) - 50], ?_, ?_, (k5.trans k6).new nD nDb, hB6.upd nDb, ?_⟩
          · rw [List.length_map, lx]
            exact lt_line (by omega)
          · rw [List.length_append, lx]
            rfl
          · intro x hx'
            rcases List.mem_append.mp hx' with hx' | hx'
            · exact hx x hx'
            · rw [List.mem_singleton.mp hx']
              omega
          · rw [upd_same, List.map_append]
            rfl
        · rintro H5 ⟨xs, lx, hx, k5, hB5, eD⟩
          rw [Int.toNat_natCast] at lx hB5
          refine ⟨D, _, rfl, .inl (.inl eD), fun t H6 s6 n6 e6 => ?_⟩
          have eW6 := s6 _ _ (k5.1 _ _ nWb eW4)
          refine ⟨Wl, ts, .ref t, rfl, rfl, eW6, ?_, some (natV sz), some (.int (1 + (d0 : Int))), W ++ [xs], ts ++ [.ref t], rfl, (k4.trans (k5.trans (But.of s6))).new nWH nWb, ((hB5.sm s6).upd nWb).mono (by omega), upd_same, ?_, hC.snoc hm lx (fun x hx' => Nat.lt_trans (hx x hx') (by decide)), fun r hr x hx' => by
            rcases List.mem_append.mp hr with hr | hr
            · exact hSm r hr x hx'
            · rw [List.mem_singleton.mp hr] at hx'
              exact hx x hx'⟩
          · rw [DpAll.length hA, List.length_map, hC.1, List.length_take]
            exact lt_line (by omega)
          · have hA6 : DpAll K H6 ts (W.map rowT) := DpAll.sm s6 (DpAll.but e4 k5 (noLs_rows W) hA4)
            rw [List.map_append]
            exact DpAll.append (DpAll.but eW6 But.set (noLs_rows W) hA6) (.cons (Dp.but eW6 But.set (noLs_ints xs) (Dp.of_row (.inl (.inl e6)))) .nil)
      refine ⟨_, rfl, rfl, _, rfl, ite2 (fun _ => ?_) (fun _ => ?_)⟩
      · refine ⟨_, rfl, .inl ⟨rfl, _, .inl (.inl eW4)⟩, ?_⟩
        refine ⟨_, rfl, (sz : Int), rfl, by omega, by omega, fun D nD => ?_⟩
        have nDb := hB4.ne nD
        refine lc_range (lo := 0) (n := ((sz : Nat) : Int).toNat) (fun j H' => ∃ xs : List Int, xs.length = j ∧ (∀ x ∈ xs, x.natAbs < 2 ^ 10) ∧ But b H4 H' ∧ BagAt H' b (m4 + j) ∧ H' D = some (.lst (xs.map V.int)))
          ⟨[], rfl, fun _ h => (nomatch h), But.of (PvA.same_u nD), hB4.upd nDb, upd_same⟩ ?_ ?_
        · rintro j H5 hj ⟨xs, lx, hx, k5, hB5, eD⟩
          refine ⟨rfl, ?_⟩
          refine ⟨_, rfl, b, 7, m4 + j, rfl, hB5, by omega, by decide, by decide, fun H6 d k6 hB6 hd => ⟨_, _, rfl, rfl, ?_⟩⟩
          refine ⟨_, k6.1 _ _ nDb eD, ?_, xs ++ [(d : Int) - 3], ?_, ?_, (k5.trans k6).new nD nDb, hB6.upd nDb, ?_⟩
          · rw [List.length_map, lx]
            exact lt_line (by omega)
          · rw [List.length_append, lx]
            rfl
          · intro x hx'
            rcases List.mem_append.mp hx' with hx' | hx'
            · exact hx x hx'
            · rw [List.mem_singleton.mp hx']
              omega
          · rw [upd_same, List.map_append]
            rfl
        · rintro H5 ⟨xs, lx, hx, k5, hB5, eD⟩
          rw [Int.toNat_natCast] at lx hB5
          refine ⟨D, _, rfl, .inl (.inl eD), fun t H6 s6 n6 e6 => ?_⟩
          have eW6 := s6 _ _ (k5.1 _ _ nWb eW4)
          refine ⟨Wl, ts, .ref t, rfl, rfl, eW6, ?_, some (natV sz), some (.int (1 + (d0 : Int))), W ++ [xs], ts ++ [.ref t], rfl, (k4.trans (k5.trans (But.of s6))).new nWH nWb, ((hB5.sm s6).upd nWb).mono (by omega), upd_same, ?_, hC.snoc hm lx (fun x hx' => Nat.lt_trans (hx x hx') (by decide)), fun r hr x hx' => by
            rcases List.mem_append.mp hr with hr | hr
            · exact hSm r hr x hx'
            · rw [List.mem_singleton.mp hr] at hx'
              exact hx x hx'⟩
          · rw [DpAll.length hA, List.length_map, hC.1, List.length_take]
            exact lt_line (by omega)
          · have hA6 : DpAll K H6 ts (W.map rowT) := DpAll.sm s6 (DpAll.but e4 k5 (noLs_rows W) hA4)
            rw [List.map_append]
            exact DpAll.append (DpAll.but eW6 But.set (noLs_rows W) hA6) (.cons (Dp.but eW6 But.set (noLs_ints xs) (Dp.of_row (.inl (.inl e6)))) .nil)
      refine ⟨_, rfl, rfl, _, rfl, ite2 (fun _ => ?_) (fun _ => ?_)⟩
      · refine ⟨_, rfl, .inl ⟨rfl, _, .inl (.inl eW4)⟩, ?_⟩
        refine ⟨_, rfl, (sz : Int), rfl, by omega, by omega, fun D nD => ?_⟩
        have nDb := hB4.ne nD
        refine lc_range (lo := 0) (n := ((sz : Nat) : Int).toNat) (fun j H' => ∃ xs : List Int, xs.length = j ∧ (∀ x ∈ xs, x.natAbs < 2 ^ 10) ∧ But b H4 H' ∧ BagAt H' b (m4 + j) ∧ H' D = some (.lst (xs.map V.int)))
          ⟨[], rfl, fun _ h => (nomatch h), But.of (PvA.same_u nD), hB4.upd nDb, upd_same⟩ ?_ ?_
        · rintro j H5 hj ⟨xs, lx, hx, k5, hB5, eD⟩
          refine ⟨rfl, ?_⟩
          refine ⟨_, rfl, b, 2, m4 + j, rfl, hB5, by omega, by decide, by decide, fun H6 d k6 hB6 hd => ?_⟩
          refine ⟨_, k6.1 _ _ nDb eD, ?_, xs ++ [(d : Int)], ?_, ?_, (k5.trans k6).new nD nDb, hB6.upd nDb, ?_⟩
          · rw [List.length_map, lx]
            exact lt_line (by omega)
          · rw [List.length_append, lx]
            rfl
          · intro x hx'
            rcases List.mem_append.mp hx' with hx' | hx'
            · exact hx x hx'
            · rw [List.mem_singleton.mp hx']
              omega
          · rw [upd_same, List.map_append]
            rfl
        · rintro H5 ⟨xs, lx, hx, k5, hB5, eD⟩
          rw [Int.toNat_natCast] at lx hB5
          refine ⟨D, _, rfl, .inl (.inl eD), fun t H6 s6 n6 e6 => ?_⟩
          have eW6 := s6 _ _ (k5.1 _ _ nWb eW4)
          refine ⟨Wl, ts, .ref t, rfl, rfl, eW6, ?_, some (natV sz), some (.int (1 + (d0 : Int))), W ++ [xs], ts ++ [.ref t], rfl, (k4.trans (k5.trans (But.of s6))).new nWH nWb, ((hB5.sm s6).upd nWb).mono (by omega), upd_same, ?_, hC.snoc hm lx (fun x hx' => Nat.lt_trans (hx x hx') (by decide)), fun r hr x hx' => by
            rcases List.mem_append.mp hr with hr | hr
            · exact hSm r hr x hx'
            · rw [List.mem_singleton.mp hr] at hx'
              exact hx x hx'⟩
          · rw [DpAll.length hA, List.length_map, hC.1, List.length_take]
            exact lt_line (by omega)
          · have hA6 : DpAll K H6 ts (W.map rowT) := DpAll.sm s6 (DpAll.but e4 k5 (noLs_rows W) hA4)
            rw [List.map_append]
            exact DpAll.append (DpAll.but eW6 But.set (noLs_rows W) hA6) (.cons (Dp.but eW6 But.set (noLs_ints xs) (Dp.of_row (.inl (.inl e6)))) .nil)
      refine ⟨_, rfl, rfl, _, rfl, ite2 (fun _ => ?_) (fun _ => ?_)⟩
      · refine ⟨_, rfl, .inl ⟨rfl, _, .inl (.inl eW4)⟩, ?_⟩
        refine ⟨_, rfl, (sz : Int), rfl, by omega, by omega, fun D nD => ?_⟩
        have nDb := hB4.ne nD
        refine lc_range (lo := 0) (n := ((sz : Nat) : Int).toNat) (fun j H' => ∃ xs : List Int, xs.length = j ∧ (∀ x ∈ xs, x.natAbs < 2 ^ 10) ∧ But b H4 H' ∧ BagAt H' b (m4 + j) ∧ H' D = some (.lst (xs.map V.int)))
          ⟨[], rfl, fun _ h => (nomatch h), But.of (PvA.same_u nD), hB4.upd nDb, upd_same⟩ ?_ ?_
        · rintro j H5 hj ⟨xs, lx, hx, k5, hB5, eD⟩
          refine ⟨rfl, ?_⟩
          refine ⟨_, rfl, b, 11, m4 + j, rfl, hB5, by omega, by decide, by decide, fun H6 d k6 hB6 hd => ⟨_, _, rfl, rfl, .inl ⟨by decide, by decide⟩, _, _, rfl, rfl, ?_⟩⟩
          refine ⟨_, k6.1 _ _ nDb eD, ?_, xs ++ [10 * (d : Int) - 50], ?_, ?_, (k5.trans k6).new nD nDb, hB6.upd nDb, ?_⟩
          · rw [List.length_map, lx]
            exact lt_line (by omega)
          · rw [List.length_append, lx]
            rfl
          · intro x hx'
            rcases List.mem_append.mp hx' with hx' | hx'
            · exact hx x hx'
            · rw [List.mem_singleton.mp hx']
              omega
          · rw [upd_same, List.map_append]
            rfl
        · rintro H5 ⟨xs, lx, hx, k5, hB5, eD⟩
          rw [Int.toNat_natCast] at lx hB5
          refine ⟨D, _, rfl, .inl (.inl eD), fun t H6 s6 n6 e6 => ?_⟩
          have eW6 := s6 _ _ (k5.1 _ _ nWb eW4)
          refine ⟨Wl, ts, .ref t, rfl, rfl, eW6, ?_, some (natV sz), some (.int (1 + (d0 : Int))), W ++ [xs], ts ++ [.ref t], rfl, (k4.trans (k5.trans (But.of s6))).new nWH nWb, ((hB5.sm s6).upd nWb).mono (by omega), upd_same, ?_, hC.snoc hm lx (fun x hx' => Nat.lt_trans (hx x hx') (by decide)), fun r hr x hx' => by
            rcases List.mem_append.mp hr with hr | hr
            · exact hSm r hr x hx'
            · rw [List.mem_singleton.mp hr] at hx'
              exact hx x hx'⟩
          · rw [DpAll.length hA, List.length_map, hC.1, List.length_take]
            exact lt_line (by omega)
          · have hA6 : DpAll K H6 ts (W.map rowT) := DpAll.sm s6 (DpAll.but e4 k5 (noLs_rows W) hA4)
            rw [List.map_append]
            exact DpAll.append (DpAll.but eW6 But.set (noLs_rows W) hA6) (.cons (Dp.but eW6 But.set (noLs_ints xs) (Dp.of_row (.inl (.inl e6)))) .nil)
      · refine ⟨_, rfl, .inl ⟨rfl, _, .inl (.inl eW4)⟩, ?_⟩
        refine ⟨_, rfl, (sz : Int), rfl, by omega, by omega, fun D nD => ?_⟩
        have nDb := hB4.ne nD
        refine lc_range (lo := 0) (n := ((sz : Nat) : Int).toNat) (fun j H' => ∃ xs : List Int, xs.length = j ∧ (∀ x ∈ xs, x.natAbs < 2 ^ 10) ∧ But b H4 H' ∧ BagAt H' b (m4 + j) ∧ H' D = some (.lst (xs.map V.int)))
          ⟨[], rfl, fun _ h => (nomatch h), But.of (PvA.same_u nD), hB4.upd nDb, upd_same⟩ ?_ ?_
        · rintro j H5 hj ⟨xs, lx, hx, k5, hB5, eD⟩
          refine ⟨rfl, ?_⟩
          refine ⟨_, rfl, _, rfl, _, _, rfl, rfl, .inl ⟨by omega, by omega⟩, ?_⟩
          have jb : (0 + (j : Int)) * (1 + (d0 : Int)) ≤ 6 * 10 := Int.mul_le_mul (by omega) (by omega) (by omega) (by omega)
          have j0 : 0 ≤ (0 + (j : Int)) * (1 + (d0 : Int)) := Int.mul_nonneg (by omega) (by omega)
          have hB6 : BagAt H5 b (m4 + j + 1) := hB5.mono (by omega)
          refine ⟨_, eD, ?_, xs ++ [(0 + (j : Int)) * (1 + (d0 : Int))], ?_, ?_, k5.new nD nDb, hB6.upd nDb, ?_⟩
          · rw [List.length_map, lx]
            exact lt_line (by omega)
          · rw [List.length_append, lx]
            rfl
          · intro x hx'
            rcases List.mem_append.mp hx' with hx' | hx'
            · exact hx x hx'
            · rw [List.mem_singleton.mp hx']
              omega
          · rw [upd_same, List.map_append]
            rfl
        · rintro H5 ⟨xs, lx, hx, k5, hB5, eD⟩
          rw [Int.toNat_natCast] at lx hB5
          refine ⟨D, _, rfl, .inl (.inl eD), fun t H6 s6 n6 e6 => ?_⟩
          have eW6 := s6 _ _ (k5.1 _ _ nWb eW4)
          refine ⟨Wl, ts, .ref t, rfl, rfl, eW6, ?_, some (natV sz), some (.int (1 + (d0 : Int))), W ++ [xs], ts ++ [.ref t], rfl, (k4.trans (k5.trans (But.of s6))).new nWH nWb, ((hB5.sm s6).upd nWb).mono (by omega), upd_same, ?_, hC.snoc hm lx (fun x hx' => Nat.lt_trans (hx x hx') (by decide)), fun r hr x hx' => by
            rcases List.mem_append.mp hr with hr | hr
            · exact hSm r hr x hx'
            · rw [List.mem_singleton.mp hr] at hx'
              exact hx x hx'⟩
          · rw [DpAll.length hA, List.length_map, hC.1, List.length_take]
            exact lt_line (by omega)
          · have hA6 : DpAll K H6 ts (W.map rowT) := DpAll.sm s6 (DpAll.but e4 k5 (noLs_rows W) hA4)
            rw [List.map_append]
            exact DpAll.append (DpAll.but eW6 But.set (noLs_rows W) hA6) (.cons (Dp.but eW6 But.set (noLs_ints xs) (Dp.of_row (.inl (.inl e6)))) .nil)
    · rintro σ H3 ⟨y4, y5, W, ts, rfl, k3, hB3, eW3, hA, hC, hSm⟩
      rw [List.length_map, List.take_length] at hC
      rw [List.length_map] at hB3
      refine ⟨_, rfl, Wl, ts, rfl, .inl (.inl eW3), fun t H4 s4 n4 e4 => ?_⟩
      exact q H4 (.ref t) W (k3.trans (But.of s4)) ((hB3.sm s4).mono (by omega)) (.tup (.inl (.inl e4)) (DpAll.sm s4 hA)) hC hSm
/-! ### _law_sum -/
theorem scLSum : FnScope ["weights", "row", "field"] ["weights", "row"] (defScope sLSum) := ⟨rfl, rfl, rfl, by decide +kernel, rfl, by decide +kernel, by decide +kernel⟩
theorem ok_lsum {f : Addr} {fd : FuncData} {k : Nat} (F : Fun K "_law_sum" "_law_sum" sLSum f fd) (T : Txt mg) : FnOk P w K mg base CX0 (k + 1) f fd ["weights", "row"] (spSumOf K) := by
  refine F.ok scLSum (fun vs H Q E h => ?_) (fun cdv A outer s H vs Q E hr h => ?_)
  · obtain ⟨v, b, ns, cs, W, rfl, _⟩ := h
    rfl
  · obtain ⟨v, b, ns, cs, W, rfl, hW, hC, hb, hR, hl, q⟩ := h
    refine ⟨_, (pss_one (ps_ret (pe_callB (cr_sum rfl) (by rfl) T.sum (by decide +kernel) (pa_cons (pe_lc (own := [("field", 2)]) (g := gName 2) (tt := tYes) rfl scLSum.nd (pi_range1 rfl T.range (pa_cons (pe_callB call_len_seq (by rfl) T.len PySem.boot_len (pa_cons (pv 1) pa_nil)) pa_nil))
          (blkOk_by (own := [("field", 2)]) (N := ["weights", "row", "field"]) (sc := defScope sLSum) (by decide +kernel)) (fun _ _ _ _ _ => pg_name (i := 2) scLSum.nd rfl (Or.inl rfl)) (fun _ _ _ _ _ => pts_nil)
          (fun _ _ _ _ _ => (pe_ix (r := rIxT K) ix_tup (pe_ix (r := rIxT K) ix_tup (pv 0) (pv 2) (fun _ _ => rfl)) (pe_ix (r := rIxL K) ix_list (pv 1) (pv 2) (fun _ _ => rfl)) (fun _ _ => rfl)))) pa_nil)))), ?_⟩
    obtain ⟨qa, _, rfl, _⟩ := Dp.w_of hW
    refine ⟨_, rfl, b, _, rfl, .inl hb, (cs.length : Int), by rw [List.length_map], by omega, by omega, fun D nD => ?_⟩
    refine lc_range (lo := 0) (n := ((cs.length : Nat) : Int).toNat) (PvA H D fun i => (((List.range cs.length).take i).map (wat W cs)).map V.int) (PvA.start nD rfl) ?_ ?_
    · rintro i H' hi p
      have lt : i < cs.length := by omega
      obtain ⟨xs, t, r, hs, gx, ht, _, gr, _⟩ := w_place (Dp.sm p.1 hW) hC hR lt
      refine ⟨rfl, ?_⟩
      refine ⟨_, rfl, _, rfl, qa, _, _, _, rfl, rfl, hs, at_z gx, _, rfl, _, rfl, b, _, _, _, rfl, rfl, p.1.seq hb, at_z (nat_at lt), t, _, _, _, rfl, rfl, ht, atI_nat gr, ?_⟩
      exact p.keep nD (Same.refl _) (by rw [List.length_map, List.length_map, List.length_take, List.length_range]; omega) (by
        show (((List.range cs.length).take (i + 1)).map (wat W cs)).map V.int = _
        rw [acc_map (range_at lt), List.map_append]
        rfl)
    · rintro H1 ⟨sm, eD⟩
      dsimp only at eD
      rw [List.take_of_length_le (by rw [List.length_range]; omega)] at eD
      exact ⟨D, _, rfl, .inl (.inl eD), q H1 sm⟩
/-! ### _law_bound -/
theorem scLBound : FnScope ["bag", "total", "shape", "far"] ["bag", "total"] (defScope sLBound) := ⟨rfl, rfl, rfl, by decide +kernel, rfl, by decide +kernel, by decide +kernel⟩
def spLBound : Sp := fun vs H Q _ => ∃ (b : Addr) (n : Nat) (z : Int), vs = [.ref b, .int z] ∧ BagAt H b n ∧ n ≤ 1000 ∧ ∀ (H' : Hp) (bd : Int), But b H H' → BagAt H' b (n + 2) → bd.natAbs ≤ z.natAbs + 2000 → Q (.int bd) H'
theorem ok_lbound {f : Addr} {fd : FuncData} {k : Nat} (F : Fun K "_law_bound" "_law_bound" sLBound f fd) (G__law_draw : Has P w K mg base k "_law_draw" ["bag", "many"] spDraw) : FnOk P w K mg base CX0 (k + 1) f fd ["bag", "total"] spLBound := by
  refine F.ok scLBound (fun vs H Q E h => ?_) (fun cdv A outer s H vs Q E hr h => ?_)
  · obtain ⟨b, n, z, rfl, _⟩ := h
    rfl
  · obtain ⟨b, n, z, rfl, hB, n1, q⟩ := h
    refine ⟨_, (pss_cons (ps_set (i := 2) scLBound.nd rfl (.inl rfl) (hc G__law_draw hr (by rfl) (pa_cons (pv 0) (pa_cons pe_int pa_nil))))
      (pss_cons (ps_if (pt_cmpR op_lt (pv 2) pe_int (nomark _)) (pss_one (ps_ret (pe_op op_add (pv 1) (pv 2))))
        pss_nil)
      (pss_cons (ps_set (i := 3) scLBound.nd rfl (.inl rfl) (pe_ix ix_list (pe_lstN (pa_cons pe_int (pa_cons pe_int pa_nil))) (pe_op op_sub (pv 2) pe_int) (fun _ _ => rfl)))
      (pss_one (ps_ret (pe_op op_sub (pe_op op_add (pv 1) (hc G__law_draw hr (by rfl) (pa_cons (pv 0) (pa_cons (pe_op op_add (pe_op op_mul pe_int (pv 3)) pe_int) pa_nil)))) (pv 3))))))), ?_⟩
    refine ⟨_, rfl, b, 4, n, rfl, hB, by omega, by decide, by decide, fun H1 d1 k1 hB1 hd1 => ?_⟩
    refine ⟨_, rfl, _, _, rfl, rfl, _, rfl, ite2 (fun e => ?_) (fun e => ?_)⟩
    · exact ⟨_, rfl, _, rfl, _, _, rfl, rfl, q H1 _ k1 (hB1.mono (by omega)) (by omega)⟩
    · have e : ¬ ((d1 : Nat) : Int) < 2 := fun z => e (decide_eq_true z)
      refine ⟨by show 2 ≤ sizeLine; decide, fun L H2 s2 n2 e2 => ?_⟩
      refine ⟨_, rfl, _, _, rfl, rfl, ?_⟩
      obtain ⟨j, far, ej, hj, hf⟩ : ∃ (j : Nat) (far : Int), ((d1 : Nat) : Int) - 2 = (j : Int) ∧ [V.int 20, V.int 800][j]? = some (.int far) ∧ 0 < far ∧ far ≤ 800 := by
        by_cases h : d1 = 2
        · subst h
          exact ⟨0, 20, rfl, rfl, by decide, by decide⟩
        · have : d1 = 3 := by omega
          subst this
          exact ⟨1, 800, rfl, rfl, by decide, by decide⟩
      refine ⟨L, _, _, .int far, rfl, rfl, .inl (.inl e2), ?_, ?_⟩
      · show atI _ (((d1 : Nat) : Int) - 2) = _
        rw [ej]
        exact atI_nat hj
      refine ⟨_, rfl, _, rfl, _, rfl, _, _, rfl, rfl, .inl ⟨by decide, by decide⟩, _, _, rfl, rfl, ?_⟩
      refine ⟨b, 2 * far + 1, n + 1, rfl, hB1.sm s2, by omega, by omega, by omega, fun H3 d3 k3 hB3 hd3 => ?_⟩
      exact ⟨_, _, rfl, rfl, _, rfl, _, _, rfl, rfl, q H3 _ (k1.trans ((But.of s2).trans k3)) hB3 (by omega)⟩
end
end Fa
namespace Fa
open PySem PySem.Spec PyProof.Rows L2 Lk
abbrev sWhole : Stmt := top 59
abbrev sFlat : Stmt := top 68
section
variable {P : Program} {w : World} {K : PySem.W.Frag} {mg : Str → Option Value} {base : Heap}
/-! ### _law_whole -/
theorem scWhole : FnScope ["found"] ["found"] (defScope sWhole) := ⟨rfl, rfl, rfl, by decide +kernel, rfl, by decide +kernel, by decide +kernel⟩
theorem ok_whole {f : Addr} {fd : FuncData} {k : Nat} (F : Fun K "_law_whole" "_law_whole" sWhole f fd) (T : Txt mg) : FnOk P w K mg base CX0 (k + 1) f fd ["found"] (spIsInteger K) := by
  refine F.ok scWhole (fun vs H Q E h => ?_) (fun cdv A outer s H vs Q E hr h => ?_)
  · obtain ⟨v, d, rfl, _⟩ := h
    rfl
  · obtain ⟨v, d, rfl, hd, q⟩ := h
    refine ⟨_, pss_one (ps_ret (pe_and (pe_callB (call_isiD "int") (by rfl) T.isi (by decide +kernel) (pa_cons (pv 0) (pa_cons (pe_bltn (v := .ty "int") (by rfl) T.int (by decide +kernel) rfl) pa_nil)))
      (pe_one (pe_not (pe_callB (call_isiD "bool") (by rfl) T.isi (by decide +kernel) (pa_cons (pv 0) (pa_cons (pe_bltn (v := .ty "bool") (by rfl) T.bool (by decide +kernel) rfl) pa_nil))))))), ?_⟩
    refine ⟨v, rfl, v, d, rfl, hd, _, rfl, ?_⟩
    cases d <;> first
      | exact iteT ⟨_, rfl, _, _, rfl, hd, _, rfl, q⟩
      | exact iteF q
/-! ### _law_flat, of whole numbers -/
theorem scFlat : FnScope ["found", "part"] ["found"] (defScope sFlat) := ⟨rfl, rfl, rfl, by decide +kernel, rfl, by decide +kernel, by decide +kernel⟩
def spFlat (K : PySem.W.Frag) : Sp := fun vs H Q _ => ∃ (a : Addr) (r : List Int), vs = [.ref a] ∧ SqL K H a (r.map V.int) ∧ ∀ H', Same H H' → Q (.bl true) H'
theorem ok_flat {f : Addr} {fd : FuncData} {k : Nat} (F : Fun K "_law_flat" "_law_flat" sFlat f fd) (T : Txt mg) (G__law_whole : Has P w K mg base k "_law_whole" ["found"] (spIsInteger K)) : FnOk P w K mg base CX0 (k + 1) f fd ["found"] (spFlat K) := by
  refine F.ok scFlat (fun vs H Q E h => ?_) (fun cdv A outer s H vs Q E hr h => ?_)
  · obtain ⟨a, r, rfl, _⟩ := h
    rfl
  · obtain ⟨a, r, rfl, hs, q⟩ := h
    refine ⟨_, (pss_one (ps_ret (pe_and (pe_callB (call_isiD "list") (by rfl) T.isi (by decide +kernel) (pa_cons (pv 0) (pa_cons (pe_bltn (v := .ty "list") (by rfl) T.list (by decide +kernel) rfl) pa_nil))) (pe_one (pe_cmpR (op_eqD hr.units) (pe_lc (own := [("part", 1)]) (g := gName 1) rfl scFlat.nd (pi_list (pv 0))
          (blkOk_by (own := [("part", 1)]) (N := ["found", "part"]) (sc := defScope sFlat) (by decide +kernel)) (fun _ _ _ _ _ => pg_name (i := 1) scFlat.nd rfl (Or.inl rfl)) (fun _ _ _ _ _ => pts_one (pt_not (pt_val (hc G__law_whole hr (by rfl) (pa_cons (pv 1) pa_nil)))))
          (fun _ _ _ _ _ => (pv 1))) (pe_lstN pa_nil) (nomark _)))))), ?_⟩
    refine ⟨_, rfl, _, _, rfl, .lst hs (DpAll.ints r), _, rfl, iteT ?_⟩
    refine ⟨_, rfl, a, rfl, ⟨_, hs⟩, fun D nD => ?_⟩
    refine lc_list (K := K) (a := a) (xs := r.map V.int) (PvA H D fun _ => []) (PvA.start nD rfl) (fun i H' _ p => p.1.seq hs) ?_ ?_
    · rintro i x H' hx p
      rw [List.getElem?_map] at hx
      obtain ⟨c, hc', rfl⟩ := Option.map_eq_some_iff.mp hx
      refine ⟨rfl, ?_⟩
      exact ⟨_, rfl, _, .int c, rfl, .int _, _, rfl, iteF (p.skip (Same.refl _) rfl)⟩
    · rintro H1 ⟨sm, eD⟩
      refine ⟨by show 0 ≤ sizeLine; decide, fun Z H2 s2 nZ eZ => ⟨.list [], .list [], .lst (.inl (.inl (s2 _ _ eD))) .nil, .lst (.inl (.inl eZ)) .nil, by decide +kernel, by decide +kernel, ?_⟩⟩
      rw [show PyData.eqv (.list []) (.list []) = true by decide +kernel]
      exact q H2 (sm.trans s2)
end
end Fa
namespace Fa
open PySem PySem.Spec PyProof.Rows L2 Lk
abbrev sLSlack : Stmt := top 66
abbrev sLDrops : Stmt := top 65
section
variable {P : Program} {w : World} {K : PySem.W.Frag} {mg : Str → Option Value} {base : Heap}
/-- weights, a bound and a case of a law's own -/
def WArgs (K : PySem.W.Frag) (H : Hp) (b : Addr) (v : V) (ns cs : List Nat) (W : List (List Int)) : Prop := Dp K H v (wD W) ∧ CardN ns W ∧ SqL K H b (cs.map natV) ∧ RowN ns cs ∧ ns.length ≤ 24 ∧ ∀ n ∈ ns, 2 ≤ n ∧ n ≤ 6
theorem WArgs.sm {H H' : Hp} {b : Addr} {v : V} {ns cs : List Nat} {W : List (List Int)} (s : Same H H') (h : WArgs K H b v ns cs W) : WArgs K H' b v ns cs W := ⟨Dp.sm s h.1, h.2.1, s.seq h.2.2.1, h.2.2.2⟩
theorem scLSlack : FnScope ["weights", "bound", "row", "total"] ["weights", "bound", "row"] (defScope sLSlack) := ⟨rfl, rfl, rfl, by decide +kernel, rfl, by decide +kernel, by decide +kernel⟩
def spLSlack (K : PySem.W.Frag) : Sp := fun vs H Q _ => ∃ (b : Addr) (v : V) (ns cs : List Nat) (W : List (List Int)) (bd : Int), vs = [v, .int bd, .ref b] ∧ WArgs K H b v ns cs W ∧ ∀ H', Same H H' → Q (.int (slackC W bd cs)) H'
theorem ok_lslack {f : Addr} {fd : FuncData} {k : Nat} (F : Fun K "_law_slack" "_law_slack" sLSlack f fd) (G__law_sum : Has P w K mg base k "_law_sum" ["weights", "row"] (spSumOf K)) : FnOk P w K mg base CX0 (k + 1) f fd ["weights", "bound", "row"] (spLSlack K) := by
  refine F.ok scLSlack (fun vs H Q E h => ?_) (fun cdv A outer s H vs Q E hr h => ?_)
  · obtain ⟨b, v, ns, cs, W, bd, rfl, _⟩ := h
    rfl
  · obtain ⟨b, v, ns, cs, W, bd, rfl, hA, q⟩ := h
    refine ⟨_, (pss_cons (ps_set (i := 3) scLSlack.nd rfl (.inl rfl) (hc G__law_sum hr (by rfl) (pa_cons (pv 0) (pa_cons (pv 2) pa_nil))))
      (pss_cons (ps_if (pt_cmpR op_ge (pv 3) (pv 1) (nomark _)) (pss_one (ps_ret (pe_op op_sub (pv 3) (pv 1))))
        pss_nil)
      (pss_one (ps_ret (pe_op op_sub (pe_op op_sub (pv 1) pe_int) (pv 3)))))), ?_⟩
    have l24 : cs.length ≤ 1000 := by have := hA.2.2.2.2.1; rw [hA.2.2.2.1.1]; omega
    refine ⟨_, rfl, _, rfl, v, b, ns, cs, W, rfl, hA.1, hA.2.1, hA.2.2.1, hA.2.2.2.1, l24, fun H1 s1 => ?_⟩
    have qq := q H1 s1
    unfold slackC at qq
    refine ⟨_, rfl, _, rfl, _, _, rfl, rfl, _, rfl, ite2 (fun e => ?_) (fun e => ?_)⟩
    · rw [if_pos (of_decide_eq_true e)] at qq
      exact ⟨_, rfl, _, rfl, _, _, rfl, rfl, qq⟩
    · rw [if_neg (fun z => e (decide_eq_true z))] at qq
      exact ⟨_, rfl, _, _, rfl, rfl, _, rfl, _, _, rfl, rfl, qq⟩
theorem scLDrops : FnScope ["weights", "bound", "row", "changes", "field", "here", "weight"] ["weights", "bound", "row"] (defScope sLDrops) := ⟨rfl, rfl, rfl, by decide +kernel, rfl, by decide +kernel, by decide +kernel⟩
def spLDrops (K : PySem.W.Frag) : Sp := fun vs H Q _ => ∃ (b : Addr) (v : V) (ns cs : List Nat) (W : List (List Int)) (bd : Int), vs = [v, .int bd, .ref b] ∧ WArgs K H b v ns cs W ∧ ∀ H' r, Same H H' → H r = none → H' r = some (.lst ((dropsC W bd cs).map V.int)) → Q (.ref r) H'
theorem max_here {r : List Int} {c m : Int} (h1 : m ∈ r.map fun x => c - x) (h2 : ∀ y ∈ r.map (fun x => c - x), y ≤ m) : m = c - minR r := by
  obtain ⟨x, hx, rfl⟩ := List.mem_map.mp h1
  rw [minR_uniq hx fun y hy => by have := h2 _ (List.mem_map.mpr ⟨y, hy, rfl⟩); omega]
theorem max_there {r : List Int} {c m : Int} (h1 : m ∈ r.map fun x => x - c) (h2 : ∀ y ∈ r.map (fun x => x - c), y ≤ m) : m = maxR r - c := by
  obtain ⟨x, hx, rfl⟩ := List.mem_map.mp h1
  rw [maxR_uniq hx fun y hy => by have := h2 _ (List.mem_map.mpr ⟨y, hy, rfl⟩); omega]
theorem ok_ldrops {f : Addr} {fd : FuncData} {k : Nat} (F : Fun K "_law_drops" "_law_drops" sLDrops f fd) (T : Txt mg) (G__law_sum : Has P w K mg base k "_law_sum" ["weights", "row"] (spSumOf K)) : FnOk P w K mg base CX0 (k + 1) f fd ["weights", "bound", "row"] (spLDrops K) := by
  refine F.ok scLDrops (fun vs H Q E h => ?_) (fun cdv A outer s H vs Q E hr h => ?_)
  · obtain ⟨b, v, ns, cs, W, bd, rfl, _⟩ := h
    rfl
  · obtain ⟨b, v, ns, cs, W, bd, rfl, hA, q⟩ := h
    refine ⟨_, (pss_cons (ps_set (i := 3) scLDrops.nd rfl (.inl rfl) (pe_lstN pa_nil))
      (pss_cons (ps_for PassesOwn.never rfl (pi_range1 rfl T.range (pa_cons (pe_callB call_len_seq (by rfl) T.len PySem.boot_len (pa_cons (pv 2) pa_nil)) pa_nil)) (pg_name (i := 4) scLDrops.nd rfl (.inl rfl))
        (pss_cons (ps_set (i := 5) scLDrops.nd rfl (.inr rfl) (pe_ix ix_tup (pe_ix ix_tup (pv 0) (pv 4) (fun _ _ => rfl)) (pe_ix ix_list (pv 2) (pv 4) (fun _ _ => rfl)) (fun _ _ => rfl)))
      (pss_one (ps_if (pt_cmpR op_ge (hc G__law_sum hr (by rfl) (pa_cons (pv 0) (pa_cons (pv 2) pa_nil))) (pv 1) (nomark _)) (pss_one (ps_expr (pe_bm PySem.F.plainAttrs_list PySem.F.slot_list_append PySem.F.type_list_append mt_append (pv 3) (pa_cons (pe_callB (cr_max rfl) (by rfl) T.max (by decide +kernel) (pa_cons (pe_lc (own := [("weight", 6)]) (g := gName 6) (tt := tYes) rfl scLDrops.nd (pi_tup (pe_ix ix_tup (pv 0) (pv 4) (fun _ _ => rfl)))
          (blkOk_by (own := [("weight", 6)]) (N := ["weights", "bound", "row", "changes", "field", "here", "weight"]) (sc := defScope sLDrops) (by decide +kernel)) (fun _ _ _ _ _ => pg_name (i := 6) scLDrops.nd rfl (Or.inl rfl)) (fun _ _ _ _ _ => pts_nil)
          (fun _ _ _ _ _ => (pe_callTy call_int1 (by rfl) T.int (by decide +kernel) (pa_cons (pe_op op_sub (pv 5) (pv 6)) pa_nil)))) pa_nil)) pa_nil))))
        (pss_one (ps_expr (pe_bm PySem.F.plainAttrs_list PySem.F.slot_list_append PySem.F.type_list_append mt_append (pv 3) (pa_cons (pe_callB (cr_max rfl) (by rfl) T.max (by decide +kernel) (pa_cons (pe_lc (own := [("weight", 6)]) (g := gName 6) (tt := tYes) rfl scLDrops.nd (pi_tup (pe_ix ix_tup (pv 0) (pv 4) (fun _ _ => rfl)))
          (blkOk_by (own := [("weight", 6)]) (N := ["weights", "bound", "row", "changes", "field", "here", "weight"]) (sc := defScope sLDrops) (by decide +kernel)) (fun _ _ _ _ _ => pg_name (i := 6) scLDrops.nd rfl (Or.inl rfl)) (fun _ _ _ _ _ => pts_nil)
          (fun _ _ _ _ _ => (pe_callTy call_int1 (by rfl) T.int (by decide +kernel) (pa_cons (pe_op op_sub (pv 6) (pv 5)) pa_nil)))) pa_nil)) pa_nil))))))))
      (pss_one (ps_ret (pv 3))))), ?_⟩
    obtain ⟨hW, hC, hb, hR, ls, hns⟩ := hA
    obtain ⟨qa, _, rfl, _⟩ := Dp.w_of hW
    have l24 : cs.length ≤ 24 := by rw [hR.1]; exact ls
    have row6 : ∀ {i : Nat} {r : List Int}, W[i]? = some r → r.length ≤ 1000 := fun {i r} h => by
      have li := (List.getElem?_eq_some_iff.mp h).1
      have lt1 : i < ns.length := by rw [← hC.1]; exact li
      have := hC.2.1 i _ _ (List.getElem?_eq_getElem lt1) h
      have := hns _ (List.getElem_mem lt1)
      omega
    refine ⟨by show 0 ≤ sizeLine; decide, fun Ch H1 s1 n1 e1 => ?_⟩
    have hb1 := s1.seq hb
    refine ⟨_, rfl, b, _, rfl, .inl hb1, (cs.length : Int), by rw [List.length_map], by omega, by omega, for_range (n := ((cs.length : Nat) : Int).toNat) (fun i σ H' => ∃ (y4 y5 : Option V), σ = [some (.ref qa), some (.int bd), some (.ref b), some (.ref Ch), y4, y5, none] ∧
        Same H H' ∧ H' Ch = some (.lst ((((List.range cs.length).take i).map (dropC W bd cs)).map V.int))) ⟨none, none, rfl, s1, e1⟩ ?_ ?_⟩
    · rintro i σ H2 hi ⟨y4, y5, rfl, s2, e2⟩
      have lt : i < cs.length := by omega
      obtain ⟨xs, t, r, hs, gx, ht, gW, gr, hne, _⟩ := w_place (Dp.sm s2 hW) hC hR lt
      have hb2 := s2.seq hb
      have r6 := row6 gW
      refine ⟨_, rfl, _, rfl, qa, _, _, _, rfl, rfl, hs, at_z gx, _, rfl, _, rfl, b, _, _, _, rfl, rfl, hb2, at_z (nat_at lt), t, _, _, _, rfl, rfl, ht, atI_nat gr, ?_⟩
      refine ⟨_, rfl, _, rfl, .ref qa, b, ns, cs, W, rfl, Dp.sm s2 hW, hC, hb2, hR, by omega, fun H3 s3 => ?_⟩
      have e3 := s3 _ _ e2
      have hs3 := Same.tup s3 hs
      have ht3 := Same.tup s3 ht
      have lr : 0 < r.length := Nat.pos_of_ne_zero fun z => hne (List.length_eq_zero_iff.mp z)
      refine ⟨_, rfl, _, _, rfl, rfl, _, rfl, ite2 (fun e => ?_) (fun e => ?_)⟩
      · have e := of_decide_eq_true e
        refine ⟨_, rfl, .inl ⟨rfl, _, .inl (.inl e3)⟩, ?_⟩
        refine ⟨_, rfl, _, rfl, qa, _, _, _, rfl, rfl, hs3, at_z gx, t, rfl, ⟨_, ht3⟩, fun D nD => ?_⟩
        refine lc_tup (K := K) (a := t) (xs := r.map V.int) (PvA H3 D fun j => ((r.take j).map fun x => wat W cs i - x).map V.int) (PvA.start nD rfl) (fun j H' _ pp => Same.tup pp.1 ht3) ?_ ?_
        · rintro j x H4 hx pp
          rw [List.getElem?_map] at hx
          obtain ⟨c, hc', rfl⟩ := Option.map_eq_some_iff.mp hx
          refine ⟨rfl, ?_⟩
          refine ⟨_, rfl, _, rfl, _, _, rfl, rfl, .inl ⟨_, rfl, ?_⟩⟩
          exact pp.keep nD (Same.refl _) (by rw [List.length_map, List.length_map, List.length_take]; omega) (by
            show ((r.take (j + 1)).map fun x => wat W cs i - x).map V.int = _
            rw [acc_map hc', List.map_append]
            rfl)
        · rintro H4 ⟨sm, eD⟩
          dsimp only at eD
          rw [List.length_map, List.take_length] at eD
          refine ⟨D, _, rfl, .inl (.inl eD), by rw [List.length_map]; exact lr, fun m hm hle => ?_⟩
          have em := max_here hm hle
          subst em
          have nDC : Ch ≠ D := ne_of_none e3 nD
          refine ⟨Ch, _, _, rfl, rfl, sm _ _ e3, ?_, _, _, rfl, fun c o h => ?_, ?_⟩
          · rw [List.length_map, List.length_map, List.length_take, List.length_range]
            exact lt_line (by omega)
          · rw [upd_ne (ne_of_none h n1)]
            exact sm _ _ (s3 _ _ (s2 c o h))
          · rw [upd_same, acc_map (range_at lt), List.map_append, show dropC W bd cs i = wat W cs i - minR r by unfold dropC; rw [if_pos e, getD_some gW]]
            rfl
      · have e : ¬ wsum W cs ≥ bd := fun z => e (decide_eq_true z)
        refine ⟨_, rfl, .inl ⟨rfl, _, .inl (.inl e3)⟩, ?_⟩
        refine ⟨_, rfl, _, rfl, qa, _, _, _, rfl, rfl, hs3, at_z gx, t, rfl, ⟨_, ht3⟩, fun D nD => ?_⟩
        refine lc_tup (K := K) (a := t) (xs := r.map V.int) (PvA H3 D fun j => ((r.take j).map fun x => x - wat W cs i).map V.int) (PvA.start nD rfl) (fun j H' _ pp => Same.tup pp.1 ht3) ?_ ?_
        · rintro j x H4 hx pp
          rw [List.getElem?_map] at hx
          obtain ⟨c, hc', rfl⟩ := Option.map_eq_some_iff.mp hx
          refine ⟨rfl, ?_⟩
          refine ⟨_, rfl, _, rfl, _, _, rfl, rfl, .inl ⟨_, rfl, ?_⟩⟩
          exact pp.keep nD (Same.refl _) (by rw [List.length_map, List.length_map, List.length_take]; omega) (by
            show ((r.take (j + 1)).map fun x => x - wat W cs i).map V.int = _
            rw [acc_map hc', List.map_append]
            rfl)
        · rintro H4 ⟨sm, eD⟩
          dsimp only at eD
          rw [List.length_map, List.take_length] at eD
          refine ⟨D, _, rfl, .inl (.inl eD), by rw [List.length_map]; exact lr, fun m hm hle => ?_⟩
          have em := max_there hm hle
          subst em
          have nDC : Ch ≠ D := ne_of_none e3 nD
          refine ⟨Ch, _, _, rfl, rfl, sm _ _ e3, ?_, _, _, rfl, fun c o h => ?_, ?_⟩
          · rw [List.length_map, List.length_map, List.length_take, List.length_range]
            exact lt_line (by omega)
          · rw [upd_ne (ne_of_none h n1)]
            exact sm _ _ (s3 _ _ (s2 c o h))
          · rw [upd_same, acc_map (range_at lt), List.map_append, show dropC W bd cs i = maxR r - wat W cs i by unfold dropC; rw [if_neg e, getD_some gW]]
            rfl
    · rintro σ H2 ⟨y4, y5, rfl, s2, e2⟩
      rw [List.take_of_length_le (by rw [List.length_range]; omega)] at e2
      exact ⟨_, rfl, q H2 Ch s2 n1 e2⟩
end
end Fa
namespace Fa
open PySem PySem.Spec PyProof.Rows L2 Lk
abbrev sWorst : Stmt := top 67
def extR (most : Bool) (r : List Int) : Int := if most = true then maxR r else minR r
def Best (most : Bool) (r : List Int) (b n : Nat) : Prop := b < r.length ∧ ∀ j, j < n → j < r.length → if most = true then r.getD j 0 ≤ r.getD b 0 else r.getD b 0 ≤ r.getD j 0
theorem Best.ext {most : Bool} {r : List Int} {b : Nat} (h : Best most r b r.length) : r[b]? = some (extR most r) := by
  have lb := h.1
  rw [List.getElem?_eq_getElem lb]
  congr 1
  have hb : r.getD b 0 = r[b] := getD_some (List.getElem?_eq_getElem lb)
  have al : ∀ x ∈ r, if most = true then x ≤ r[b] else r[b] ≤ x := fun x hx => by
    obtain ⟨j, hj, rfl⟩ := List.getElem_of_mem hx
    have := h.2 j hj hj
    rw [hb, show r.getD j 0 = r[j] from getD_some (List.getElem?_eq_getElem hj)] at this
    exact this
  unfold extR
  cases most with
  | true =>
    rw [if_pos rfl]
    exact (maxR_uniq (List.getElem_mem lb) fun x hx => by have := al x hx; rw [if_pos rfl] at this; exact this).symm
  | false =>
    rw [if_neg (by decide)]
    exact (minR_uniq (List.getElem_mem lb) fun x hx => by have := al x hx; rw [if_neg (by decide)] at this; exact this).symm
/-- the row behind the changes in some fields -/
def Worst (most : Bool) (W : List (List Int)) (cs : List Nat) (p : Nat → Bool) (co : List Nat) : Prop := co.length = cs.length ∧ ∀ (i : Nat) (r : List Int) (c : Nat), W[i]? = some r → cs[i]? = some c → ∃ c', co[i]? = some c' ∧ c' < r.length ∧ (if p i = true then r[c']? = some (extR most r) else c' = c)
theorem ixN_lt {n i : Nat} (h : i < n) : ixN n (i : Int) = some i := by
  unfold ixN
  rw [if_pos (by omega), if_pos (by omega)]
  rfl
theorem set_self {l : List Nat} {i c : Nat} (h : l[i]? = some c) : l.set i c = l := by
  apply List.ext_getElem?
  intro j
  by_cases e : i = j
  · subst e
    rw [List.getElem?_set_self (List.getElem?_eq_some_iff.mp h).1, h]
  · rw [List.getElem?_set_ne e]
section
variable {P : Program} {w : World} {K : PySem.W.Frag} {mg : Str → Option Value} {base : Heap}
/-! ### _law_worst -/
theorem scWorst : FnScope ["weights", "bound", "row", "fields", "found", "told", "field", "value", "here"] ["weights", "bound", "row", "fields"] (defScope sWorst) := ⟨rfl, rfl, rfl, by decide +kernel, rfl, by decide +kernel, by decide +kernel⟩
def spWorst (K : PySem.W.Frag) : Sp := fun vs H Q _ => ∃ (b d : Addr) (v : V) (ns cs fs : List Nat) (W : List (List Int)) (bd : Int), vs = [v, .int bd, .ref b, .ref d] ∧ Dp K H v (wD W) ∧ CardN ns W ∧ SqL K H b (cs.map natV) ∧ RowN ns cs ∧ ns.length ≤ 24 ∧ (∀ n ∈ ns, 2 ≤ n ∧ n ≤ 6) ∧ SqL K H d (fs.map natV) ∧ (∀ i ∈ fs, i < ns.length) ∧
  ∀ (H' : Hp) (o : Addr) (co : List Nat), Same H H' → H o = none → H' o = some (.lst (co.map natV)) → Worst (!decide (wsum W cs ≥ bd)) W cs (fun i => decide (i ∈ fs)) co → Q (.ref o) H'
theorem ok_worst {f : Addr} {fd : FuncData} {k : Nat} (F : Fun K "_law_worst" "_law_worst" sWorst f fd) (T : Txt mg) (G__law_sum : Has P w K mg base k "_law_sum" ["weights", "row"] (spSumOf K)) : FnOk P w K mg base CX0 (k + 1) f fd ["weights", "bound", "row", "fields"] (spWorst K) := by
  refine F.ok scWorst (fun vs H Q E h => ?_) (fun cdv A outer s H vs Q E hr h => ?_)
  · obtain ⟨b, d, v, ns, cs, fs, W, bd, rfl, _⟩ := h
    rfl
  · obtain ⟨b, d, v, ns, cs, fs, W, bd, rfl, hW, hC, hb, hR, ls, hns, hd, hfs, q⟩ := h
    refine ⟨_, (pss_cons (ps_set (i := 4) scWorst.nd rfl (.inl rfl) (pe_callTy call_listN (by rfl) T.list (by decide +kernel) (pa_cons (pv 2) pa_nil)))
      (pss_cons (ps_set (i := 5) scWorst.nd rfl (.inl rfl) (pe_cmpR op_ge (hc G__law_sum hr (by rfl) (pa_cons (pv 0) (pa_cons (pv 2) pa_nil))) (pv 1) (nomark _)))
      (pss_cons (ps_for PassesOwn.never rfl (pi_list (pv 3)) (pg_name (i := 6) scWorst.nd rfl (.inl rfl))
        (pss_one (ps_for PassesOwn.never rfl (pi_range1 rfl T.range (pa_cons (pe_callB call_len_seq (by rfl) T.len PySem.boot_len (pa_cons (pe_ix ix_tup (pv 0) (pv 6) (fun _ _ => rfl)) pa_nil)) pa_nil)) (pg_name (i := 7) scWorst.nd rfl (.inl rfl))
        (pss_cons (ps_set (i := 8) scWorst.nd rfl (.inl rfl) (pe_ix ix_tup (pe_ix ix_tup (pv 0) (pv 6) (fun _ _ => rfl)) (pe_ix ix_list (pv 4) (pv 6) (fun _ _ => rfl)) (fun _ _ => rfl)))
      (pss_one (ps_if (PW.pt (pw_and (pt_cmpR op_ne (pe_ix ix_tup (pe_ix ix_tup (pv 0) (pv 6) (fun _ _ => rfl)) (pv 7) (fun _ _ => rfl)) (pv 8) (nomark _)) (pw_and1 (pt_cmpR op_eq (pe_cmpR op_lt (pe_ix ix_tup (pe_ix ix_tup (pv 0) (pv 6) (fun _ _ => rfl)) (pv 7) (fun _ _ => rfl)) (pv 8) (nomark _)) (pv 5) (nomark _))))) (pss_one (ps_asg (pv 7) (pg_sub (pv 4) (pv 6) set_list)))
        pss_nil))))))
      (pss_one (ps_ret (pv 4)))))), ?_⟩
    obtain ⟨qa, xs, rfl, hq, lx, hx⟩ := Dp.w_of hW
    have rf := row_facts hC hns
    have lcs : cs.length = W.length := by rw [hR.1, hC.1]
    refine ⟨_, rfl, b, _, rfl, .inl hb, fun Fo H1 s1 n1 e1 => ?_⟩
    refine ⟨_, rfl, _, rfl, .ref qa, b, ns, cs, W, rfl, Dp.sm s1 hW, hC, s1.seq hb, hR, by rw [hR.1]; omega, fun H2 s2 => ⟨_, rfl, _, _, rfl, rfl, ?_⟩⟩
    obtain ⟨told, ht⟩ : ∃ told : Bool, told = decide (wsum W cs ≥ bd) := ⟨_, rfl⟩
    rw [← ht] at q
    refine g_name (nx_red ?_)
    refine st_eq (σ' := [some (.ref qa), some (.int bd), some (.ref b), some (.ref d), some (.ref Fo), some (.bl told), none, none, none]) (by rw [ht]; rfl) ?_
    have s12 := s1.trans s2
    refine ⟨_, rfl, d, rfl, ⟨_, s12.seq hd⟩, for_list (K := K) (a := d) (xs := fs.map natV) (fun i σ H' => ∃ (y6 y7 y8 : Option V) (co : List Nat), σ = [some (.ref qa), some (.int bd), some (.ref b), some (.ref d), some (.ref Fo), some (.bl told), y6, y7, y8] ∧ Same H H' ∧ H' Fo = some (.lst (co.map natV)) ∧ Worst (!told) W cs (fun j => decide (j ∈ fs.take i)) co)
      ⟨none, none, none, cs, rfl, s12, s2 _ _ e1, rfl, fun i r c hr' hc' => ⟨c, hc', ?_, by rw [if_neg (by simp)]⟩⟩ (fun i σ H' _ ⟨_, _, _, _, _, sm, _⟩ => sm.seq hd) ?_ ?_⟩
    · have li := (List.getElem?_eq_some_iff.mp hc').1
      have li2 : i < ns.length := by rw [← hR.1]; exact li
      have := hC.2.1 i _ _ (List.getElem?_eq_getElem li2) hr'
      have := hR.2 i _ _ (List.getElem?_eq_getElem li2) hc'
      omega
    · rintro i x σ H3 hxi ⟨y6, y7, y8, co, rfl, s3, e3, hWo⟩
      rw [List.getElem?_map] at hxi
      obtain ⟨fi, hfi, rfl⟩ := Option.map_eq_some_iff.mp hxi
      have lf := hfs fi (List.mem_of_getElem? hfi)
      have liW : fi < W.length := by rw [hC.1]; exact lf
      have ltx : fi < xs.length := by rw [lx]; exact liW
      have ltc : fi < cs.length := by rw [lcs]; exact liW
      obtain ⟨r, t, hr', ex, ht'⟩ := hx fi _ (List.getElem?_eq_getElem ltx)
      have gx : xs[fi]? = some (.ref t) := by rw [List.getElem?_eq_getElem ltx, ex]
      have ht3 := Same.tup s3 ht'
      have hq3 := Same.tup s3 hq
      have r6 := (rf _ _ hr').1
      obtain ⟨c0, hc0, lc0, _⟩ := hWo.2 fi r _ hr' (List.getElem?_eq_getElem ltc)
      have ltco : fi < co.length := (List.getElem?_eq_some_iff.mp hc0).1
      refine ⟨_, rfl, _, rfl, qa, _, _, _, rfl, rfl, hq3, atI_nat gx, t, _, rfl, .inr ht3, (r.length : Int), by rw [List.length_map], by omega, by omega, for_range (n := ((r.length : Nat) : Int).toNat) (fun l σ H' => ∃ (y7 y8 : Option V) (bb : Nat), σ = [some (.ref qa), some (.int bd), some (.ref b), some (.ref d), some (.ref Fo), some (.bl told), some (natV fi), y7, y8] ∧ Same H H' ∧ H' Fo = some (.lst ((co.set fi bb).map natV)) ∧ Best (!told) r bb l)
        ⟨y7, y8, c0, rfl, s3, by rw [e3, set_self hc0], lc0, fun j h => absurd h (Nat.not_lt_zero _)⟩ ?_ ?_⟩
      · rintro l σ H4 hl ⟨y7, y8, bb, rfl, s4, e4, hB⟩
        have ll : l < r.length := by omega
        have lb : bb < r.length := hB.1
        have gl : (r.map V.int)[l]? = some (.int r[l]) := by rw [List.getElem?_map, List.getElem?_eq_getElem ll]; rfl
        have gb : (r.map V.int)[bb]? = some (.int r[bb]) := by rw [List.getElem?_map, List.getElem?_eq_getElem lb]; rfl
        have gf : ((co.set fi bb).map natV)[fi]? = some (natV bb) := by rw [List.getElem?_map, List.getElem?_set_self ltco]; rfl
        have dl : r.getD l 0 = r[l] := getD_some (List.getElem?_eq_getElem ll)
        have db : r.getD bb 0 = r[bb] := getD_some (List.getElem?_eq_getElem lb)
        have ht4 := Same.tup s4 ht'
        have hq4 := Same.tup s4 hq
        have old : (if (!told) = true then r[l] ≤ r[bb] else r[bb] ≤ r[l]) → Best (!told) r bb (l + 1) := fun hz => ⟨hB.1, fun j hj hj2 => by
          by_cases e : j = l
          · subst e
            rw [dl, db]
            exact hz
          · exact hB.2 j (by omega) hj2⟩
        refine ⟨_, rfl, _, rfl, qa, _, _, _, rfl, rfl, hq4, atI_nat gx, _, rfl, _, rfl, Fo, _, _, _, rfl, rfl, .inl (.inl e4), atI_nat gf, t, _, _, _, rfl, rfl, ht4, atI_nat gb, ?_⟩
        refine ⟨_, rfl, _, rfl, qa, _, _, _, rfl, rfl, hq4, atI_nat gx, _, rfl, t, _, _, _, rfl, rfl, ht4, at_z gl, _, rfl, rfl, _, rfl, ?_⟩
        by_cases e1 : r[l] = r[bb]
        · rw [e1, decide_eq_true rfl]
          refine iteF ⟨_, _, bb, rfl, s4, e4, old ?_⟩
          rw [e1]
          cases told <;> simp
        · rw [decide_eq_false (fun z => e1 (V.int.inj z))]
          refine iteT ⟨_, rfl, _, rfl, qa, _, _, _, rfl, rfl, hq4, atI_nat gx, _, rfl, t, _, _, _, rfl, rfl, ht4, at_z gl, _, rfl, _, _, rfl, rfl, _, rfl, rfl, _, rfl, ite2 (fun e => ?_) (fun e => ?_)⟩
          · have e := V.bl.inj (of_decide_eq_true e)
            refine ⟨_, rfl, _, rfl, _, rfl, Fo, _, _, fi, rfl, rfl, e4, ixN_lt (by rw [List.length_map, List.length_set]; exact ltco), some (.int (0 + (l : Int))), some (.int r[bb]), l, rfl, fun c o h => ?_, ?_, ll, fun j hj hj2 => ?_⟩
            · rw [upd_ne (ne_of_none h n1)]
              exact s4 c o h
            · rw [upd_same, show V.int (0 + (l : Int)) = natV l from congrArg V.int (Int.zero_add _), ← List.map_set, List.set_set]
            · rw [dl]
              by_cases ej : j = l
              · subst ej
                rw [dl]
                cases told <;> simp
              · have hj3 := hB.2 j (by omega) hj2
                rw [db] at hj3
                cases told with
                | true =>
                  have e := of_decide_eq_true e
                  rw [if_neg (show ¬ (!true) = true by decide)] at hj3 ⊢
                  omega
                | false =>
                  have e := of_decide_eq_false e
                  rw [if_pos (show (!false) = true from rfl)] at hj3 ⊢
                  omega
          · refine ⟨_, _, bb, rfl, s4, e4, old ?_⟩
            have e : ¬ decide (r[l] < r[bb]) = told := fun z => e (decide_eq_true (congrArg V.bl z))
            cases told with
            | true =>
              rw [if_neg (show ¬ (!true) = true by decide)]
              have : ¬ r[l] < r[bb] := fun z => e (decide_eq_true z)
              omega
            | false =>
              rw [if_pos (show (!false) = true from rfl)]
              have : r[l] < r[bb] := Decidable.byContradiction fun z => e (decide_eq_false z)
              omega
      · rintro σ H4 ⟨y7, y8, bb, rfl, s4, e4, hB⟩
        rw [Int.toNat_natCast] at hB
        refine ⟨_, _, _, co.set fi bb, rfl, s4, e4, by rw [List.length_set]; exact hWo.1, fun j r2 c hr2 hc2 => ?_⟩
        by_cases ej : j = fi
        · subst ej
          rw [hr'] at hr2
          cases hr2
          refine ⟨bb, List.getElem?_set_self ltco, hB.1, ?_⟩
          rw [if_pos (show decide (j ∈ fs.take (i + 1)) = true by rw [take_snocF hfi]; simp)]
          exact hB.ext
        · obtain ⟨c', h1, h2, h3⟩ := hWo.2 j r2 c hr2 hc2
          refine ⟨c', by rw [List.getElem?_set_ne (fun z => ej z.symm)]; exact h1, h2, ?_⟩
          have : decide (j ∈ fs.take (i + 1)) = decide (j ∈ fs.take i) := by
            rw [take_snocF hfi, decide_eq_decide, List.mem_append, List.mem_singleton]
            exact ⟨fun z => z.resolve_right ej, .inl⟩
          show if decide (j ∈ fs.take (i + 1)) = true then _ else _
          rw [this]
          exact h3
    · rintro σ H3 ⟨y6, y7, y8, co, rfl, s3, e3, hWo⟩
      rw [List.length_map, List.take_length] at hWo
      exact ⟨_, rfl, q H3 Fo co s3 n1 e3 hWo⟩
end
end Fa
namespace Fa
open PySem PySem.Spec PyProof.Rows L2 Lk
/-! ### the worst case: the mathematics -/
theorem sum_filter (q : Nat → Bool) (f : Nat → Int) : ∀ l : List Nat, ((l.filter q).map f).sum = (l.map fun i => if q i = true then f i else 0).sum
  | [] => rfl
  | a :: l => by
    rw [List.filter_cons, List.map_cons, List.sum_cons]
    by_cases h : q a = true
    · rw [if_pos h, if_pos h, List.map_cons, List.sum_cons, sum_filter q f l]
    · rw [if_neg h, if_neg h, sum_filter q f l]
      omega
theorem sum_rel (f g h : Nat → Int) (k : Int) : ∀ l : List Nat, (∀ x ∈ l, f x = g x + k * h x) → (l.map f).sum = (l.map g).sum + k * (l.map h).sum
  | [], _ => by simp
  | a :: l, e => by
    rw [List.map_cons, List.map_cons, List.map_cons, List.sum_cons, List.sum_cons, List.sum_cons, sum_rel f g h k l fun x hx => e x (List.mem_cons_of_mem _ hx), e a (List.mem_cons_self ..), Int.mul_add]
    omega
theorem sum_le (f g : Nat → Int) : ∀ l : List Nat, (∀ x ∈ l, f x ≤ g x) → (l.map f).sum ≤ (l.map g).sum
  | [], _ => Int.le_refl _
  | a :: l, e => by
    rw [List.map_cons, List.map_cons, List.sum_cons, List.sum_cons]
    have := sum_le f g l fun x hx => e x (List.mem_cons_of_mem _ hx)
    have := e a (List.mem_cons_self ..)
    omega
theorem wat_at {W : List (List Int)} {cs : List Nat} {i c : Nat} {r : List Int} {x : Int} (hr : W[i]? = some r) (hc : cs[i]? = some c) (hx : r[c]? = some x) : wat W cs i = x := by
  unfold wat
  rw [getD_some hr, getD_some hc, getD_some hx]
section
variable {ns cs co : List Nat} {W : List (List Int)} {bd : Int} {q : Nat → Bool}
/-- the sum of the worst case -/
theorem wsum_worst (hC : CardN ns W) (hR : RowN ns cs) (hw : Worst (!decide (wsum W cs ≥ bd)) W cs q co) :
    wsum W co = wsum W cs + (if wsum W cs ≥ bd then -1 else 1) * (((List.range cs.length).filter q).map (dropC W bd cs)).sum := by
  rw [sum_filter]
  unfold wsum
  rw [hw.1]
  refine sum_rel _ _ _ _ _ fun i hi => ?_
  have lt := List.mem_range.mp hi
  have lt1 : i < ns.length := by rw [← hR.1]; exact lt
  have lt2 : i < W.length := by rw [hC.1]; exact lt1
  have gW := List.getElem?_eq_getElem lt2
  have gc := List.getElem?_eq_getElem lt
  obtain ⟨c', h1, h2, h3⟩ := hw.2 i _ _ gW gc
  have bc := hR.2 i _ _ (List.getElem?_eq_getElem lt1) gc
  have el := hC.2.1 i _ _ (List.getElem?_eq_getElem lt1) gW
  have gr := List.getElem?_eq_getElem (show cs[i] < (W[i]).length by omega)
  have e0 := wat_at gW gc gr
  have gd : W.getD i [] = W[i] := getD_some gW
  by_cases hq : q i = true
  · rw [if_pos hq] at h3 ⊢
    rw [wat_at gW h1 h3]
    unfold dropC
    rw [gd]
    show extR (!decide (wsum W cs ≥ bd)) W[i] = wat W cs i + (if wsum W cs ≥ bd then -1 else 1) * (if wsum W cs ≥ bd then wat W cs i - minR W[i] else maxR W[i] - wat W cs i)
    by_cases ht : wsum W cs ≥ bd
    · rw [if_pos ht, if_pos ht, decide_eq_true ht]
      show minR W[i] = _
      omega
    · rw [if_neg ht, if_neg ht, decide_eq_false ht]
      show maxR W[i] = _
      omega
  · rw [if_neg hq] at h3 ⊢
    subst h3
    rw [wat_at gW h1 gr, e0]
    omega
/-- what any other case with the same values keeps -/
theorem wsum_other (hC : CardN ns W) (hR : RowN ns cs) (hR2 : RowN ns co) (hs : ∀ (i : Nat), i < cs.length → q i = false → co[i]? = cs[i]?) :
    if wsum W cs ≥ bd then wsum W cs - (((List.range cs.length).filter q).map (dropC W bd cs)).sum ≤ wsum W co else wsum W co ≤ wsum W cs + (((List.range cs.length).filter q).map (dropC W bd cs)).sum := by
  rw [sum_filter]
  have lco : co.length = cs.length := by rw [hR.1, hR2.1]
  have key : ∀ i ∈ List.range cs.length, if wsum W cs ≥ bd then wat W cs i + (-1) * (if q i = true then dropC W bd cs i else 0) ≤ wat W co i else wat W co i ≤ wat W cs i + 1 * (if q i = true then dropC W bd cs i else 0) := fun i hi => by
    have lt := List.mem_range.mp hi
    have lt1 : i < ns.length := by rw [← hR.1]; exact lt
    have lt2 : i < W.length := by rw [hC.1]; exact lt1
    have lt3 : i < co.length := by rw [lco]; exact lt
    have gW := List.getElem?_eq_getElem lt2
    have gc := List.getElem?_eq_getElem lt
    have g2 := List.getElem?_eq_getElem lt3
    have el := hC.2.1 i _ _ (List.getElem?_eq_getElem lt1) gW
    have b1 := hR.2 i _ _ (List.getElem?_eq_getElem lt1) gc
    have b2 := hR2.2 i _ _ (List.getElem?_eq_getElem lt1) g2
    have gr := List.getElem?_eq_getElem (show cs[i] < (W[i]).length by omega)
    have gr2 := List.getElem?_eq_getElem (show co[i] < (W[i]).length by omega)
    have e0 := wat_at gW gc gr
    have e2 := wat_at gW g2 gr2
    have gd : W.getD i [] = W[i] := getD_some gW
    have ne : W[i] ≠ [] := fun z => by
      have : (W[i]).length = 0 := by rw [z]; rfl
      omega
    have mn := (minR_spec ne).2 _ (List.mem_of_getElem? gr2)
    have mx := (maxR_spec ne).2 _ (List.mem_of_getElem? gr2)
    rw [← e2] at mn mx
    by_cases hq : q i = true
    · rw [if_pos hq]
      unfold dropC
      rw [gd]
      by_cases ht : wsum W cs ≥ bd
      · rw [if_pos ht, if_pos ht]
        omega
      · rw [if_neg ht, if_neg ht]
        omega
    · rw [if_neg hq]
      have e3 : wat W co i = wat W cs i := by
        have z := hs i lt (Bool.eq_false_iff.mpr hq)
        rw [g2, gc] at z
        rw [e0]
        rw [g2, Option.some.inj z] at g2
        exact wat_at gW (by rw [List.getElem?_eq_getElem lt3, Option.some.inj z]) gr
      by_cases ht : wsum W cs ≥ bd
      · rw [if_pos ht]
        omega
      · rw [if_neg ht]
        omega
  by_cases ht : wsum W cs ≥ bd
  · rw [if_pos ht]
    have k2 : ∀ i ∈ List.range cs.length, wat W cs i + (-1) * (if q i = true then dropC W bd cs i else 0) ≤ wat W co i := fun i hi => by have := key i hi; rw [if_pos ht] at this; exact this
    have h1 := sum_le _ _ _ k2
    rw [sum_rel (fun i => wat W cs i + (-1) * (if q i = true then dropC W bd cs i else 0)) (wat W cs) (fun i => if q i = true then dropC W bd cs i else 0) (-1) _ fun _ _ => rfl] at h1
    have e1 : wsum W co = ((List.range cs.length).map (wat W co)).sum := by unfold wsum; rw [lco]
    have e2 : wsum W cs = ((List.range cs.length).map (wat W cs)).sum := rfl
    omega
  · rw [if_neg ht]
    have k2 : ∀ i ∈ List.range cs.length, wat W co i ≤ wat W cs i + 1 * (if q i = true then dropC W bd cs i else 0) := fun i hi => by have := key i hi; rw [if_neg ht] at this; exact this
    have h1 := sum_le _ _ _ k2
    rw [sum_rel (fun i => wat W cs i + 1 * (if q i = true then dropC W bd cs i else 0)) (wat W cs) (fun i => if q i = true then dropC W bd cs i else 0) 1 _ fun _ _ => rfl] at h1
    have e1 : wsum W co = ((List.range cs.length).map (wat W co)).sum := by unfold wsum; rw [lco]
    have e2 : wsum W cs = ((List.range cs.length).map (wat W cs)).sum := rfl
    omega
end
end Fa
namespace Fa
open PySem PySem.Spec PyProof.Rows L2 Lk
abbrev sFirst : Stmt := top 53
abbrev sFewest : Stmt := top 54
abbrev sDesc : Stmt := top 55
theorem drops_nonneg {ns cs : List Nat} {W : List (List Int)} (bd : Int) (hC : CardN ns W) (hR : RowN ns cs) : ∀ y ∈ dropsC W bd cs, 0 ≤ y := fun y hy => by
  obtain ⟨i, hi, rfl⟩ := List.mem_map.mp hy
  have lt := List.mem_range.mp hi
  have lt1 : i < ns.length := by rw [← hR.1]; exact lt
  have lt2 : i < W.length := by rw [hC.1]; exact lt1
  have gW := List.getElem?_eq_getElem lt2
  have gc := List.getElem?_eq_getElem lt
  have el := hC.2.1 i _ _ (List.getElem?_eq_getElem lt1) gW
  have b1 := hR.2 i _ _ (List.getElem?_eq_getElem lt1) gc
  have gr := List.getElem?_eq_getElem (show cs[i] < (W[i]).length by omega)
  have e0 : wat W cs i = (W[i])[cs[i]] := by
    unfold wat
    rw [getD_some gW, getD_some gc, getD_some gr]
  have ne : W[i] ≠ [] := fun z => by
    have : (W[i]).length = 0 := by rw [z]; rfl
    omega
  have mn := (minR_spec ne).2 _ (List.mem_of_getElem? gr)
  have mx := (maxR_spec ne).2 _ (List.mem_of_getElem? gr)
  unfold dropC
  rw [show W.getD i [] = W[i] from getD_some gW]
  split <;> omega
theorem drops_len {cs : List Nat} {W : List (List Int)} {bd : Int} : (dropsC W bd cs).length = cs.length := by
  unfold dropsC
  rw [List.length_map, List.length_range]
theorem slack_nonneg (W : List (List Int)) (bd : Int) (cs : List Nat) : 0 ≤ slackC W bd cs := by
  unfold slackC
  split <;> omega
section
variable {P : Program} {w : World} {K : PySem.W.Frag} {mg : Str → Option Value} {base : Heap}
/-! ### ascending_numbers, of a list -/
def spAscL (K : PySem.W.Frag) : Sp := fun vs H Q _ => ∃ (a : Addr) (r : List Int), vs = [.ref a] ∧ SqL K H a (r.map V.int) ∧ r.length ≤ 1000 ∧ ∀ (H' : Hp) (p : Addr) (ns : List Int), Same H H' → H p = none → H' p = some (.lst (ns.map V.int)) → ns.Perm r → ns.Pairwise (· ≤ ·) → Q (.ref p) H'
theorem ok_ascL {f : Addr} {fd : FuncData} {k : Nat} (F : Fun K "ascending_numbers" "ascending_numbers" sAscN f fd) (T : Txt mg) : FnOk P w K mg base CX0 (k + 1) f fd ["numbers"] (spAscL K) := by
  refine F.ok scAscN (fun vs H Q E h => ?_) (fun cdv A outer s H vs Q E hr h => ?_)
  · obtain ⟨a, r, rfl, _⟩ := h
    rfl
  · obtain ⟨a, r, rfl, hs, hl, q⟩ := h
    refine ⟨_, (pss_one (ps_ret (pe_callB cr_sortedN (by rfl) T.sorted (by decide +kernel) (pa_cons (pe_lc (own := [("number", 1)]) (g := gName 1) (tt := tYes) rfl scAscN.nd (pi_list (pv 0)) (blkOk_by (own := [("number", 1)]) (N := ["numbers", "number"]) (sc := defScope sAscN) (by decide +kernel)) (fun _ _ _ _ _ => pg_name (i := 1) scAscN.nd rfl (Or.inl rfl)) (fun _ _ _ _ _ => pts_nil) (fun _ _ _ _ _ => (pe_callTy call_int1 (by rfl) T.int (by decide +kernel) (pa_cons (pv 1) pa_nil)))) pa_nil)))), ?_⟩
    refine ⟨_, rfl, a, rfl, ⟨_, hs⟩, fun D nD => ?_⟩
    refine lc_list (K := K) (a := a) (xs := r.map V.int) (PvA H D fun i => (r.take i).map V.int) (PvA.start nD rfl) (fun i H' _ p => p.1.seq hs) ?_ ?_
    · rintro i x H' hx p
      rw [List.getElem?_map] at hx
      obtain ⟨c, hc', rfl⟩ := Option.map_eq_some_iff.mp hx
      refine ⟨rfl, ?_⟩
      refine ⟨_, rfl, .inl ⟨_, rfl, ?_⟩⟩
      exact p.keep nD (Same.refl _) (acc_lm (by omega)) (acc_map hc')
    · rintro H1 ⟨sm, eD⟩
      dsimp only at eD
      rw [List.length_map, List.take_length] at eD
      exact ⟨D, r, rfl, .inl (.inl eD), fun ns hp hw p H2 s2 n2 e2 => q H2 p ns (sm.trans s2) (sm.free n2) e2 hp hw⟩
/-! ### _descending -/
theorem scDesc : FnScope ["numbers"] ["numbers"] (defScope sDesc) := ⟨rfl, rfl, rfl, by decide +kernel, rfl, by decide +kernel, by decide +kernel⟩
def spDesc (K : PySem.W.Frag) : Sp := fun vs H Q _ => ∃ (a : Addr) (r : List Int), vs = [.ref a] ∧ SqL K H a (r.map V.int) ∧ r.length ≤ 1000 ∧ ∀ (H' : Hp) (p : Addr) (ns : List Int), Same H H' → H p = none → H' p = some (.lst (ns.map V.int)) → ns.Perm r → ns.Pairwise (· ≥ ·) → Q (.ref p) H'
theorem ok_desc {f : Addr} {fd : FuncData} {k : Nat} (F : Fun K "_descending" "_descending" sDesc f fd) (G_ascending_numbers : Has P w K mg base k "ascending_numbers" ["numbers"] (spAscL K)) : FnOk P w K mg base CX0 (k + 1) f fd ["numbers"] (spDesc K) := by
  refine F.ok scDesc (fun vs H Q E h => ?_) (fun cdv A outer s H vs Q E hr h => ?_)
  · obtain ⟨a, r, rfl, _⟩ := h
    rfl
  · obtain ⟨a, r, rfl, hs, hl, q⟩ := h
    refine ⟨_, (pss_one (ps_ret (pe_revL (hc G_ascending_numbers hr (by rfl) (pa_cons (pv 0) pa_nil))))), ?_⟩
    refine ⟨_, rfl, a, r, rfl, hs, hl, fun H1 p ns s1 n1 e1 hp hw => ⟨p, _, rfl, .inl (.inl e1), fun p2 n2 => ?_⟩⟩
    exact q _ p2 ns.reverse (s1.trans (PvA.same_u n2)) (s1.free n2) (by rw [upd_same, List.map_reverse]) ((List.reverse_perm ns).trans hp) (List.pairwise_reverse.mpr hw)
/-! ### _fewest_reaching -/
theorem scFewest : FnScope ["numbers", "goal", "length", "reached", "number"] ["numbers", "goal"] (defScope sFewest) := ⟨rfl, rfl, rfl, by decide +kernel, rfl, by decide +kernel, by decide +kernel⟩
def Goal (K : PySem.W.Frag) (H : Hp) (b : Addr) (ds : List Int) (goal : Int) : Prop := SqL K H b (ds.map V.int) ∧ ds.length ≤ 24 ∧ (∀ y ∈ ds, 0 ≤ y) ∧ goal ≤ ds.sum
theorem Goal.sm {H H' : Hp} {b : Addr} {ds : List Int} {goal : Int} (s : Same H H') (h : Goal K H b ds goal) : Goal K H' b ds goal := ⟨s.seq h.1, h.2⟩
def spFewest (K : PySem.W.Frag) : Sp := fun vs H Q _ => ∃ (b : Addr) (ds : List Int) (goal : Int), vs = [.ref b, .int goal] ∧ Goal K H b ds goal ∧ ∀ (H' : Hp) (L : Nat), Same H H' → goal ≤ topG ds L → (∀ r, r < L → topG ds r < goal) → Q (natV L) H'
theorem ok_fewest {f : Addr} {fd : FuncData} {k : Nat} (F : Fun K "_fewest_reaching" "_fewest_reaching" sFewest f fd) (G__descending : Has P w K mg base k "_descending" ["numbers"] (spDesc K)) : FnOk P w K mg base CX0 (k + 1) f fd ["numbers", "goal"] (spFewest K) := by
  refine F.ok scFewest (fun vs H Q E h => ?_) (fun cdv A outer s H vs Q E hr h => ?_)
  · obtain ⟨b, ds, goal, rfl, _⟩ := h
    rfl
  · obtain ⟨b, ds, goal, rfl, ⟨hs, hl, h0, hg⟩, q⟩ := h
    refine ⟨_, (pss_cons (ps_set (i := 2) scFewest.nd rfl (.inl rfl) pe_int)
      (pss_cons (ps_set (i := 3) scFewest.nd rfl (.inl rfl) pe_int)
      (pss_cons (ps_for PassesOwn.never rfl (pi_list (hc G__descending hr (by rfl) (pa_cons (pv 0) pa_nil))) (pg_name (i := 4) scFewest.nd rfl (.inl rfl))
        (pss_one (ps_if (pt_cmpR op_lt (pv 3) (pv 1) (nomark _)) (pss_cons (ps_set (i := 3) scFewest.nd rfl (.inl rfl) (pe_op op_add (pv 3) (pv 4)))
      (pss_one (ps_aug (i := 2) scFewest.nd rfl (.inl rfl) pe_int ip_add)))
        pss_nil)))
      (pss_one (ps_ret (pv 2)))))), ?_⟩
    refine ⟨_, rfl, b, ds, rfl, hs, by omega, fun H1 p ms s1 n1 e1 hp hw => ⟨p, rfl, ⟨_, .inl (.inl e1)⟩, ?_⟩⟩
    have hk : ∀ k, (ms.take k).sum = topG ds k := topG_of hp hw h0
    refine for_list (K := K) (a := p) (xs := ms.map V.int) (fun i σ H' => ∃ (y4 : Option V) (L : Nat), σ = [some (.ref b), some (.int goal), some (natV L), some (.int (ms.take L).sum), y4] ∧ Same H1 H' ∧ (∀ r, r < L → (ms.take r).sum < goal) ∧ (L = i ∨ L < i ∧ goal ≤ (ms.take L).sum))
      ⟨none, 0, rfl, Same.refl _, fun r h => absurd h (Nat.not_lt_zero _), .inl rfl⟩ (fun i σ H' _ ⟨_, _, _, sm, _⟩ => .inl (.inl (sm _ _ e1))) ?_ ?_
    · rintro i x σ H2 hx ⟨y4, L, rfl, s2, h2, ho⟩
      rw [List.getElem?_map] at hx
      obtain ⟨c, hc', rfl⟩ := Option.map_eq_some_iff.mp hx
      refine ⟨_, rfl, _, rfl, _, _, rfl, rfl, _, rfl, ite2 (fun e => ?_) (fun e => ?_)⟩
      · have e := of_decide_eq_true e
        have eL : L = i := by
          rcases ho with h | h
          · exact h
          · omega
        subst eL
        refine ⟨_, rfl, _, rfl, _, _, rfl, rfl, ?_⟩
        refine ⟨_, rfl, _, _, rfl, rfl, some (.int c), L + 1, ?_, s2, fun r hr' => ?_, .inl rfl⟩
        · rw [show (ms.take (L + 1)).sum = (ms.take L).sum + c by rw [List.take_add_one, hc', List.sum_append]; simp]
          rfl
        · by_cases z : r = L
          · rw [z]
            exact e
          · exact h2 r (by omega)
      · have e : ¬ (ms.take L).sum < goal := fun z => e (decide_eq_true z)
        refine ⟨_, L, rfl, s2, h2, .inr ⟨?_, by omega⟩⟩
        rcases ho with h | h <;> omega
    · rintro σ H2 ⟨y4, L, rfl, s2, h2, ho⟩
      refine ⟨_, rfl, q H2 L (s1.trans s2) ?_ fun r hr' => by rw [← hk]; exact h2 r hr'⟩
      rw [← hk]
      rcases ho with h | h
      · rw [h, List.length_map, List.take_length, perm_sum hp]
        exact hg
      · exact h.2
/-! ### _first_reaching -/
theorem scFirst : FnScope ["numbers", "goal", "length", "found", "missing", "at", "left"] ["numbers", "goal"] (defScope sFirst) := ⟨rfl, rfl, rfl, by decide +kernel, rfl, by decide +kernel, by decide +kernel⟩
def spFirst (K : PySem.W.Frag) : Sp := fun vs H Q _ => ∃ (b : Addr) (ds : List Int) (goal : Int), vs = [.ref b, .int goal] ∧ Goal K H b ds goal ∧ ∀ (H' : Hp) (p : Addr) (fs : List Nat), Same H H' → H p = none → H' p = some (.lst (fs.map natV)) → First ds goal fs → Q (.ref p) H'
theorem ok_first {f : Addr} {fd : FuncData} {k : Nat} (F : Fun K "_first_reaching" "_first_reaching" sFirst f fd) (T : Txt mg) (G__fewest_reaching : Has P w K mg base k "_fewest_reaching" ["numbers", "goal"] (spFewest K)) (G__descending : Has P w K mg base k "_descending" ["numbers"] (spDesc K)) : FnOk P w K mg base CX0 (k + 1) f fd ["numbers", "goal"] (spFirst K) := by
  refine F.ok scFirst (fun vs H Q E h => ?_) (fun cdv A outer s H vs Q E hr h => ?_)
  · obtain ⟨b, ds, goal, rfl, _⟩ := h
    rfl
  · obtain ⟨b, ds, goal, rfl, hG, q⟩ := h
    refine ⟨_, (pss_cons (ps_set (i := 2) scFirst.nd rfl (.inl rfl) (hc G__fewest_reaching hr (by rfl) (pa_cons (pv 0) (pa_cons (pv 1) pa_nil))))
      (pss_cons (ps_set (i := 3) scFirst.nd rfl (.inl rfl) (pe_lstN pa_nil))
      (pss_cons (ps_set (i := 4) scFirst.nd rfl (.inl rfl) (pv 1))
      (pss_cons (ps_for PassesOwn.never rfl (pi_range1 rfl T.range (pa_cons (pe_callB call_len_seq (by rfl) T.len PySem.boot_len (pa_cons (pv 0) pa_nil)) pa_nil)) (pg_name (i := 5) scFirst.nd rfl (.inl rfl))
        (pss_cons (ps_set (i := 6) scFirst.nd rfl (.inl rfl) (pe_op op_sub (pe_op op_sub (pv 2) (pe_callB call_len_seq (by rfl) T.len PySem.boot_len (pa_cons (pv 3) pa_nil))) pe_int))
      (pss_one (ps_if (PW.pt (pw_and (pt_cmpR op_ge (pv 6) pe_int (nomark _)) (pw_and1 (pt_cmpR op_ge (pe_op op_add (pe_ix ix_list (pv 0) (pv 5) (fun _ _ => rfl)) (pe_callB (cr_sum rfl) (by rfl) T.sum (by decide +kernel) (pa_cons (pe_slice sl_listN (hc G__descending hr (by rfl) (pa_cons (pe_slice sl_listN (pv 0) (po_some (pe_op op_add (pv 5) pe_int)) po_none) pa_nil)) po_none (po_some (pv 6))) pa_nil))) (pv 4) (nomark _))))) (pss_cons (ps_expr (pe_bm PySem.F.plainAttrs_list PySem.F.slot_list_append PySem.F.type_list_append mt_append (pv 3) (pa_cons (pv 5) pa_nil)))
      (pss_one (ps_set (i := 4) scFirst.nd rfl (.inl rfl) (pe_op op_sub (pv 4) (pe_ix ix_list (pv 0) (pv 5) (fun _ _ => rfl))))))
        pss_nil))))
      (pss_one (ps_ret (pv 3))))))), ?_⟩
    refine ⟨_, rfl, _, rfl, b, ds, goal, rfl, hG, fun H1 L s1 hL1 hL2 => ?_⟩
    obtain ⟨hs, hl, h0, hg⟩ := hG
    refine ⟨by show 0 ≤ sizeLine; decide, fun Fo H2 s2 n2 e2 => ?_⟩
    refine ⟨_, rfl, ?_⟩
    refine ⟨_, rfl, b, _, rfl, .inl ((s1.trans s2).seq hs), (ds.length : Int), by rw [List.length_map], by omega, by omega, for_range (n := ((ds.length : Nat) : Int).toNat) (fun i σ H' => ∃ (y5 y6 : Option V) (fs : List Nat), σ = [some (.ref b), some (.int goal), some (natV L), some (.ref Fo), some (.int (goal - sumAt ds fs)), y5, y6] ∧ Same H1 H' ∧ H' Fo = some (.lst (fs.map natV)) ∧ Way ds goal L fs i) ⟨none, none, [], ?_, s2, e2, Way.start hL1 hL2⟩ ?_ ?_⟩
    · rw [show goal - sumAt ds [] = goal by show goal - 0 = goal; omega]
      rfl
    · rintro i σ H3 hi ⟨y5, y6, fs, rfl, s3, e3, w⟩
      have lt : i < ds.length := by omega
      have gd := List.getElem?_eq_getElem lt
      have hs3 : SqL K H3 b (ds.map V.int) := (s1.trans s3).seq hs
      have gi : (ds.map V.int)[i]? = some (.int ds[i]) := by rw [List.getElem?_map, gd]; rfl
      have lf : fs.length ≤ i := w.fit
      refine ⟨_, rfl, _, rfl, Fo, _, rfl, .inl (.inl (.inl e3)), _, _, rfl, rfl, _, _, rfl, rfl, ?_⟩
      rw [List.length_map]
      refine ⟨_, rfl, _, _, rfl, rfl, _, rfl, ite2 (fun e => ?_) (fun e => ?_)⟩
      · have e := of_decide_eq_true e
        have eL : ((L : Nat) : Int) - (fs.length : Int) - 1 = ((L - fs.length - 1 : Nat) : Int) := by omega
        refine ⟨_, rfl, _, rfl, b, _, _, _, rfl, rfl, hs3, at_z gi, _, rfl, _, rfl, _, _, rfl, rfl, _, rfl, b, _, rfl, hs3, fun l1 H4 s4 n4 e4 => ?_⟩
        rw [cut_from ds (k := i + 1) (by omega)] at e4
        refine ⟨l1, ds.drop (i + 1), rfl, .inl (.inl e4), by rw [List.length_drop]; omega, fun H5 p5 ms s5 n5 e5 hp hw => ?_⟩
        refine ⟨_, rfl, _, rfl, p5, _, rfl, .inl (.inl e5), fun l2 H6 s6 n6 e6 => ?_⟩
        rw [cut_to ms eL] at e6
        refine ⟨l2, _, rfl, .inl (.inl e6), ?_⟩
        rw [topG_of hp hw fun y hy => h0 y (List.mem_of_mem_drop hy)]
        have s36 := s4.trans (s5.trans s6)
        refine ⟨_, _, rfl, rfl, _, rfl, _, _, rfl, rfl, _, rfl, ite2 (fun e2 => ?_) (fun e2 => ?_)⟩
        · have e2 := of_decide_eq_true e2
          have e36 := s36 _ _ e3
          refine ⟨_, rfl, .inl ⟨rfl, _, .inl (.inl e36)⟩, _, rfl, Fo, _, _, rfl, rfl, e36, ?_, ?_⟩
          · rw [List.length_map]
            exact lt_line (by omega)
          have s17 : Same H1 (upd H6 Fo (.lst (fs.map natV ++ [.int (0 + (i : Int))]))) := fun c o h => by
            rw [upd_ne (ne_of_none h n2)]
            exact s36 _ _ (s3 _ _ h)
          refine ⟨_, rfl, _, rfl, _, rfl, b, _, _, _, rfl, rfl, (s1.trans s17).seq hs, at_z gi, _, _, rfl, rfl, some (.int (0 + (i : Int))), some (.int ((L : Int) - (fs.length : Int) - 1)), fs ++ [i], ?_, s17, ?_, w.take gd (by omega) (by omega)⟩
          · rw [sumAt_snoc, show ds.getD i 0 = ds[i] from getD_some gd, show goal - (sumAt ds fs + ds[i]) = goal - sumAt ds fs - ds[i] by omega]
            rfl
          · rw [upd_same, List.map_append, Int.zero_add]
            rfl
        · have e2 : ¬ goal - sumAt ds fs ≤ ds[i] + topG (ds.drop (i + 1)) (L - fs.length - 1) := fun z => e2 (decide_eq_true z)
          exact ⟨_, _, fs, rfl, s3.trans s36, s36 _ _ e3, w.skip gd fun _ => by omega⟩
      · have e : ¬ (0 : Int) ≤ (L : Int) - (fs.length : Int) - 1 := fun z => e (decide_eq_true z)
        exact ⟨_, _, fs, rfl, s3, e3, w.skip gd fun _ => by omega⟩
    · rintro σ H3 ⟨y5, y6, fs, rfl, s3, e3, w⟩
      rw [Int.toNat_natCast] at w
      exact ⟨_, rfl, q H3 Fo fs (s1.trans s3) (s1.free n2) e3 (w.done hL2).1⟩
end
end Fa
namespace Fa
open PySem PySem.Spec PyProof.Rows L2 Lk
abbrev sLGreatest : Stmt := top 69
abbrev sIsFirst : Stmt := top 70
section
variable {P : Program} {w : World} {K : PySem.W.Frag} {mg : Str → Option Value} {base : Heap}
/-! ### _law_greatest -/
theorem scLGreatest : FnScope ["changes", "many", "change"] ["changes", "many"] (defScope sLGreatest) := ⟨rfl, rfl, rfl, by decide +kernel, rfl, by decide +kernel, by decide +kernel⟩
def spLGreatest (K : PySem.W.Frag) : Sp := fun vs H Q _ => ∃ (a : Addr) (r : List Int) (z : Int) (k : Nat), vs = [.ref a, .int z] ∧ z = (k : Int) ∧ SqL K H a (r.map V.int) ∧ r.length ≤ 1000 ∧ (∀ y ∈ r, 0 ≤ y) ∧ ∀ H', Same H H' → Q (.int (topG r k)) H'
theorem ok_lgreatest {f : Addr} {fd : FuncData} {k : Nat} (F : Fun K "_law_greatest" "_law_greatest" sLGreatest f fd) (T : Txt mg) : FnOk P w K mg base CX0 (k + 1) f fd ["changes", "many"] (spLGreatest K) := by
  refine F.ok scLGreatest (fun vs H Q E h => ?_) (fun cdv A outer s H vs Q E hr h => ?_)
  · obtain ⟨a, r, z, k, rfl, _⟩ := h
    rfl
  · obtain ⟨a, r, z, k, rfl, rfl, hs, hl, h0, q⟩ := h
    refine ⟨_, (pss_one (ps_ret (pe_callB (cr_sum rfl) (by rfl) T.sum (by decide +kernel) (pa_cons (pe_slice sl_listN (pe_callBK (cr_sortedRev (b := true)) (by rfl) T.sorted (by decide +kernel) (pa_cons (pe_lc (own := [("change", 2)]) (g := gName 2) (tt := tYes) rfl scLGreatest.nd (pi_list (pv 0)) (blkOk_by (own := [("change", 2)]) (N := ["changes", "many", "change"]) (sc := defScope sLGreatest) (by decide +kernel)) (fun _ _ _ _ _ => pg_name (i := 2) scLGreatest.nd rfl (Or.inl rfl)) (fun _ _ _ _ _ => pts_nil) (fun _ _ _ _ _ => (pe_callTy call_int1 (by rfl) T.int (by decide +kernel) (pa_cons (pv 2) pa_nil)))) pa_nil) (pk_cons pe_bl pk_nil)) po_none (po_some (pv 1))) pa_nil)))), ?_⟩
    refine ⟨_, rfl, a, rfl, ⟨_, hs⟩, fun D nD => ?_⟩
    refine lc_list (K := K) (a := a) (xs := r.map V.int) (PvA H D fun i => (r.take i).map V.int) (PvA.start nD rfl) (fun i H' _ p => p.1.seq hs) ?_ ?_
    · rintro i x H' hx p
      rw [List.getElem?_map] at hx
      obtain ⟨c, hc', rfl⟩ := Option.map_eq_some_iff.mp hx
      refine ⟨rfl, ?_⟩
      refine ⟨_, rfl, .inl ⟨_, rfl, ?_⟩⟩
      exact p.keep nD (Same.refl _) (acc_lm (by omega)) (acc_map hc')
    · rintro H1 ⟨sm, eD⟩
      dsimp only at eD
      rw [List.length_map, List.take_length] at eD
      refine ⟨D, r, rfl, rfl, .inl (.inl eD), fun ms p hp hw np => ?_⟩
      refine ⟨_, rfl, _, rfl, p, _, rfl, .inl (.inl upd_same), fun l2 H2 s2 n2 e2 => ?_⟩
      rw [cut_to ms rfl] at e2
      refine ⟨l2, _, rfl, .inl (.inl e2), ?_⟩
      rw [topG_of hp hw h0]
      exact q H2 (sm.trans ((PvA.same_u np).trans s2))
/-! ### _law_is_first -/
theorem scIsFirst : FnScope ["found", "changes", "need", "field", "at", "got", "start", "more"] ["found", "changes", "need"] (defScope sIsFirst) := ⟨rfl, rfl, rfl, by decide +kernel, rfl, by decide +kernel, by decide +kernel⟩
def spIsFirst (K : PySem.W.Frag) : Sp := fun vs H Q _ => ∃ (a c : Addr) (fs : List Nat) (ds : List Int) (goal : Int), vs = [.ref a, .ref c, .int goal] ∧ SqL K H a (fs.map natV) ∧ SqL K H c (ds.map V.int) ∧ ds.length ≤ 24 ∧ (∀ y ∈ ds, 0 ≤ y) ∧ First ds goal fs ∧ ∀ H', Same H H' → Q (.bl true) H'
theorem ok_isFirst {f : Addr} {fd : FuncData} {k : Nat} (F : Fun K "_law_is_first" "_law_is_first" sIsFirst f fd) (T : Txt mg) (G__law_greatest : Has P w K mg base k "_law_greatest" ["changes", "many"] (spLGreatest K)) : FnOk P w K mg base CX0 (k + 1) f fd ["found", "changes", "need"] (spIsFirst K) := by
  refine F.ok scIsFirst (fun vs H Q E h => ?_) (fun cdv A outer s H vs Q E hr h => ?_)
  · obtain ⟨a, c, fs, ds, goal, rfl, _⟩ := h
    rfl
  · obtain ⟨a, c, fs, ds, goal, rfl, ha, hd, l24, h0, hF, q⟩ := h
    refine ⟨_, (pss_cons (ps_if (pt_cmpR (op_neD hr.units) (pe_lc (own := [("field", 3)]) (g := gName 3) rfl scIsFirst.nd (pi_list (pv 0))
          (blkOk_by (own := [("field", 3)]) (N := ["found", "changes", "need", "field", "at", "got", "start", "more"]) (sc := defScope sIsFirst) (by decide +kernel)) (fun _ _ _ _ _ => pg_name (i := 3) scIsFirst.nd rfl (Or.inl rfl)) (fun _ _ _ _ _ => pts_one (PW.pt (pw_or (pt_cmpR op_lt (pv 3) pe_int (nomark _)) (pw_or1 (pt_cmpR op_ge (pv 3) (pe_callB (call_len_seqK (K := K)) (by rfl) T.len PySem.boot_len (pa_cons (pv 1) pa_nil)) (nomark _))))))
          (fun _ _ _ _ _ => (pv 3))) (pe_lstN pa_nil) (nomark _)) (pss_one (ps_ret pe_bl))
        pss_nil)
      (pss_cons (ps_if (pt_cmpR (op_neD hr.units) (pe_lc (own := [("at", 4)]) (g := gName 4) rfl scIsFirst.nd (pi_range2 rfl T.range (pa_cons pe_int (pa_cons (pe_callB call_len_seq (by rfl) T.len PySem.boot_len (pa_cons (pv 0) pa_nil)) pa_nil)))
          (blkOk_by (own := [("at", 4)]) (N := ["found", "changes", "need", "field", "at", "got", "start", "more"]) (sc := defScope sIsFirst) (by decide +kernel)) (fun _ _ _ _ _ => pg_name (i := 4) scIsFirst.nd rfl (Or.inl rfl)) (fun _ _ _ _ _ => pts_one (pt_cmpR op_ge (pe_ix (r := rIxL K) ix_list (pv 0) (pe_op op_sub (pv 4) pe_int) (fun _ _ => rfl)) (pe_ix (r := rIxL K) ix_list (pv 0) (pv 4) (fun _ _ => rfl)) (nomark _)))
          (fun _ _ _ _ _ => (pv 4))) (pe_lstN pa_nil) (nomark _)) (pss_one (ps_ret pe_bl))
        pss_nil)
      (pss_cons (ps_if (pt_cmpR op_lt (pe_callB (cr_sum rfl) (by rfl) T.sum (by decide +kernel) (pa_cons (pe_lc (own := [("field", 3)]) (g := gName 3) (tt := tYes) rfl scIsFirst.nd (pi_list (pv 0))
          (blkOk_by (own := [("field", 3)]) (N := ["found", "changes", "need", "field", "at", "got", "start", "more"]) (sc := defScope sIsFirst) (by decide +kernel)) (fun _ _ _ _ _ => pg_name (i := 3) scIsFirst.nd rfl (Or.inl rfl)) (fun _ _ _ _ _ => pts_nil)
          (fun _ _ _ _ _ => (pe_ix (r := rIxL K) ix_list (pv 1) (pv 3) (fun _ _ => rfl)))) pa_nil)) (pv 2) (nomark _)) (pss_one (ps_ret pe_bl))
        pss_nil)
      (pss_cons (ps_if (PW.pt (pw_and (pt_cmpR (op_neD hr.units) (pv 0) (pe_lstN pa_nil) (nomark _)) (pw_and1 (pt_cmpR op_ge (hc G__law_greatest hr (by rfl) (pa_cons (pv 1) (pa_cons (pe_op op_sub (pe_callB call_len_seq (by rfl) T.len PySem.boot_len (pa_cons (pv 0) pa_nil)) pe_int) pa_nil))) (pv 2) (nomark _))))) (pss_one (ps_ret pe_bl))
        pss_nil)
      (pss_cons (ps_set (i := 5) scIsFirst.nd rfl (.inl rfl) pe_int)
      (pss_cons (ps_set (i := 6) scIsFirst.nd rfl (.inl rfl) pe_int)
      (pss_cons (ps_for PassesOwn.never rfl (pi_range1 rfl T.range (pa_cons (pe_callB call_len_seq (by rfl) T.len PySem.boot_len (pa_cons (pv 0) pa_nil)) pa_nil)) (pg_name (i := 4) scIsFirst.nd rfl (.inl rfl))
        (pss_cons (ps_for PassesOwn.never rfl (pi_range2 rfl T.range (pa_cons (pv 6) (pa_cons (pe_ix ix_list (pv 0) (pv 4) (fun _ _ => rfl)) pa_nil))) (pg_name (i := 3) scIsFirst.nd rfl (.inl rfl))
        (pss_cons (ps_set (i := 7) scIsFirst.nd rfl (.inl rfl) (hc G__law_greatest hr (by rfl) (pa_cons (pe_slice sl_listN (pv 1) (po_some (pe_op op_add (pv 3) pe_int)) po_none) (pa_cons (pe_op op_sub (pe_op op_sub (pe_callB call_len_seq (by rfl) T.len PySem.boot_len (pa_cons (pv 0) pa_nil)) (pv 4)) pe_int) pa_nil))))
      (pss_one (ps_if (pt_cmpR op_ge (pe_op op_add (pe_op op_add (pv 5) (pe_ix ix_list (pv 1) (pv 3) (fun _ _ => rfl))) (pv 7)) (pv 2) (nomark _)) (pss_one (ps_ret pe_bl))
        pss_nil))))
      (pss_cons (ps_set (i := 5) scIsFirst.nd rfl (.inl rfl) (pe_op op_add (pv 5) (pe_ix ix_list (pv 1) (pe_ix ix_list (pv 0) (pv 4) (fun _ _ => rfl)) (fun _ _ => rfl))))
      (pss_one (ps_set (i := 6) scIsFirst.nd rfl (.inl rfl) (pe_op op_add (pe_ix ix_list (pv 0) (pv 4) (fun _ _ => rfl)) pe_int))))))
      (pss_one (ps_ret pe_bl))))))))), ?_⟩
    have lfs : fs.length ≤ 24 := Nat.le_trans hF.fit l24
    have noE : PyData.eqv (.list []) (.list []) = true := by decide +kernel
    -- all are places
    refine ⟨_, rfl, a, rfl, ⟨_, ha⟩, fun D nD => ?_⟩
    refine lc_list (K := K) (a := a) (xs := fs.map natV) (PvA H D fun _ => []) (PvA.start nD rfl) (fun i H' _ p => p.1.seq ha) ?_ ?_
    · rintro i x H' hx p
      rw [List.getElem?_map] at hx
      obtain ⟨fi, hfi, rfl⟩ := Option.map_eq_some_iff.mp hx
      have lf := hF.lt fi (List.mem_of_getElem? hfi)
      refine ⟨rfl, ?_⟩
      refine ⟨_, rfl, _, _, rfl, rfl, _, rfl, ite2 (fun e => ?_) (fun _ => ?_)⟩
      · have e : ((fi : Nat) : Int) < 0 := of_decide_eq_true e
        omega
      refine ⟨_, rfl, _, rfl, c, _, rfl, .inl (p.1.seq hd), _, _, rfl, rfl, _, rfl, ite2 (fun e => ?_) (fun _ => p.skip (Same.refl _) rfl)⟩
      have e : ((ds.map V.int).length : Int) ≤ ((fi : Nat) : Int) := of_decide_eq_true e
      rw [List.length_map] at e
      omega
    rintro H1 ⟨sm1, eD1⟩
    refine ⟨by show 0 ≤ sizeLine; decide, fun Z1 H2 s2 nZ1 eZ1 => ⟨.list [], .list [], .lst (.inl (.inl (s2 _ _ eD1))) .nil, .lst (.inl (.inl eZ1)) .nil, by decide +kernel, by decide +kernel, _, rfl, ?_⟩⟩
    rw [noE]
    refine iteF ?_
    have s02 := sm1.trans s2
    clear sm1 s2 eD1 eZ1 nZ1 nD
    -- they ascend
    refine ⟨_, rfl, a, _, rfl, .inl (s02.seq ha), _, _, rfl, ⟨by omega, by omega, by omega, by rw [List.length_map]; omega⟩, fun D nD => ?_⟩
    refine lc_range (PvA H2 D fun _ => []) (PvA.start nD rfl) ?_ ?_
    · rintro i H' hi p
      rw [List.length_map] at hi
      have l1 : i < fs.length := by omega
      have l2 : i + 1 < fs.length := by omega
      have g1 : (fs.map natV)[i]? = some (natV fs[i]) := by rw [List.getElem?_map, List.getElem?_eq_getElem l1]; rfl
      have g2 : (fs.map natV)[i + 1]? = some (natV fs[i + 1]) := by rw [List.getElem?_map, List.getElem?_eq_getElem l2]; rfl
      have sq := (s02.trans p.1).seq ha
      have lt := List.pairwise_iff_getElem.mp hF.asc i (i + 1) l1 l2 (by omega)
      refine ⟨rfl, ?_⟩
      have e1 : (1 : Int) + (i : Int) - 1 = (i : Int) := by omega
      have e2 : (1 : Int) + (i : Int) = ((i + 1 : Nat) : Int) := by omega
      refine ⟨_, rfl, _, rfl, _, _, rfl, rfl, a, _, _, _, rfl, rfl, sq, by rw [e1]; exact atI_nat g1, _, rfl, _, rfl, a, _, _, _, rfl, rfl, sq, by rw [e2]; exact atI_nat g2, _, _, rfl, rfl, _, rfl, ite2 (fun e => ?_) (fun _ => p.skip (Same.refl _) rfl)⟩
      have e : ((fs[i + 1] : Nat) : Int) ≤ ((fs[i] : Nat) : Int) := of_decide_eq_true e
      omega
    rintro H3 ⟨sm3, eD3⟩
    refine ⟨by show 0 ≤ sizeLine; decide, fun Z2 H4 s4 nZ2 eZ2 => ⟨.list [], .list [], .lst (.inl (.inl (s4 _ _ eD3))) .nil, .lst (.inl (.inl eZ2)) .nil, by decide +kernel, by decide +kernel, _, rfl, ?_⟩⟩
    rw [noE]
    refine iteF ?_
    have s04 := s02.trans (sm3.trans s4)
    clear sm3 s4 eD3 eZ2 nZ2 nD s02
    -- they reach
    refine ⟨_, rfl, a, rfl, ⟨_, s04.seq ha⟩, fun D nD => ?_⟩
    refine lc_list (K := K) (a := a) (xs := fs.map natV) (PvA H4 D fun i => ((fs.take i).map fun f => ds.getD f 0).map V.int) (PvA.start nD rfl) (fun i H' _ p => (s04.trans p.1).seq ha) ?_ ?_
    · rintro i x H' hx p
      rw [List.getElem?_map] at hx
      obtain ⟨fi, hfi, rfl⟩ := Option.map_eq_some_iff.mp hx
      have lf := hF.lt fi (List.mem_of_getElem? hfi)
      have gd : (ds.map V.int)[fi]? = some (.int (ds.getD fi 0)) := by
        have g := List.getElem?_eq_getElem lf
        rw [List.getElem?_map, g, getD_some g]
        rfl
      refine ⟨rfl, ?_⟩
      refine ⟨_, rfl, _, rfl, c, _, _, _, rfl, rfl, (s04.trans p.1).seq hd, atI_nat gd, ?_⟩
      exact p.keep nD (Same.refl _) (by rw [List.length_map, List.length_map, List.length_take]; omega) (by
        show ((fs.take (i + 1)).map fun f => ds.getD f 0).map V.int = _
        rw [acc_map hfi, List.map_append]
        rfl)
    rintro H5 ⟨sm5, eD5⟩
    dsimp only at eD5
    rw [List.length_map, List.take_length] at eD5
    refine ⟨D, _, rfl, .inl (.inl eD5), _, rfl, _, _, rfl, rfl, _, rfl, ite2 (fun e => ?_) (fun _ => ?_)⟩
    · have e : sumAt ds fs < goal := of_decide_eq_true e
      have := hF.can
      omega
    have s05 := s04.trans sm5
    clear sm5 eD5 nD s04
    -- none is too many
    have okF : Ok 1 (24 * 31) (setD fs) := ok_set (fun m hm => by have := hF.lt m hm; omega) lfs
    refine nx_red ?_
    refine seq_h (fun _ => [some (.ref a), some (.ref c), some (.int goal), none, none, none, none, none]) (fun _ H' => Same H H') (fun _ H6 s06 => ?_) (fun main => ?_)
    · -- the walk
      refine ⟨_, rfl, a, _, rfl, .inl (s06.seq ha), (fs.length : Int), by rw [List.length_map], by omega, by omega, for_range (n := ((fs.length : Nat) : Int).toNat) (fun i σ H' => ∃ (y3 y4 y7 : Option V) (st : Nat), σ = [some (.ref a), some (.ref c), some (.int goal), y3, y4, some (.int (sumAt ds (fs.take i))), some (natV st), y7] ∧ Same H H' ∧ Turn fs i st)
        ⟨none, none, none, 0, rfl, s06, Turn.zero⟩ ?_ ?_⟩
      · rintro i σ H7 hi ⟨y3, y4, y7, st, rfl, s7, ht⟩
        have li : i < fs.length := by omega
        have hfi := List.getElem?_eq_getElem li
        obtain ⟨fi, efi⟩ : ∃ fi, fi = fs[i] := ⟨_, rfl⟩
        rw [← efi] at hfi
        have lfi := hF.lt fi (List.mem_of_getElem? hfi)
        have g1 : (fs.map natV)[i]? = some (natV fi) := by rw [List.getElem?_map, hfi]; rfl
        have dAt : ∀ x, x < ds.length → (ds.map V.int)[x]? = some (.int (ds.getD x 0)) := fun x hx => by
          have g := List.getElem?_eq_getElem hx
          rw [List.getElem?_map, g, getD_some g]
          rfl
        have hst : st ≤ fi := by
          have := ht i fi hfi
          omega
        refine ⟨_, rfl, _, rfl, _, rfl, a, _, _, _, rfl, rfl, s7.seq ha, at_z g1, _, _, rfl, ⟨by omega, by omega, by omega, by omega⟩, for_range (lo := (st : Int)) (n := (((fi : Nat) : Int) - (st : Int)).toNat) (fun j σ H' => ∃ (y3 y7 : Option V), σ = [some (.ref a), some (.ref c), some (.int goal), y3, some (.int (0 + (i : Int))), some (.int (sumAt ds (fs.take i))), some (natV st), y7] ∧ Same H H')
          ⟨_, _, rfl, s7⟩ ?_ ?_⟩
        · rintro j σ H8 hj ⟨y3, y7, rfl, s8⟩
          obtain ⟨x, ex⟩ : ∃ x, x = st + j := ⟨_, rfl⟩
          have ex' : (st : Int) + (j : Int) = (x : Int) := by omega
          have lx : x < fi := by omega
          rw [ex']
          refine ⟨_, rfl, _, rfl, _, _, rfl, rfl, _, rfl, c, _, rfl, s8.seq hd, fun l1 H9 s9 n9 e9 => ?_⟩
          rw [cut_from ds (k := x + 1) (by omega)] at e9
          refine ⟨_, rfl, a, _, rfl, .inl ((s8.trans s9).seq ha), _, rfl, _, _, rfl, rfl, _, _, rfl, rfl, l1, ds.drop (x + 1), _, fs.length - i - 1, rfl, by rw [List.length_map]; omega, .inl (.inl e9), by rw [List.length_drop]; omega, fun y hy => h0 y (List.mem_of_mem_drop hy), fun H10 s10 => ?_⟩
          have s08 := s8.trans (s9.trans s10)
          refine ⟨_, rfl, _, rfl, _, rfl, c, _, _, _, rfl, rfl, s08.seq hd, atI_nat (dAt x (by omega)), _, _, rfl, rfl, _, rfl, _, _, rfl, rfl, _, rfl, _, _, rfl, rfl, _, rfl, ite2 (fun e => ?_) (fun _ => ⟨_, _, rfl, s08⟩)⟩
          have e : goal ≤ sumAt ds (fs.take i) + ds.getD x 0 + topG (ds.drop (x + 1)) (fs.length - i - 1) := of_decide_eq_true e
          have := hF.passed ht hfi (x := x) (by omega) lx
          omega
        · rintro σ H8 ⟨y3, y7, rfl, s8⟩
          refine ⟨_, rfl, _, rfl, _, rfl, _, rfl, a, _, _, _, rfl, rfl, s8.seq ha, at_z g1, c, _, _, _, rfl, rfl, s8.seq hd, atI_nat (dAt fi lfi), _, _, rfl, rfl, ?_⟩
          refine ⟨_, rfl, _, rfl, a, _, _, _, rfl, rfl, s8.seq ha, at_z g1, _, _, rfl, rfl, y3, some (.int (0 + (i : Int))), y7, fi + 1, ?_, s8, Turn.next hF.asc hfi⟩
          rw [sumAt_take hfi]
          rfl
      · rintro σ H7 ⟨y3, y4, y7, st, rfl, s7, ht⟩
        exact q H7 s7
    · refine ⟨_, rfl, by show 0 ≤ sizeLine; decide, fun Z H6 s6 nZ eZ => ⟨setD fs, .list [], Dp.of_set ((s05.trans s6).seq ha), .lst (.inl (.inl eZ)) .nil, okF.shaped (by decide), by decide +kernel, _, rfl, ?_⟩⟩
      have s06 := s05.trans s6
      by_cases z : fs = []
      · rw [show PyData.eqv (setD fs) (.list []) = true by rw [z]; decide +kernel]
        exact iteF (main 0 H6 s06)
      · obtain ⟨f0, fr, efr⟩ := List.exists_cons_of_ne_nil z
        rw [show PyData.eqv (setD fs) (.list []) = false by rw [efr]; rfl]
        have lp : 0 < fs.length := by rw [efr]; exact Nat.succ_pos _
        refine iteT ⟨_, rfl, _, rfl, a, _, rfl, .inl (s06.seq ha), _, _, rfl, rfl, c, ds, _, fs.length - 1, rfl, by rw [List.length_map]; omega, s06.seq hd, by omega, h0, fun H7 s7 => ?_⟩
        refine ⟨_, rfl, _, _, rfl, rfl, _, rfl, ite2 (fun e => ?_) (fun _ => main 0 H7 (s06.trans s7))⟩
        have e : goal ≤ topG ds (fs.length - 1) := of_decide_eq_true e
        have := hF.few (fs.length - 1) (by omega)
        omega
end
end Fa
namespace Fa
open PySem PySem.Spec PyProof.Rows L2 Lk
abbrev sTurnGoal : Stmt := top 52
abbrev sTurn : Stmt := top 45
def turnC (W : List (List Int)) (bd : Int) (cs : List Nat) : Int := slackC W bd cs + 1
section
variable {P : Program} {w : World} {K : PySem.W.Frag} {mg : Str → Option Value} {base : Heap}
theorem scTurnGoal : FnScope ["card", "case"] ["card", "case"] (defScope sTurnGoal) := ⟨rfl, rfl, rfl, by decide +kernel, rfl, by decide +kernel, by decide +kernel⟩
theorem ok_turnGoal {f : Addr} {fd : FuncData} {k : Nat} (F : Fun K "_turn_goal" "_turn_goal" sTurnGoal f fd) (G__find_slack : Has P w K mg base k "_find_slack" ["card", "case"] (spFindSlack K slackC)) : FnOk P w K mg base CX0 (k + 1) f fd ["card", "case"] (spFindSlack K turnC) := by
  refine F.ok scTurnGoal (fun vs H Q E h => ?_) (fun cdv A outer s H vs Q E hr h => ?_)
  · obtain ⟨a, b, v, ns, cs, W, bd, rfl, _⟩ := h
    rfl
  · obtain ⟨a, b, v, ns, cs, W, bd, rfl, hA, q⟩ := h
    refine ⟨_, (pss_one (ps_ret (pe_op op_add (hc G__find_slack hr (by rfl) (pa_cons (pv 0) (pa_cons (pv 1) pa_nil))) pe_int))), ?_⟩
    exact ⟨_, rfl, _, rfl, a, b, v, ns, cs, W, bd, rfl, hA, fun H1 s1 => ⟨_, _, rfl, rfl, q H1 s1⟩⟩
theorem scTurn : FnScope ["sizes", "card", "case", "found"] ["sizes", "card", "case"] (defScope sTurn) := ⟨rfl, rfl, rfl, by decide +kernel, rfl, by decide +kernel, by decide +kernel⟩
def spTurn (K : PySem.W.Frag) : Sp := fun vs H Q _ => ∃ (a b : Addr) (v : V) (ns cs : List Nat) (W : List (List Int)) (bd : Int), vs = [.ref a, v, .ref b] ∧ CCArgs K H a b v ns cs W bd ∧ turnC W bd cs ≤ (dropsC W bd cs).sum ∧ ∀ (H' : Hp) (p : Addr) (fs : List Nat), Same H H' → H p = none → H' p = some (.lst (fs.map natV)) → First (dropsC W bd cs) (turnC W bd cs) fs → Q (.ref p) H'
theorem ok_turn {f : Addr} {fd : FuncData} {k : Nat} (F : Fun K "shortest_card_turn" "shortest_card_turn" sTurn f fd) (T : Txt mg) (G__check_card_and_case : Has P w K mg base k "_check_card_and_case" ["sizes", "card", "case"] (spCardCase K)) (G__list_drops : Has P w K mg base k "_list_drops" ["card", "case"] (spListDrops K))
    (G__turn_goal : Has P w K mg base k "_turn_goal" ["card", "case"] (spFindSlack K turnC)) (G__first_reaching : Has P w K mg base k "_first_reaching" ["numbers", "goal"] (spFirst K)) : FnOk P w K mg base CX0 (k + 1) f fd ["sizes", "card", "case"] (spTurn K) := by
  refine F.ok scTurn (fun vs H Q E h => ?_) (fun cdv A outer s H vs Q E hr h => ?_)
  · obtain ⟨a, b, v, ns, cs, W, bd, rfl, _⟩ := h
    rfl
  · obtain ⟨a, b, v, ns, cs, W, bd, rfl, hA, hle, q⟩ := h
    refine ⟨_, (pss_cons (ps_expr (hc G__check_card_and_case hr (by rfl) (pa_cons (pv 0) (pa_cons (pv 1) (pa_cons (pv 2) pa_nil)))))
      (pss_cons (ps_set (i := 3) scTurn.nd rfl (.inl rfl) (hc G__list_drops hr (by rfl) (pa_cons (pv 1) (pa_cons (pv 2) pa_nil))))
      (pss_cons (ps_if (pt_cmpR op_lt (pe_callB (cr_sum rfl) (by rfl) T.sum (by decide +kernel) (pa_cons (pv 3) pa_nil)) (hc G__turn_goal hr (by rfl) (pa_cons (pv 1) (pa_cons (pv 2) pa_nil))) (nomark _)) (pss_one ps_never)
        pss_nil)
      (pss_one (ps_ret (hc G__first_reaching hr (by rfl) (pa_cons (pv 3) (pa_cons (hc G__turn_goal hr (by rfl) (pa_cons (pv 1) (pa_cons (pv 2) pa_nil))) pa_nil)))))))), ?_⟩
    refine ⟨_, rfl, _, rfl, _, rfl, a, b, v, ns, cs, W, bd, rfl, hA, fun H1 s1 => ?_⟩
    refine ⟨_, rfl, _, rfl, a, b, v, ns, cs, W, bd, rfl, hA.sm s1, fun H2 r s2 n2 e2 => ?_⟩
    have s12 := s1.trans s2
    refine ⟨_, rfl, r, _, rfl, .inl (.inl e2), _, rfl, _, rfl, a, b, v, ns, cs, W, bd, rfl, hA.sm s12, fun H3 s3 => ⟨_, _, rfl, rfl, _, rfl, ite2 (fun e => ?_) (fun _ => ?_)⟩⟩
    · have e : (dropsC W bd cs).sum < turnC W bd cs := of_decide_eq_true e
      omega
    have s13 := s12.trans s3
    refine ⟨_, rfl, _, rfl, _, rfl, a, b, v, ns, cs, W, bd, rfl, hA.sm s13, fun H4 s4 => ?_⟩
    have s14 := s13.trans s4
    exact ⟨r, dropsC W bd cs, turnC W bd cs, rfl, ⟨.inl (.inl ((s3.trans s4) _ _ e2)), by rw [drops_len, hA.2.2.1]; exact hA.1.1.2.1, drops_nonneg bd hA.1.2.2 hA.2.2, hle⟩, fun H5 p fs s5 n5 e5 hF => q H5 p fs (s14.trans s5) (s14.free n5) e5 hF⟩
end
end Fa
namespace Fa
open PySem PySem.Spec PyProof.Rows L2 Lk
abbrev sNoTurn : Stmt := top 71
section
variable {P : Program} {w : World} {K : PySem.W.Frag} {mg : Str → Option Value} {base : Heap}
/-- a callable that may raise -/
def HasX (P : Program) (w : World) (K : PySem.W.Frag) (mg : Str → Option Value) (base : Heap) (k : Nat) (x : Str) (ps : List Str) (sp : Sp) : Prop :=
  ∃ (f : Addr) (fd : FuncData), FnOk P w K mg base (L2.CX P w) k f fd ps sp ∧ Binds K fd ps [] ∧ mg x = some (.ref f) ∧ PySem.W.keepIn K (.ref f) = true
theorem HasX.mono {k j : Nat} {x : Str} {ps : List Str} {sp : Sp} (h : HasX P w K mg base k x ps sp) (l : k ≤ j) : HasX P w K mg base j x ps sp := by
  obtain ⟨f, fd, F, b, g, kp⟩ := h
  exact ⟨f, fd, F.mono l, b, g, kp⟩
def spTurnX (K : PySem.W.Frag) (C : Addr) : Sp := fun vs H _ E => ∃ (a b : Addr) (v : V) (ns cs : List Nat) (W : List (List Int)) (bd : Int), vs = [.ref a, v, .ref b] ∧ CCArgs K H a b v ns cs W bd ∧ (dropsC W bd cs).sum < turnC W bd cs ∧ ∀ H', Same H H' → E (.ref C) none H'
theorem ok_turnX {f C : Addr} {fd : FuncData} {k : Nat} (F : Fun K "shortest_card_turn" "shortest_card_turn" sTurn f fd) (T : Txt mg) (EC : ErrC K C) (gC : mg "NoTurn" = some (.ref C)) (G__check_card_and_case : Has P w K mg base k "_check_card_and_case" ["sizes", "card", "case"] (spCardCase K)) (G__list_drops : Has P w K mg base k "_list_drops" ["card", "case"] (spListDrops K))
    (G__turn_goal : Has P w K mg base k "_turn_goal" ["card", "case"] (spFindSlack K turnC)) : FnOk P w K mg base (L2.CX P w) (k + 1) f fd ["sizes", "card", "case"] (spTurnX K C) := by
  refine F.okX scTurn (fun vs H Q E h => ?_) (fun cdv A outer s H vs Q E hr h => ?_)
  · obtain ⟨a, b, v, ns, cs, W, bd, rfl, _⟩ := h
    rfl
  · obtain ⟨a, b, v, ns, cs, W, bd, rfl, hA, hlt, q⟩ := h
    refine ⟨_, (pss_cons (ps_expr (hc G__check_card_and_case hr (by rfl) (pa_cons (pv 0) (pa_cons (pv 1) (pa_cons (pv 2) pa_nil)))))
      (pss_cons (ps_set (i := 3) scTurn.nd rfl (.inl rfl) (hc G__list_drops hr (by rfl) (pa_cons (pv 1) (pa_cons (pv 2) pa_nil))))
      (pss_cons (ps_if (pt_cmpR op_lt (pe_callB (cr_sum rfl) (by rfl) T.sum (by decide +kernel) (pa_cons (pv 3) pa_nil)) (hc G__turn_goal hr (by rfl) (pa_cons (pv 1) (pa_cons (pv 2) pa_nil))) (nomark _)) (pss_one (ps_raise rfl (takes_of rfl rfl rfl rfl) (pmk_own PySem.F.excBase_ValueError EC.ex gC EC.kp (raises_own EC.is.hs EC.ty) rfl)))
        pss_nil)
      (pss_one ps_never)))), ?_⟩
    refine ⟨_, rfl, _, rfl, _, rfl, a, b, v, ns, cs, W, bd, rfl, hA, fun H1 s1 => ?_⟩
    refine ⟨_, rfl, _, rfl, a, b, v, ns, cs, W, bd, rfl, hA.sm s1, fun H2 r s2 n2 e2 => ?_⟩
    have s12 := s1.trans s2
    refine ⟨_, rfl, r, _, rfl, .inl (.inl e2), _, rfl, _, rfl, a, b, v, ns, cs, W, bd, rfl, hA.sm s12, fun H3 s3 => ⟨_, _, rfl, rfl, _, rfl, ite2 (fun _ => ?_) (fun e => absurd (decide_eq_true hlt) e)⟩⟩
    exact q H3 (s12.trans s3)
/-! ### _law_no_turn -/
theorem scNoTurn : FnScope ["sheet", "plan", "row", "caught", "e"] ["sheet", "plan", "row"] (defScope sNoTurn) := ⟨rfl, rfl, rfl, by decide +kernel, rfl, by decide +kernel, by decide +kernel⟩
def spNoTurn (K : PySem.W.Frag) : Sp := fun vs H Q _ => ∃ (a b : Addr) (v : V) (ns cs : List Nat) (W : List (List Int)) (bd : Int), vs = [.ref a, v, .ref b] ∧ CCArgs K H a b v ns cs W bd ∧ (dropsC W bd cs).sum < turnC W bd cs ∧ ∀ H', Same H H' → Q (.bl true) H'
theorem ok_noTurn {f C CR CN CC : Addr} {fd : FuncData} {k : Nat} (F : Fun K "_law_no_turn" "_law_no_turn" sNoTurn f fd) (T : Txt mg) (EC : ErrC K C) (gC : mg "NoTurn" = some (.ref C)) (gR : mg "ReasonError" = some (.ref CR)) (gN : mg "NoReason" = some (.ref CN)) (gCC : mg "NoCard" = some (.ref CC)) (gV : mg "ValueError" = none)
    (xm : PySem.W.exmOne K (.ref C) (.ref CR) = some true) (k1 : PySem.W.kitOne K (.ref C) (.ref C) = some true) (k2 : PySem.W.kitOne K (.ref C) (.type "ValueError") = some true) (k3 : PySem.W.kitOne K (.ref C) (.ref CN) = some false) (k4 : PySem.W.kitOne K (.ref C) (.ref CC) = some false)
    (GT : HasX P w K mg base k "shortest_card_turn" ["sizes", "card", "case"] (spTurnX K C)) : FnOk P w K mg base CX0 (k + 1) f fd ["sheet", "plan", "row"] (spNoTurn K) := by
  obtain ⟨fT, fdT, FT, bT, gT, kT⟩ := GT
  refine F.ok scNoTurn (fun vs H Q E h => ?_) (fun cdv A outer s H vs Q E hr h => ?_)
  · obtain ⟨a, b, v, ns, cs, W, bd, rfl, _⟩ := h
    rfl
  · obtain ⟨a, b, v, ns, cs, W, bd, rfl, hA, hlt, q⟩ := h
    refine ⟨_, (pss_cons (ps_set (i := 3) scNoTurn.nd rfl (.inl rfl) pe_non)
      (pss_try_keep (i := 4) rfl rfl scNoTurn.nd rfl rfl ⟨rfl, by decide, .inl gR⟩
        (fun W pn xe tk _ => pss_one (ps_expr (pe_callS FT hr (by rfl) gT kT bT (fun σ => passAt tk σ) (pa_cons (pv 0) (pa_cons (pv 1) (pa_cons (pv 2) pa_nil))))))
        (fun a oe cls d pn hz hf => pss_one (ps_set (i := 3) scNoTurn.nd rfl (.inl rfl) (pv 4)))
        (pss_cons ps_never (pss_one ps_never))
        (fun a oe cls d pn hz hf => pss_known hz fun hz => pss_cons (ps_if (PW.pt (pw_or (pt_not (pt_val (pe_callB (isi_pinned EC.is hz hf) (by rfl) T.isi (by decide +kernel) (pa_cons (pv 3) (pa_cons (pe_glob (v := .ref C) rfl gC rfl) pa_nil)))))
            (pw_or1 (pt_not (pt_val (pe_callB (isi_pinned EC.is hz hf) (by rfl) T.isi (by decide +kernel) (pa_cons (pv 3) (pa_cons (pe_bltn (v := .ty "ValueError") (by rfl) gV (by decide +kernel) rfl) pa_nil)))))))) (pss_one (ps_ret pe_bl)) pss_nil)
          (pss_one (ps_ret (pe_and (pe_not (pe_callB (isi_pinned EC.is hz hf) (by rfl) T.isi (by decide +kernel) (pa_cons (pv 3) (pa_cons (pe_glob (v := .ref CN) rfl gN rfl) pa_nil))))
            (pe_one (pe_not (pe_callB (isi_pinned EC.is hz hf) (by rfl) T.isi (by decide +kernel) (pa_cons (pv 3) (pa_cons (pe_glob (v := .ref CC) rfl gCC rfl) pa_nil))))))))))), ?_⟩
    have cr : ∀ {A : Addr} (u : Value), RelV (.ref A) u → u = .ref A := fun u r => by cases r; rfl
    refine ⟨_, rfl, _, rfl, _, rfl, a, b, v, ns, cs, W, bd, rfl, hA, hlt, fun H1 s1 => ⟨xm, fun ea na => ?_⟩⟩
    refine ⟨_, rfl, rfl, rfl, ?_⟩
    refine ⟨_, rfl, .ref C, _, _, rfl, cr, k1, _, rfl, iteF ?_⟩
    refine ⟨_, rfl, .ty "ValueError", _, _, rfl, (fun u r => by cases r; rfl), k2, _, rfl, iteF ?_⟩
    exact ⟨_, rfl, .ref CN, _, _, rfl, cr, k3, _, rfl, _, rfl, iteT ⟨_, rfl, .ref CC, _, _, rfl, cr, k4, _, rfl, q H1 s1⟩⟩
end
end Fa
namespace Fa
open PySem PySem.Spec PyProof.Rows L2 Lk
abbrev sLaw : Stmt := top 72
theorem asc_perm {fs : List Nat} {n : Nat} (h : fs.Pairwise (· < ·)) (hl : ∀ f ∈ fs, f < n) : fs.Perm ((List.range n).filter fun i => decide (i ∈ fs)) := by
  refine (List.perm_ext_iff_of_nodup (h.imp fun z => Nat.ne_of_lt z) (List.nodup_range.filter _)).mpr fun x => ?_
  rw [List.mem_filter, List.mem_range]
  exact ⟨fun hx => ⟨hl x hx, decide_eq_true hx⟩, fun hx => of_decide_eq_true hx.2⟩
theorem in_sum {W : List (List Int)} {bd goal : Int} {cs fs : List Nat} (hF : First (dropsC W bd cs) goal fs) : goal ≤ (((List.range cs.length).filter fun i => decide (i ∈ fs)).map (dropC W bd cs)).sum := by
  have e1 : sumAt (dropsC W bd cs) fs = (((List.range cs.length).filter fun i => decide (i ∈ fs)).map (dropC W bd cs)).sum := by
    rw [← perm_sum ((asc_perm (n := cs.length) hF.asc fun f hf => by have := hF.lt f hf; rw [drops_len] at this; exact this).map (dropC W bd cs))]
    unfold sumAt
    refine congrArg List.sum (List.map_congr_left fun f hf => ?_)
    have lt := hF.lt f hf
    rw [drops_len] at lt
    refine getD_some ?_
    unfold dropsC
    rw [List.getElem?_map, List.getElem?_range lt]
    rfl
  rw [← e1]
  exact hF.can
section
variable {P : Program} {w : World} {K : PySem.W.Frag} {mg : Str → Option Value} {base : Heap}
theorem scLaw : FnScope ["script", "cell", "bag", "sheet", "weights", "row", "bound", "plan", "handed", "changes", "need", "found", "worst"] ["script"] (defScope sLaw) := ⟨rfl, rfl, rfl, by decide +kernel, rfl, by decide +kernel, by decide +kernel⟩
def spLaw (K : PySem.W.Frag) : Sp := fun vs H Q _ => ∃ (a : Addr) (ns : List Int), vs = [.ref a] ∧ SqL K H a (ns.map V.int) ∧ ns.length ≤ 63 ∧ ∀ H', Q (.bl true) H'
theorem ok_law {f : Addr} {fd : FuncData} {k : Nat} (F : Fun K "law" "law" sLaw f fd) (T : Txt mg) (G__law_bag : Has P w K mg base k "_law_bag" ["cell"] spBag) (G__law_sheet : Has P w K mg base k "_law_sheet" ["bag"] spSheet)
    (G__law_weights : Has P w K mg base k "_law_weights" ["bag", "sheet"] (spLWeights K)) (G__law_row : Has P w K mg base k "_law_row" ["bag", "sheet"] spRow) (G__law_sum : Has P w K mg base k "_law_sum" ["weights", "row"] (spSumOf K))
    (G__law_bound : Has P w K mg base k "_law_bound" ["bag", "total"] spLBound) (G__law_drops : Has P w K mg base k "_law_drops" ["weights", "bound", "row"] (spLDrops K)) (G__law_slack : Has P w K mg base k "_law_slack" ["weights", "bound", "row"] (spLSlack K))
    (G__law_flat : Has P w K mg base k "_law_flat" ["found"] (spFlat K)) (G__law_is_first : Has P w K mg base k "_law_is_first" ["found", "changes", "need"] (spIsFirst K)) (G__law_worst : Has P w K mg base k "_law_worst" ["weights", "bound", "row", "fields"] (spWorst K))
    (G_shortest_card_turn : Has P w K mg base k "shortest_card_turn" ["sizes", "card", "case"] (spTurn K)) (G__law_no_turn : Has P w K mg base k "_law_no_turn" ["sheet", "plan", "row"] (spNoTurn K)) : FnOk P w K mg base CX0 (k + 1) f fd ["script"] (spLaw K) := by
  refine F.ok scLaw (fun vs H Q E h => ?_) (fun cdv A outer s H vs Q E hr h => ?_)
  · obtain ⟨a, ns, rfl, _⟩ := h
    rfl
  · obtain ⟨a, ss, rfl, hsc, hlen, q⟩ := h
    refine ⟨_, (pss_cons (ps_for PassesOwn.never rfl (pi_list (pe_op op_catN (pe_lstN (pa_cons pe_int pa_nil)) (pe_slice sl_listN (pv 0) po_none (po_some pe_int)))) (pg_name (i := 1) scLaw.nd rfl (.inl rfl))
        (pss_cons (ps_set (i := 2) scLaw.nd rfl (.inl rfl) (hc G__law_bag hr (by rfl) (pa_cons (pv 1) pa_nil)))
      (pss_cons (ps_set (i := 3) scLaw.nd rfl (.inl rfl) (hc G__law_sheet hr (by rfl) (pa_cons (pv 2) pa_nil)))
      (pss_cons (ps_set (i := 4) scLaw.nd rfl (.inl rfl) (hc G__law_weights hr (by rfl) (pa_cons (pv 2) (pa_cons (pv 3) pa_nil))))
      (pss_cons (ps_set (i := 5) scLaw.nd rfl (.inl rfl) (hc G__law_row hr (by rfl) (pa_cons (pv 2) (pa_cons (pv 3) pa_nil))))
      (pss_cons (ps_set (i := 6) scLaw.nd rfl (.inl rfl) (hc G__law_bound hr (by rfl) (pa_cons (pv 2) (pa_cons (hc G__law_sum hr (by rfl) (pa_cons (pv 4) (pa_cons (pv 5) pa_nil))) pa_nil))))
      (pss_cons (ps_set (i := 7) scLaw.nd rfl (.inl rfl) (pe_tupN (pa_cons pe_str (pa_cons (pv 4) (pa_cons (pv 6) pa_nil)))))
      (pss_cons (ps_set (i := 8) scLaw.nd rfl (.inl rfl) (pe_lstN (pa_cons (pe_callTy call_listN (by rfl) T.list (by decide +kernel) (pa_cons (pv 3) pa_nil)) (pa_cons (pe_callTy call_listN (by rfl) T.list (by decide +kernel) (pa_cons (pv 5) pa_nil)) pa_nil))))
      (pss_cons (ps_set (i := 9) scLaw.nd rfl (.inl rfl) (hc G__law_drops hr (by rfl) (pa_cons (pv 4) (pa_cons (pv 6) (pa_cons (pv 5) pa_nil)))))
      (pss_cons (ps_set (i := 10) scLaw.nd rfl (.inl rfl) (pe_op op_add (hc G__law_slack hr (by rfl) (pa_cons (pv 4) (pa_cons (pv 6) (pa_cons (pv 5) pa_nil)))) pe_int))
      (pss_cons (ps_if (pt_cmpR op_lt (pe_callB (cr_sum rfl) (by rfl) T.sum (by decide +kernel) (pa_cons (pv 9) pa_nil)) (pv 10) (nomark _)) (pss_one (ps_if (pt_not (pt_val (hc G__law_no_turn hr (by rfl) (pa_cons (pe_ix ix_list (pv 8) pe_int (fun _ _ => rfl)) (pa_cons (pv 7) (pa_cons (pe_ix ix_list (pv 8) pe_int (fun _ _ => rfl)) pa_nil)))))) (pss_one (ps_ret pe_bl))
        pss_nil))
        (pss_cons (ps_set (i := 11) scLaw.nd rfl (.inl rfl) (hc G_shortest_card_turn hr (by rfl) (pa_cons (pe_ix ix_list (pv 8) pe_int (fun _ _ => rfl)) (pa_cons (pv 7) (pa_cons (pe_ix ix_list (pv 8) pe_int (fun _ _ => rfl)) pa_nil)))))
      (pss_cons (ps_if (PW.pt (pw_or (pt_not (pt_val (hc G__law_flat hr (by rfl) (pa_cons (pv 11) pa_nil)))) (pw_or1 (pt_not (pt_val (hc G__law_is_first hr (by rfl) (pa_cons (pv 11) (pa_cons (pv 9) (pa_cons (pv 10) pa_nil))))))))) (pss_one (ps_ret pe_bl))
        pss_nil)
      (pss_cons (ps_set (i := 12) scLaw.nd rfl (.inl rfl) (hc G__law_worst hr (by rfl) (pa_cons (pv 4) (pa_cons (pv 6) (pa_cons (pv 5) (pa_cons (pv 11) pa_nil))))))
      (pss_one (ps_if (pt_cmpR op_eq (pe_cmpR op_ge (hc G__law_sum hr (by rfl) (pa_cons (pv 4) (pa_cons (pv 12) pa_nil))) (pv 6) (nomark _)) (pe_cmpR op_ge (hc G__law_sum hr (by rfl) (pa_cons (pv 4) (pa_cons (pv 5) pa_nil))) (pv 6) (nomark _)) (nomark _)) (pss_one (ps_ret pe_bl))
        pss_nil))))))
      (pss_one (ps_if (pt_cmpR (op_neD hr.units) (pv 8) (pe_lstN (pa_cons (pv 3) (pa_cons (pv 5) pa_nil))) (nomark _)) (pss_one (ps_ret pe_bl))
        pss_nil)))))))))))))
      (pss_one (ps_ret pe_bl))), ?_⟩
    obtain ⟨ms, em, lm⟩ := cut_ints ss none (some 6)
    refine ⟨by show 1 ≤ sizeLine; decide, fun l0 H1 s1 n1 e1 => ?_⟩
    refine ⟨_, rfl, 6, rfl, a, _, rfl, s1.seq hsc, fun l1 H2 s2 n2 e2 => ?_⟩
    rw [em] at e2
    refine ⟨l0, l1, _, _, rfl, rfl, s2 _ _ e1, e2, ?_, fun L H3 s3 n3 e3 => ?_⟩
    · rw [List.length_map]
      show 1 + ms.length ≤ sizeLine
      have : sizeLine = 2 ^ 24 := rfl
      omega
    have e3 : H3 L = some (.lst ((0 :: ms).map V.int)) := e3
    refine ⟨L, rfl, ⟨_, .inl (.inl e3)⟩, for_list (K := K) (a := L) (xs := (0 :: ms).map V.int) (fun i σ H' => ∃ y1 y2 y3 y4 y5 y6 y7 y8 y9 y10 y11 y12 : Option V, σ = [some (.ref a), y1, y2, y3, y4, y5, y6, y7, y8, y9, y10, y11, y12] ∧ Same H3 H')
      ⟨_, _, _, _, _, _, _, _, _, _, _, _, rfl, Same.refl _⟩ (fun i σ H' _ ⟨_, _, _, _, _, _, _, _, _, _, _, _, _, sm⟩ => .inl (.inl (sm _ _ e3))) ?_ ?_⟩
    · rintro i x σ H4 hx ⟨y1, y2, y3, y4, y5, y6, y7, y8, y9, y10, y11, y12, rfl, s4⟩
      rw [List.getElem?_map] at hx
      obtain ⟨c, _, rfl⟩ := Option.map_eq_some_iff.mp hx
      refine ⟨_, rfl, c, rfl, fun H5 b s5 nb hB5 => ?_⟩
      refine ⟨_, rfl, b, 0, rfl, hB5, by decide, fun H6 sh ns k6 hB6 nsh esh ls hns => ?_⟩
      have nsb := hB5.ne nsh
      refine ⟨_, rfl, _, rfl, b, sh, 30, ns, rfl, hB6, by decide, esh, nsb, ls, hns, fun H7 wv W k7 hB7 hW7 hC hSm => ?_⟩
      have esh7 := k7.1 _ _ nsb esh
      refine ⟨_, rfl, _, rfl, b, sh, 230, ns, rfl, hB7, by decide, esh7, nsb, ls, hns, fun H8 rw' cs k8 hB8 nrw erw hR => ?_⟩
      have nrb := hB7.ne nrw
      obtain ⟨zs7, e7⟩ := hB7.lst
      have hW8 := Dp.but (d := wD W) e7 k8 (noLs_rows W) hW7
      have esh8 := k8.1 _ _ nsb esh7
      have l24 : cs.length ≤ 24 := by rw [hR.1]; exact ls
      refine ⟨_, rfl, _, rfl, _, rfl, wv, rw', ns, cs, W, rfl, hW8, hC, .inl (.inl erw), hR, by omega, fun H9 s9 => ?_⟩
      have hB9 := hB8.sm s9
      refine ⟨b, 254, _, rfl, hB9, by decide, fun H10 bd k10 hB10 hbd => ?_⟩
      obtain ⟨zs9, e9⟩ := hB9.lst
      have hW10 := Dp.but (d := wD W) e9 k10 (noLs_rows W) (Dp.sm s9 hW8)
      have esh10 := k10.1 _ _ nsb (s9 _ _ esh8)
      have erw10 := k10.1 _ _ nrb (s9 _ _ erw)
      have sT : Same H4 H10 := But.same s5 (k6.trans (k7.trans (k8.trans ((But.of s9).trans k10)))) nb
      clear esh esh7 esh8 erw e7 e9 hB5 hB6 hB7 hB8 hB9 hB10 k6 k7 k8 k10 hW8 hW7 s9
      -- plan, handed
      refine ⟨_, rfl, _, rfl, by show 3 ≤ sizeLine; decide, fun pl H10a s10a n10a e10a => ?_⟩
      have hp10 : Dp K H10a (.ref pl) (cardD W bd) := by
        obtain ⟨qa, xs, rfl, _⟩ := Dp.w_of hW10
        exact .tup (.inl (.inl e10a)) (.cons (.str _) (.cons (Dp.sm s10a hW10) (.cons (.int _) .nil)))
      refine ⟨_, rfl, sh, _, rfl, .inl (.inl (.inl (s10a _ _ esh10))), fun h0 H11 s11 n11 e11 => ?_⟩
      refine ⟨_, rfl, rw', _, rfl, .inl (.inl (.inl ((s10a.trans s11) _ _ erw10))), fun h1 H12 s12 n12 e12 => ⟨by show 2 ≤ sizeLine; decide, fun hd H14 s14 n14 e14 => ?_⟩⟩
      have s1114 := s11.trans (s12.trans s14)
      have s1014 := s10a.trans s1114
      refine g_name (nx_red ?_)
      refine st_eq (σ' := [some (.ref a), some (.int c), some (.ref b), some (.ref sh), some wv, some (.ref rw'), some (.int bd), some (.ref pl), some (.ref hd), y9, y10, y11, y12]) rfl ?_
      have sz14 : SizesN K H14 h0 ns := ⟨.inl (.inl (s14 _ _ (s12 _ _ e11))), ls, hns⟩
      have cs14 : CaseN K H14 h1 ns cs := ⟨.inl (.inl (s14 _ _ e12)), hR⟩
      have wa14 : WArgs K H14 rw' wv ns cs W := ⟨Dp.sm s1014 hW10, hC, .inl (.inl (s1014 _ _ erw10)), hR, ls, hns⟩
      have cc14 : CCArgs K H14 h0 h1 (.ref pl) ns cs W bd := ⟨⟨sz14, Dp.sm s1114 hp10, hC⟩, cs14⟩
      have esh14 := s1014 _ _ esh10
      have erw14 := s1014 _ _ erw10
      have sT14 := sT.trans s1014
      clear e11 e12 e10a hp10 esh10 erw10 hW10 sT
      refine ⟨_, rfl, _, rfl, _, rfl, rw', wv, ns, cs, W, bd, rfl, wa14, fun H17 ch s17 n17 e17 => ?_⟩
      refine ⟨_, rfl, _, rfl, _, rfl, rw', wv, ns, cs, W, bd, rfl, wa14.sm s17, fun H18 s18 => ⟨_, _, rfl, rfl, ?_⟩⟩
      have s148 := s17.trans s18
      refine g_name (nx_red ?_)
      refine st_eq (σ' := [some (.ref a), some (.int c), some (.ref b), some (.ref sh), some wv, some (.ref rw'), some (.int bd), some (.ref pl), some (.ref hd), some (.ref ch), some (.int (turnC W bd cs)), y11, y12]) rfl ?_
      have ech18 := s18 _ _ e17
      have lch : (dropsC W bd cs).length ≤ 24 := by rw [drops_len]; exact l24
      refine seq_s (fun σ' H' => ∃ z11 z12 : Option V, σ' = [some (.ref a), some (.int c), some (.ref b), some (.ref sh), some wv, some (.ref rw'), some (.int bd), some (.ref pl), some (.ref hd), some (.ref ch), some (.int (turnC W bd cs)), z11, z12] ∧ Same H14 H') ?_ (fun main => ?_)
      · rintro σ' H25 ⟨z11, z12, rfl, s14E⟩
        refine ⟨_, rfl, _, rfl, _, rfl, by show 2 ≤ sizeLine; decide, fun hn H26 s26 n26 e26 => ?_⟩
        have s14F := s14E.trans s26
        have okt := ok_two ls hns hR
        refine ⟨.list [setD ns, setD cs], .list [setD ns, setD cs], .lst (.inl (.inl (s14F _ _ e14))) (.cons (Dp.of_set (s14F.seq sz14.1)) (.cons (Dp.of_set (s14F.seq cs14.1)) .nil)),
          .lst (.inl (.inl e26)) (.cons (Dp.of_set (.inl (.inl (s14F _ _ esh14)))) (.cons (Dp.of_set (.inl (.inl (s14F _ _ erw14)))) .nil)), okt.shaped (by decide), okt.shaped (by decide), _, rfl, ?_⟩
        rw [eqv_rfl _ okt.nd]
        exact iteF ⟨_, _, _, _, _, _, _, _, _, _, _, _, rfl, s4.trans (sT14.trans s14F)⟩
      have e18 := s148 _ _ e14
      refine ⟨_, rfl, ch, _, rfl, .inl (.inl ech18), _, rfl, _, _, rfl, rfl, _, rfl, ite2 (fun e => ?_) (fun e => ?_)⟩
      · have e : (dropsC W bd cs).sum < turnC W bd cs := of_decide_eq_true e
        refine ⟨_, rfl, hd, _, 0, _, rfl, rfl, .inl (.inl e18), atI_nat (j := 0) rfl, _, rfl, _, rfl, hd, _, 1, _, rfl, rfl, .inl (.inl e18), atI_nat (j := 1) rfl, h0, h1, .ref pl, ns, cs, W, bd, rfl, cc14.sm s148, e, fun H19 s19 => ⟨_, rfl, iteF ?_⟩⟩
        exact main _ _ ⟨_, _, rfl, s148.trans s19⟩
      have e : ¬ (dropsC W bd cs).sum < turnC W bd cs := fun z => e (decide_eq_true z)
      refine ⟨_, rfl, hd, _, 0, _, rfl, rfl, .inl (.inl e18), atI_nat (j := 0) rfl, _, rfl, _, rfl, hd, _, 1, _, rfl, rfl, .inl (.inl e18), atI_nat (j := 1) rfl, h0, h1, .ref pl, ns, cs, W, bd, rfl, cc14.sm s148, by omega, fun H19 fo fs s19 n19 e19 hF => ?_⟩
      have s149 := s148.trans s19
      have efl : fs.map natV = (fs.map fun m : Nat => (m : Int)).map V.int := by rw [List.map_map]; rfl
      refine ⟨_, rfl, fo, fs.map fun m : Nat => (m : Int), rfl, .inl (.inl (by rw [← efl]; exact e19)), fun H20 s20 => ⟨_, rfl, iteF ?_⟩⟩
      have s14A := s149.trans s20
      have e20 := s20 _ _ e19
      refine ⟨_, rfl, _, rfl, _, rfl, fo, ch, fs, dropsC W bd cs, turnC W bd cs, rfl, .inl (.inl e20), .inl (.inl ((s19.trans s20) _ _ ech18)), lch, drops_nonneg bd hC hR, hF, fun H21 s21 => ⟨_, rfl, iteF ?_⟩⟩
      have s14B := s14A.trans s21
      have e21 := s21 _ _ e20
      have ltf : ∀ f ∈ fs, f < ns.length := fun f hf => by
        have := hF.lt f hf
        rw [drops_len, hR.1] at this
        exact this
      have wa21 := wa14.sm s14B
      refine ⟨_, rfl, _, rfl, _, rfl, _, rfl, rw', fo, wv, ns, cs, fs, W, bd, rfl, wa21.1, hC, wa21.2.2.1, hR, ls, hns, .inl (.inl e21), ltf, fun H23 wo cw s23 nwo ewo hWo => ?_⟩
      have s14D := s14B.trans s23
      have wa23 := wa14.sm s14D
      have hRw : RowN ns cw := ⟨by rw [hWo.1, hR.1], fun i n c' hn hc' => by
        have li := (List.getElem?_eq_some_iff.mp hn).1
        have liW : i < W.length := by rw [hC.1]; exact li
        have lic : i < cs.length := by rw [hR.1]; exact li
        obtain ⟨c2, h1, h2, _⟩ := hWo.2 i _ _ (List.getElem?_eq_getElem liW) (List.getElem?_eq_getElem lic)
        rw [hc'] at h1
        cases h1
        have := hC.2.1 i n _ hn (List.getElem?_eq_getElem liW)
        omega⟩
      refine ⟨_, rfl, _, rfl, wv, wo, ns, cw, W, rfl, wa23.1, hC, .inl (.inl ewo), hRw, by rw [hRw.1]; omega, fun H24 s24 => ?_⟩
      have wa24 := wa23.sm s24
      refine ⟨_, rfl, _, _, rfl, rfl, _, rfl, _, rfl, wv, rw', ns, cs, W, rfl, wa24.1, hC, wa24.2.2.1, hR, by omega, fun H25 s25 => ?_⟩
      have ww := wsum_worst hC hR hWo
      have rl := in_sum hF
      unfold turnC slackC at rl
      have ne : decide (wsum W cw ≥ bd) ≠ decide (wsum W cs ≥ bd) := by
        by_cases ht : wsum W cs ≥ bd
        · rw [if_pos ht] at ww rl
          rw [decide_eq_true ht, decide_eq_false (by omega)]
          decide
        · rw [if_neg ht] at ww rl
          rw [decide_eq_false ht, decide_eq_true (by omega)]
          decide
      refine ⟨_, rfl, _, _, rfl, rfl, rfl, _, rfl, ?_⟩
      rw [decide_eq_false (fun z => ne (V.bl.inj z))]
      exact iteF (main _ _ ⟨_, _, rfl, s14D.trans (s24.trans s25)⟩)
    · rintro σ H4 ⟨y1, y2, y3, y4, y5, y6, y7, y8, y9, y10, y11, y12, rfl, s4⟩
      exact q H4
end
end Fa
namespace Fa
open PySem PySem.Spec PyProof.Rows L2 Lk
theorem all_mk {l : PySem.W.OpenLaw} {w : World} {K : PySem.W.Frag} {h : Heap} {mg : Str → Option Value} {fa : Addr} (X : K.In h) (G : h.Ns mainGlobals mg) (hfa : mg "law" = some (.ref fa))
    {f0 : Addr} {od0 an0 : Option Addr} {sl0 : Array (Option Value)} {oc0 kV0 dc0 pm0 cd0 ct0 : Value}
    {f1 : Addr} {od1 an1 : Option Addr} {sl1 : Array (Option Value)} {oc1 kV1 dc1 pm1 cd1 ct1 : Value}
    {f2 : Addr} {od2 an2 : Option Addr} {sl2 : Array (Option Value)} {oc2 kV2 dc2 pm2 cd2 ct2 : Value}
    {f3 : Addr} {od3 an3 : Option Addr} {sl3 : Array (Option Value)} {oc3 kV3 dc3 pm3 cd3 ct3 : Value}
    {f4 : Addr} {od4 an4 : Option Addr} {sl4 : Array (Option Value)} {oc4 kV4 dc4 pm4 cd4 ct4 : Value}
    {f5 : Addr} {od5 an5 : Option Addr} {sl5 : Array (Option Value)} {oc5 kV5 dc5 pm5 cd5 ct5 : Value}
    {f6 : Addr} {od6 an6 : Option Addr} {sl6 : Array (Option Value)} {oc6 kV6 dc6 pm6 cd6 ct6 : Value}
    {f7 : Addr} {od7 an7 : Option Addr} {sl7 : Array (Option Value)} {oc7 kV7 dc7 pm7 cd7 ct7 : Value}
    {f8 : Addr} {od8 an8 : Option Addr} {sl8 : Array (Option Value)} {oc8 kV8 dc8 pm8 cd8 ct8 : Value}
    {f9 : Addr} {od9 an9 : Option Addr} {sl9 : Array (Option Value)} {oc9 kV9 dc9 pm9 cd9 ct9 : Value}
    {f10 : Addr} {od10 an10 : Option Addr} {sl10 : Array (Option Value)} {oc10 kV10 dc10 pm10 cd10 ct10 : Value}
    {f11 : Addr} {od11 an11 : Option Addr} {sl11 : Array (Option Value)} {oc11 kV11 dc11 pm11 cd11 ct11 : Value}
    {f12 : Addr} {od12 an12 : Option Addr} {sl12 : Array (Option Value)} {oc12 kV12 dc12 pm12 cd12 ct12 : Value}
    {f13 : Addr} {od13 an13 : Option Addr} {sl13 : Array (Option Value)} {oc13 kV13 dc13 pm13 cd13 ct13 : Value}
    {f14 : Addr} {od14 an14 : Option Addr} {sl14 : Array (Option Value)} {oc14 kV14 dc14 pm14 cd14 ct14 : Value}
    {f15 : Addr} {od15 an15 : Option Addr} {sl15 : Array (Option Value)} {oc15 kV15 dc15 pm15 cd15 ct15 : Value}
    {f16 : Addr} {od16 an16 : Option Addr} {sl16 : Array (Option Value)} {oc16 kV16 dc16 pm16 cd16 ct16 : Value}
    {f17 : Addr} {od17 an17 : Option Addr} {sl17 : Array (Option Value)} {oc17 kV17 dc17 pm17 cd17 ct17 : Value}
    {f18 : Addr} {od18 an18 : Option Addr} {sl18 : Array (Option Value)} {oc18 kV18 dc18 pm18 cd18 ct18 : Value}
    {f19 : Addr} {od19 an19 : Option Addr} {sl19 : Array (Option Value)} {oc19 kV19 dc19 pm19 cd19 ct19 : Value}
    {f20 : Addr} {od20 an20 : Option Addr} {sl20 : Array (Option Value)} {oc20 kV20 dc20 pm20 cd20 ct20 : Value}
    {f21 : Addr} {od21 an21 : Option Addr} {sl21 : Array (Option Value)} {oc21 kV21 dc21 pm21 cd21 ct21 : Value}
    {f22 : Addr} {od22 an22 : Option Addr} {sl22 : Array (Option Value)} {oc22 kV22 dc22 pm22 cd22 ct22 : Value}
    {f23 : Addr} {od23 an23 : Option Addr} {sl23 : Array (Option Value)} {oc23 kV23 dc23 pm23 cd23 ct23 : Value}
    {f24 : Addr} {od24 an24 : Option Addr} {sl24 : Array (Option Value)} {oc24 kV24 dc24 pm24 cd24 ct24 : Value}
    {f25 : Addr} {od25 an25 : Option Addr} {sl25 : Array (Option Value)} {oc25 kV25 dc25 pm25 cd25 ct25 : Value}
    {f26 : Addr} {od26 an26 : Option Addr} {sl26 : Array (Option Value)} {oc26 kV26 dc26 pm26 cd26 ct26 : Value}
    {f27 : Addr} {od27 an27 : Option Addr} {sl27 : Array (Option Value)} {oc27 kV27 dc27 pm27 cd27 ct27 : Value}
    {f28 : Addr} {od28 an28 : Option Addr} {sl28 : Array (Option Value)} {oc28 kV28 dc28 pm28 cd28 ct28 : Value}
    {f29 : Addr} {od29 an29 : Option Addr} {sl29 : Array (Option Value)} {oc29 kV29 dc29 pm29 cd29 ct29 : Value}
    {f30 : Addr} {od30 an30 : Option Addr} {sl30 : Array (Option Value)} {oc30 kV30 dc30 pm30 cd30 ct30 : Value}
    {f31 : Addr} {od31 an31 : Option Addr} {sl31 : Array (Option Value)} {oc31 kV31 dc31 pm31 cd31 ct31 : Value}
    {f32 : Addr} {od32 an32 : Option Addr} {sl32 : Array (Option Value)} {oc32 kV32 dc32 pm32 cd32 ct32 : Value}
    {f33 : Addr} {od33 an33 : Option Addr} {sl33 : Array (Option Value)} {oc33 kV33 dc33 pm33 cd33 ct33 : Value}
    {f34 : Addr} {od34 an34 : Option Addr} {sl34 : Array (Option Value)} {oc34 kV34 dc34 pm34 cd34 ct34 : Value}
    {f35 : Addr} {od35 an35 : Option Addr} {sl35 : Array (Option Value)} {oc35 kV35 dc35 pm35 cd35 ct35 : Value}
    {f36 : Addr} {od36 an36 : Option Addr} {sl36 : Array (Option Value)} {oc36 kV36 dc36 pm36 cd36 ct36 : Value}
    {f37 : Addr} {od37 an37 : Option Addr} {sl37 : Array (Option Value)} {oc37 kV37 dc37 pm37 cd37 ct37 : Value}
    {f38 : Addr} {od38 an38 : Option Addr} {sl38 : Array (Option Value)} {oc38 kV38 dc38 pm38 cd38 ct38 : Value}
    {f39 : Addr} {od39 an39 : Option Addr} {sl39 : Array (Option Value)} {oc39 kV39 dc39 pm39 cd39 ct39 : Value}
    {f40 : Addr} {od40 an40 : Option Addr} {sl40 : Array (Option Value)} {oc40 kV40 dc40 pm40 cd40 ct40 : Value}
    {f41 : Addr} {od41 an41 : Option Addr} {sl41 : Array (Option Value)} {oc41 kV41 dc41 pm41 cd41 ct41 : Value}
    {f42 : Addr} {od42 an42 : Option Addr} {sl42 : Array (Option Value)} {oc42 kV42 dc42 pm42 cd42 ct42 : Value}
    {f43 : Addr} {od43 an43 : Option Addr} {sl43 : Array (Option Value)} {oc43 kV43 dc43 pm43 cd43 ct43 : Value}
    {t0 : Tok}
    {t1 : Tok}
    {t2 : Tok}
    {tj : Addr} {odj : Option Addr} {nj : Nat} {slj : Array (Option Value)} {u0 u1 u2 : Tok}
    {eC eR eN eQ : Addr}
    (a0 : PySem.W.nsIn K mainGlobals "is_integer" = some (some (.ref f0))) (l0 : K.lookup f0 = some ⟨oc0, od0, .func (PySem.W.fnOf "is_integer" "is_integer" (defArgs sIsInteger) (defBody sIsInteger) (defScope sIsInteger) .none kV0 dc0 pm0 an0 cd0 ct0), sl0⟩)
    (c0 : PySem.W.codeIn K cd0 "is_integer" = true) (k0 : PySem.W.keepIn K (.ref f0) = true)
    (a1 : PySem.W.nsIn K mainGlobals "ascending_numbers" = some (some (.ref f1))) (l1 : K.lookup f1 = some ⟨oc1, od1, .func (PySem.W.fnOf "ascending_numbers" "ascending_numbers" (defArgs sAscN) (defBody sAscN) (defScope sAscN) .none kV1 dc1 pm1 an1 cd1 ct1), sl1⟩)
    (c1 : PySem.W.codeIn K cd1 "ascending_numbers" = true) (k1 : PySem.W.keepIn K (.ref f1) = true)
    (a2 : PySem.W.nsIn K mainGlobals "is_sizes" = some (some (.ref f2))) (l2 : K.lookup f2 = some ⟨oc2, od2, .func (PySem.W.fnOf "is_sizes" "is_sizes" (defArgs sIsSizes) (defBody sIsSizes) (defScope sIsSizes) .none kV2 dc2 pm2 an2 cd2 ct2), sl2⟩)
    (c2 : PySem.W.codeIn K cd2 "is_sizes" = true) (k2 : PySem.W.keepIn K (.ref f2) = true)
    (a3 : PySem.W.nsIn K mainGlobals "check_sizes" = some (some (.ref f3))) (l3 : K.lookup f3 = some ⟨oc3, od3, .func (PySem.W.fnOf "check_sizes" "check_sizes" (defArgs sCheckSizes) (defBody sCheckSizes) (defScope sCheckSizes) .none kV3 dc3 pm3 an3 cd3 ct3), sl3⟩)
    (c3 : PySem.W.codeIn K cd3 "check_sizes" = true) (k3 : PySem.W.keepIn K (.ref f3) = true)
    (a4 : PySem.W.nsIn K mainGlobals "is_integer_below" = some (some (.ref f4))) (l4 : K.lookup f4 = some ⟨oc4, od4, .func (PySem.W.fnOf "is_integer_below" "is_integer_below" (defArgs sBelow) (defBody sBelow) (defScope sBelow) .none kV4 dc4 pm4 an4 cd4 ct4), sl4⟩)
    (c4 : PySem.W.codeIn K cd4 "is_integer_below" = true) (k4 : PySem.W.keepIn K (.ref f4) = true)
    (a5 : PySem.W.nsIn K mainGlobals "is_half_case" = some (some (.ref f5))) (l5 : K.lookup f5 = some ⟨oc5, od5, .func (PySem.W.fnOf "is_half_case" "is_half_case" (defArgs sIsHalf) (defBody sIsHalf) (defScope sIsHalf) .none kV5 dc5 pm5 an5 cd5 ct5), sl5⟩)
    (c5 : PySem.W.codeIn K cd5 "is_half_case" = true) (k5 : PySem.W.keepIn K (.ref f5) = true)
    (a6 : PySem.W.nsIn K mainGlobals "is_case" = some (some (.ref f6))) (l6 : K.lookup f6 = some ⟨oc6, od6, .func (PySem.W.fnOf "is_case" "is_case" (defArgs sIsCase) (defBody sIsCase) (defScope sIsCase) .none kV6 dc6 pm6 an6 cd6 ct6), sl6⟩)
    (c6 : PySem.W.codeIn K cd6 "is_case" = true) (k6 : PySem.W.keepIn K (.ref f6) = true)
    (a7 : PySem.W.nsIn K mainGlobals "check_case" = some (some (.ref f7))) (l7 : K.lookup f7 = some ⟨oc7, od7, .func (PySem.W.fnOf "check_case" "check_case" (defArgs sCheckCase) (defBody sCheckCase) (defScope sCheckCase) .none kV7 dc7 pm7 an7 cd7 ct7), sl7⟩)
    (c7 : PySem.W.codeIn K cd7 "check_case" = true) (k7 : PySem.W.keepIn K (.ref f7) = true)
    (a8 : PySem.W.nsIn K mainGlobals "_is_tuple_of" = some (some (.ref f8))) (l8 : K.lookup f8 = some ⟨oc8, od8, .func (PySem.W.fnOf "_is_tuple_of" "_is_tuple_of" (defArgs sTupleOf) (defBody sTupleOf) (defScope sTupleOf) .none kV8 dc8 pm8 an8 cd8 ct8), sl8⟩)
    (c8 : PySem.W.codeIn K cd8 "_is_tuple_of" = true) (k8 : PySem.W.keepIn K (.ref f8) = true)
    (a9 : PySem.W.nsIn K mainGlobals "_are_integers" = some (some (.ref f9))) (l9 : K.lookup f9 = some ⟨oc9, od9, .func (PySem.W.fnOf "_are_integers" "_are_integers" (defArgs sAreInts) (defBody sAreInts) (defScope sAreInts) .none kV9 dc9 pm9 an9 cd9 ct9), sl9⟩)
    (c9 : PySem.W.codeIn K cd9 "_are_integers" = true) (k9 : PySem.W.keepIn K (.ref f9) = true)
    (a10 : PySem.W.nsIn K mainGlobals "_is_weights" = some (some (.ref f10))) (l10 : K.lookup f10 = some ⟨oc10, od10, .func (PySem.W.fnOf "_is_weights" "_is_weights" (defArgs sWeights) (defBody sWeights) (defScope sWeights) .none kV10 dc10 pm10 an10 cd10 ct10), sl10⟩)
    (c10 : PySem.W.codeIn K cd10 "_is_weights" = true) (k10 : PySem.W.keepIn K (.ref f10) = true)
    (a11 : PySem.W.nsIn K mainGlobals "_is_long_form_outside" = some (some (.ref f11))) (l11 : K.lookup f11 = some ⟨oc11, od11, .func (PySem.W.fnOf "_is_long_form_outside" "_is_long_form_outside" (defArgs sLong) (defBody sLong) (defScope sLong) .none kV11 dc11 pm11 an11 cd11 ct11), sl11⟩)
    (c11 : PySem.W.codeIn K cd11 "_is_long_form_outside" = true) (k11 : PySem.W.keepIn K (.ref f11) = true)
    (a12 : PySem.W.nsIn K mainGlobals "_is_form_outside" = some (some (.ref f12))) (l12 : K.lookup f12 = some ⟨oc12, od12, .func (PySem.W.fnOf "_is_form_outside" "_is_form_outside" (defArgs sOutside) (defBody sOutside) (defScope sOutside) .none kV12 dc12 pm12 an12 cd12 ct12), sl12⟩)
    (c12 : PySem.W.codeIn K cd12 "_is_form_outside" = true) (k12 : PySem.W.keepIn K (.ref f12) = true)
    (a13 : PySem.W.nsIn K mainGlobals "inner_forms" = some (some (.ref f13))) (l13 : K.lookup f13 = some ⟨oc13, od13, .func (PySem.W.fnOf "inner_forms" "inner_forms" (defArgs sInner) (defBody sInner) (defScope sInner) .none kV13 dc13 pm13 an13 cd13 ct13), sl13⟩)
    (c13 : PySem.W.codeIn K cd13 "inner_forms" = true) (k13 : PySem.W.keepIn K (.ref f13) = true)
    (a14 : PySem.W.nsIn K mainGlobals "has_form_shape" = some (some (.ref f14))) (l14 : K.lookup f14 = some ⟨oc14, od14, .func (PySem.W.fnOf "has_form_shape" "has_form_shape" (defArgs sShape) (defBody sShape) (defScope sShape) .none kV14 dc14 pm14 an14 cd14 ct14), sl14⟩)
    (c14 : PySem.W.codeIn K cd14 "has_form_shape" = true) (k14 : PySem.W.keepIn K (.ref f14) = true)
    (a15 : PySem.W.nsIn K mainGlobals "check_form" = some (some (.ref f15))) (l15 : K.lookup f15 = some ⟨oc15, od15, .func (PySem.W.fnOf "check_form" "check_form" (defArgs sCheckForm) (defBody sCheckForm) (defScope sCheckForm) .none kV15 dc15 pm15 an15 cd15 ct15), sl15⟩)
    (c15 : PySem.W.codeIn K cd15 "check_form" = true) (k15 : PySem.W.keepIn K (.ref f15) = true)
    (a16 : PySem.W.nsIn K mainGlobals "check_card" = some (some (.ref f16))) (l16 : K.lookup f16 = some ⟨oc16, od16, .func (PySem.W.fnOf "check_card" "check_card" (defArgs sCheckCard) (defBody sCheckCard) (defScope sCheckCard) .none kV16 dc16 pm16 an16 cd16 ct16), sl16⟩)
    (c16 : PySem.W.codeIn K cd16 "check_card" = true) (k16 : PySem.W.keepIn K (.ref f16) = true)
    (a17 : PySem.W.nsIn K mainGlobals "_least" = some (some (.ref f17))) (l17 : K.lookup f17 = some ⟨oc17, od17, .func (PySem.W.fnOf "_least" "_least" (defArgs sLeast) (defBody sLeast) (defScope sLeast) .none kV17 dc17 pm17 an17 cd17 ct17), sl17⟩)
    (c17 : PySem.W.codeIn K cd17 "_least" = true) (k17 : PySem.W.keepIn K (.ref f17) = true)
    (a18 : PySem.W.nsIn K mainGlobals "sum_of_weights" = some (some (.ref f18))) (l18 : K.lookup f18 = some ⟨oc18, od18, .func (PySem.W.fnOf "sum_of_weights" "sum_of_weights" (defArgs sSumOf) (defBody sSumOf) (defScope sSumOf) .none kV18 dc18 pm18 an18 cd18 ct18), sl18⟩)
    (c18 : PySem.W.codeIn K cd18 "sum_of_weights" = true) (k18 : PySem.W.keepIn K (.ref f18) = true)
    (a19 : PySem.W.nsIn K mainGlobals "_greatest" = some (some (.ref f19))) (l19 : K.lookup f19 = some ⟨oc19, od19, .func (PySem.W.fnOf "_greatest" "_greatest" (defArgs sGreatest) (defBody sGreatest) (defScope sGreatest) .none kV19 dc19 pm19 an19 cd19 ct19), sl19⟩)
    (c19 : PySem.W.codeIn K cd19 "_greatest" = true) (k19 : PySem.W.keepIn K (.ref f19) = true)
    (a20 : PySem.W.nsIn K mainGlobals "_check_card_and_case" = some (some (.ref f20))) (l20 : K.lookup f20 = some ⟨oc20, od20, .func (PySem.W.fnOf "_check_card_and_case" "_check_card_and_case" (defArgs sCardCase) (defBody sCardCase) (defScope sCardCase) .none kV20 dc20 pm20 an20 cd20 ct20), sl20⟩)
    (c20 : PySem.W.codeIn K cd20 "_check_card_and_case" = true) (k20 : PySem.W.keepIn K (.ref f20) = true)
    (a21 : PySem.W.nsIn K mainGlobals "_find_slack" = some (some (.ref f21))) (l21 : K.lookup f21 = some ⟨oc21, od21, .func (PySem.W.fnOf "_find_slack" "_find_slack" (defArgs sFindSlack) (defBody sFindSlack) (defScope sFindSlack) .none kV21 dc21 pm21 an21 cd21 ct21), sl21⟩)
    (c21 : PySem.W.codeIn K cd21 "_find_slack" = true) (k21 : PySem.W.keepIn K (.ref f21) = true)
    (a22 : PySem.W.nsIn K mainGlobals "_list_drops" = some (some (.ref f22))) (l22 : K.lookup f22 = some ⟨oc22, od22, .func (PySem.W.fnOf "_list_drops" "_list_drops" (defArgs sListDrops) (defBody sListDrops) (defScope sListDrops) .none kV22 dc22 pm22 an22 cd22 ct22), sl22⟩)
    (c22 : PySem.W.codeIn K cd22 "_list_drops" = true) (k22 : PySem.W.keepIn K (.ref f22) = true)
    (a23 : PySem.W.nsIn K mainGlobals "_descending" = some (some (.ref f23))) (l23 : K.lookup f23 = some ⟨oc23, od23, .func (PySem.W.fnOf "_descending" "_descending" (defArgs sDesc) (defBody sDesc) (defScope sDesc) .none kV23 dc23 pm23 an23 cd23 ct23), sl23⟩)
    (c23 : PySem.W.codeIn K cd23 "_descending" = true) (k23 : PySem.W.keepIn K (.ref f23) = true)
    (a24 : PySem.W.nsIn K mainGlobals "_fewest_reaching" = some (some (.ref f24))) (l24 : K.lookup f24 = some ⟨oc24, od24, .func (PySem.W.fnOf "_fewest_reaching" "_fewest_reaching" (defArgs sFewest) (defBody sFewest) (defScope sFewest) .none kV24 dc24 pm24 an24 cd24 ct24), sl24⟩)
    (c24 : PySem.W.codeIn K cd24 "_fewest_reaching" = true) (k24 : PySem.W.keepIn K (.ref f24) = true)
    (a25 : PySem.W.nsIn K mainGlobals "_first_reaching" = some (some (.ref f25))) (l25 : K.lookup f25 = some ⟨oc25, od25, .func (PySem.W.fnOf "_first_reaching" "_first_reaching" (defArgs sFirst) (defBody sFirst) (defScope sFirst) .none kV25 dc25 pm25 an25 cd25 ct25), sl25⟩)
    (c25 : PySem.W.codeIn K cd25 "_first_reaching" = true) (k25 : PySem.W.keepIn K (.ref f25) = true)
    (a26 : PySem.W.nsIn K mainGlobals "_turn_goal" = some (some (.ref f26))) (l26 : K.lookup f26 = some ⟨oc26, od26, .func (PySem.W.fnOf "_turn_goal" "_turn_goal" (defArgs sTurnGoal) (defBody sTurnGoal) (defScope sTurnGoal) .none kV26 dc26 pm26 an26 cd26 ct26), sl26⟩)
    (c26 : PySem.W.codeIn K cd26 "_turn_goal" = true) (k26 : PySem.W.keepIn K (.ref f26) = true)
    (a27 : PySem.W.nsIn K mainGlobals "shortest_card_turn" = some (some (.ref f27))) (l27 : K.lookup f27 = some ⟨oc27, od27, .func (PySem.W.fnOf "shortest_card_turn" "shortest_card_turn" (defArgs sTurn) (defBody sTurn) (defScope sTurn) .none kV27 dc27 pm27 an27 cd27 ct27), sl27⟩)
    (c27 : PySem.W.codeIn K cd27 "shortest_card_turn" = true) (k27 : PySem.W.keepIn K (.ref f27) = true)
    (a28 : PySem.W.nsIn K mainGlobals "_law_no_turn" = some (some (.ref f28))) (l28 : K.lookup f28 = some ⟨oc28, od28, .func (PySem.W.fnOf "_law_no_turn" "_law_no_turn" (defArgs sNoTurn) (defBody sNoTurn) (defScope sNoTurn) .none kV28 dc28 pm28 an28 cd28 ct28), sl28⟩)
    (c28 : PySem.W.codeIn K cd28 "_law_no_turn" = true) (k28 : PySem.W.keepIn K (.ref f28) = true)
    (a29 : PySem.W.nsIn K mainGlobals "_law_bag" = some (some (.ref f29))) (l29 : K.lookup f29 = some ⟨oc29, od29, .func (PySem.W.fnOf "_law_bag" "_law_bag" (defArgs sBag) (defBody sBag) (defScope sBag) .none kV29 dc29 pm29 an29 cd29 ct29), sl29⟩)
    (c29 : PySem.W.codeIn K cd29 "_law_bag" = true) (k29 : PySem.W.keepIn K (.ref f29) = true)
    (a30 : PySem.W.nsIn K mainGlobals "_law_draw" = some (some (.ref f30))) (l30 : K.lookup f30 = some ⟨oc30, od30, .func (PySem.W.fnOf "_law_draw" "_law_draw" (defArgs sDraw) (defBody sDraw) (defScope sDraw) .none kV30 dc30 pm30 an30 cd30 ct30), sl30⟩)
    (c30 : PySem.W.codeIn K cd30 "_law_draw" = true) (k30 : PySem.W.keepIn K (.ref f30) = true)
    (a31 : PySem.W.nsIn K mainGlobals "_law_sheet" = some (some (.ref f31))) (l31 : K.lookup f31 = some ⟨oc31, od31, .func (PySem.W.fnOf "_law_sheet" "_law_sheet" (defArgs sSheet) (defBody sSheet) (defScope sSheet) .none kV31 dc31 pm31 an31 cd31 ct31), sl31⟩)
    (c31 : PySem.W.codeIn K cd31 "_law_sheet" = true) (k31 : PySem.W.keepIn K (.ref f31) = true)
    (a32 : PySem.W.nsIn K mainGlobals "_law_row" = some (some (.ref f32))) (l32 : K.lookup f32 = some ⟨oc32, od32, .func (PySem.W.fnOf "_law_row" "_law_row" (defArgs sRow) (defBody sRow) (defScope sRow) .none kV32 dc32 pm32 an32 cd32 ct32), sl32⟩)
    (c32 : PySem.W.codeIn K cd32 "_law_row" = true) (k32 : PySem.W.keepIn K (.ref f32) = true)
    (a33 : PySem.W.nsIn K mainGlobals "_law_weights" = some (some (.ref f33))) (l33 : K.lookup f33 = some ⟨oc33, od33, .func (PySem.W.fnOf "_law_weights" "_law_weights" (defArgs sLWeights) (defBody sLWeights) (defScope sLWeights) .none kV33 dc33 pm33 an33 cd33 ct33), sl33⟩)
    (c33 : PySem.W.codeIn K cd33 "_law_weights" = true) (k33 : PySem.W.keepIn K (.ref f33) = true)
    (a34 : PySem.W.nsIn K mainGlobals "_law_sum" = some (some (.ref f34))) (l34 : K.lookup f34 = some ⟨oc34, od34, .func (PySem.W.fnOf "_law_sum" "_law_sum" (defArgs sLSum) (defBody sLSum) (defScope sLSum) .none kV34 dc34 pm34 an34 cd34 ct34), sl34⟩)
    (c34 : PySem.W.codeIn K cd34 "_law_sum" = true) (k34 : PySem.W.keepIn K (.ref f34) = true)
    (a35 : PySem.W.nsIn K mainGlobals "_law_bound" = some (some (.ref f35))) (l35 : K.lookup f35 = some ⟨oc35, od35, .func (PySem.W.fnOf "_law_bound" "_law_bound" (defArgs sLBound) (defBody sLBound) (defScope sLBound) .none kV35 dc35 pm35 an35 cd35 ct35), sl35⟩)
    (c35 : PySem.W.codeIn K cd35 "_law_bound" = true) (k35 : PySem.W.keepIn K (.ref f35) = true)
    (a36 : PySem.W.nsIn K mainGlobals "_law_whole" = some (some (.ref f36))) (l36 : K.lookup f36 = some ⟨oc36, od36, .func (PySem.W.fnOf "_law_whole" "_law_whole" (defArgs sWhole) (defBody sWhole) (defScope sWhole) .none kV36 dc36 pm36 an36 cd36 ct36), sl36⟩)
    (c36 : PySem.W.codeIn K cd36 "_law_whole" = true) (k36 : PySem.W.keepIn K (.ref f36) = true)
    (a37 : PySem.W.nsIn K mainGlobals "_law_flat" = some (some (.ref f37))) (l37 : K.lookup f37 = some ⟨oc37, od37, .func (PySem.W.fnOf "_law_flat" "_law_flat" (defArgs sFlat) (defBody sFlat) (defScope sFlat) .none kV37 dc37 pm37 an37 cd37 ct37), sl37⟩)
    (c37 : PySem.W.codeIn K cd37 "_law_flat" = true) (k37 : PySem.W.keepIn K (.ref f37) = true)
    (a38 : PySem.W.nsIn K mainGlobals "_law_slack" = some (some (.ref f38))) (l38 : K.lookup f38 = some ⟨oc38, od38, .func (PySem.W.fnOf "_law_slack" "_law_slack" (defArgs sLSlack) (defBody sLSlack) (defScope sLSlack) .none kV38 dc38 pm38 an38 cd38 ct38), sl38⟩)
    (c38 : PySem.W.codeIn K cd38 "_law_slack" = true) (k38 : PySem.W.keepIn K (.ref f38) = true)
    (a39 : PySem.W.nsIn K mainGlobals "_law_drops" = some (some (.ref f39))) (l39 : K.lookup f39 = some ⟨oc39, od39, .func (PySem.W.fnOf "_law_drops" "_law_drops" (defArgs sLDrops) (defBody sLDrops) (defScope sLDrops) .none kV39 dc39 pm39 an39 cd39 ct39), sl39⟩)
    (c39 : PySem.W.codeIn K cd39 "_law_drops" = true) (k39 : PySem.W.keepIn K (.ref f39) = true)
    (a40 : PySem.W.nsIn K mainGlobals "_law_worst" = some (some (.ref f40))) (l40 : K.lookup f40 = some ⟨oc40, od40, .func (PySem.W.fnOf "_law_worst" "_law_worst" (defArgs sWorst) (defBody sWorst) (defScope sWorst) .none kV40 dc40 pm40 an40 cd40 ct40), sl40⟩)
    (c40 : PySem.W.codeIn K cd40 "_law_worst" = true) (k40 : PySem.W.keepIn K (.ref f40) = true)
    (a41 : PySem.W.nsIn K mainGlobals "_law_greatest" = some (some (.ref f41))) (l41 : K.lookup f41 = some ⟨oc41, od41, .func (PySem.W.fnOf "_law_greatest" "_law_greatest" (defArgs sLGreatest) (defBody sLGreatest) (defScope sLGreatest) .none kV41 dc41 pm41 an41 cd41 ct41), sl41⟩)
    (c41 : PySem.W.codeIn K cd41 "_law_greatest" = true) (k41 : PySem.W.keepIn K (.ref f41) = true)
    (a42 : PySem.W.nsIn K mainGlobals "_law_is_first" = some (some (.ref f42))) (l42 : K.lookup f42 = some ⟨oc42, od42, .func (PySem.W.fnOf "_law_is_first" "_law_is_first" (defArgs sIsFirst) (defBody sIsFirst) (defScope sIsFirst) .none kV42 dc42 pm42 an42 cd42 ct42), sl42⟩)
    (c42 : PySem.W.codeIn K cd42 "_law_is_first" = true) (k42 : PySem.W.keepIn K (.ref f42) = true)
    (a43 : PySem.W.nsIn K mainGlobals "law" = some (some (.ref f43))) (l43 : K.lookup f43 = some ⟨oc43, od43, .func (PySem.W.fnOf "law" "law" (defArgs sLaw) (defBody sLaw) (defScope sLaw) .none kV43 dc43 pm43 an43 cd43 ct43), sl43⟩)
    (c43 : PySem.W.codeIn K cd43 "law" = true) (k43 : PySem.W.keepIn K (.ref f43) = true)
    (n0 : PySem.W.nsIn K mainGlobals "MOST_FIELDS" = some (some (.int 24 t0)))
    (n1 : PySem.W.nsIn K mainGlobals "LEAST_SIZE" = some (some (.int 2 t1)))
    (n2 : PySem.W.nsIn K mainGlobals "GREATEST_SIZE" = some (some (.int 6 t2)))
    (z0 : PySem.W.nsIn K mainGlobals "int" = some none)
    (z1 : PySem.W.nsIn K mainGlobals "bool" = some none)
    (z2 : PySem.W.nsIn K mainGlobals "list" = some none)
    (z3 : PySem.W.nsIn K mainGlobals "tuple" = some none)
    (z4 : PySem.W.nsIn K mainGlobals "str" = some none)
    (z5 : PySem.W.nsIn K mainGlobals "len" = some none)
    (z6 : PySem.W.nsIn K mainGlobals "isinstance" = some none)
    (z7 : PySem.W.nsIn K mainGlobals "all" = some none)
    (z8 : PySem.W.nsIn K mainGlobals "range" = some none)
    (z9 : PySem.W.nsIn K mainGlobals "sorted" = some none)
    (z10 : PySem.W.nsIn K mainGlobals "sum" = some none)
    (z11 : PySem.W.nsIn K mainGlobals "max" = some none)
    (z12 : PySem.W.nsIn K mainGlobals "min" = some none)
    (z13 : PySem.W.nsIn K mainGlobals "ValueError" = some none)
    (aj : PySem.W.nsIn K mainGlobals "JOINING_WORDS" = some (some (.ref tj))) (lj : K.lookup tj = some ⟨.type "tuple", odj, .seq #[.str "and" u0, .str "or" u1, .str "odd" u2] nj, slj⟩)
    (aC : PySem.W.nsIn K mainGlobals "NoTurn" = some (some (.ref eC)))
    (aR : PySem.W.nsIn K mainGlobals "ReasonError" = some (some (.ref eR)))
    (aN : PySem.W.nsIn K mainGlobals "NoReason" = some (some (.ref eN)))
    (aQ : PySem.W.nsIn K mainGlobals "NoCard" = some (some (.ref eQ)))
    (er1 : PySem.W.excIn K eC [.type "ValueError", .type "Exception", .type "BaseException", .type "object"] "ValueError.__new__" = true)
    (er2 : PySem.W.keepIn K (.ref eC) = true)
    (er3 : PySem.W.typeIn K (.ref eC) = some (.type "type"))
    (ec1 : PySem.W.findIn K (.ref eC) "__getattribute__" = some (some (.builtin "BaseException.__getattribute__")))
    (ec2 : PySem.W.findIn K (.ref eC) "__getattr__" = some none)
    (ec3 : PySem.W.subIn K (.ref eC) (.type "BaseException") = some true)
    (ec4 : PySem.W.hasDictIn K eC = true)
    (ec5 : PySem.W.findIn K (.ref eC) "__class__" = some (some (.builtin "object.__class__")))
    (ec6 : PySem.W.specialIn K (.builtin "object.__class__") "__get__" = some (some (.builtin "getset_descriptor.__get__")))
    (ec7 : PySem.W.takesIn K (.builtin "object.__class__") = some true)
    (ec8 : PySem.W.mroIn K eC (.type "object") = some true)
    (exm : PySem.W.exmOne K (.ref eC) (.ref eR) = some true)
    (kt1 : PySem.W.kitOne K (.ref eC) (.ref eC) = some true)
    (kt2 : PySem.W.kitOne K (.ref eC) (.type "ValueError") = some true)
    (kt3 : PySem.W.kitOne K (.ref eC) (.ref eN) = some false)
    (kt4 : PySem.W.kitOne K (.ref eC) (.ref eQ) = some false)
    : ∃ fd : FuncData, (∀ (s : Shared) (v : Value), BindsTo s fd ⟨[v], []⟩ [("script", v)]) ∧ ∀ base : Heap, K.In base → base.Ns mainGlobals mg → FnG l.prog w K mg base CX0 12 fa fd ["script"] (spLaw K) := by
  have e := hfa.symm.trans (PySem.W.mg_of X G a43)
  cases e
  have F0 := fun_mk (st := sIsInteger) l0 c0 k0
  have g0' := PySem.W.mg_of X G a0
  have b0 := F0.binds (ps := ["value"]) fun _ _ _ _ _ _ us hl => match us, hl with | [_], _ => rfl
  have F1 := fun_mk (st := sAscN) l1 c1 k1
  have g1' := PySem.W.mg_of X G a1
  have b1 := F1.binds (ps := ["numbers"]) fun _ _ _ _ _ _ us hl => match us, hl with | [_], _ => rfl
  have F2 := fun_mk (st := sIsSizes) l2 c2 k2
  have g2' := PySem.W.mg_of X G a2
  have b2 := F2.binds (ps := ["value"]) fun _ _ _ _ _ _ us hl => match us, hl with | [_], _ => rfl
  have F3 := fun_mk (st := sCheckSizes) l3 c3 k3
  have g3' := PySem.W.mg_of X G a3
  have b3 := F3.binds (ps := ["sizes"]) fun _ _ _ _ _ _ us hl => match us, hl with | [_], _ => rfl
  have F4 := fun_mk (st := sBelow) l4 c4 k4
  have g4' := PySem.W.mg_of X G a4
  have b4 := F4.binds (ps := ["value", "limit"]) fun _ _ _ _ _ _ us hl => match us, hl with | [_, _], _ => rfl
  have F5 := fun_mk (st := sIsHalf) l5 c5 k5
  have g5' := PySem.W.mg_of X G a5
  have b5 := F5.binds (ps := ["sizes", "value"]) fun _ _ _ _ _ _ us hl => match us, hl with | [_, _], _ => rfl
  have F6 := fun_mk (st := sIsCase) l6 c6 k6
  have g6' := PySem.W.mg_of X G a6
  have b6 := F6.binds (ps := ["sizes", "value"]) fun _ _ _ _ _ _ us hl => match us, hl with | [_, _], _ => rfl
  have F7 := fun_mk (st := sCheckCase) l7 c7 k7
  have g7' := PySem.W.mg_of X G a7
  have b7 := F7.binds (ps := ["sizes", "case"]) fun _ _ _ _ _ _ us hl => match us, hl with | [_, _], _ => rfl
  have F8 := fun_mk (st := sTupleOf) l8 c8 k8
  have g8' := PySem.W.mg_of X G a8
  have b8 := F8.binds (ps := ["value", "length"]) fun _ _ _ _ _ _ us hl => match us, hl with | [_, _], _ => rfl
  have F9 := fun_mk (st := sAreInts) l9 c9 k9
  have g9' := PySem.W.mg_of X G a9
  have b9 := F9.binds (ps := ["values"]) fun _ _ _ _ _ _ us hl => match us, hl with | [_], _ => rfl
  have F10 := fun_mk (st := sWeights) l10 c10 k10
  have g10' := PySem.W.mg_of X G a10
  have b10 := F10.binds (ps := ["sizes", "value"]) fun _ _ _ _ _ _ us hl => match us, hl with | [_, _], _ => rfl
  have F11 := fun_mk (st := sLong) l11 c11 k11
  have g11' := PySem.W.mg_of X G a11
  have b11 := F11.binds (ps := ["sizes", "word", "part", "second_part"]) fun _ _ _ _ _ _ us hl => match us, hl with | [_, _, _, _], _ => rfl
  have F12 := fun_mk (st := sOutside) l12 c12 k12
  have g12' := PySem.W.mg_of X G a12
  have b12 := F12.binds (ps := ["sizes", "value"]) fun _ _ _ _ _ _ us hl => match us, hl with | [_, _], _ => rfl
  have F13 := fun_mk (st := sInner) l13 c13 k13
  have g13' := PySem.W.mg_of X G a13
  have b13 := F13.binds (ps := ["form"]) fun _ _ _ _ _ _ us hl => match us, hl with | [_], _ => rfl
  have F14 := fun_mk (st := sShape) l14 c14 k14
  have g14' := PySem.W.mg_of X G a14
  have b14 := F14.binds (ps := ["sizes", "value"]) fun _ _ _ _ _ _ us hl => match us, hl with | [_, _], _ => rfl
  have F15 := fun_mk (st := sCheckForm) l15 c15 k15
  have g15' := PySem.W.mg_of X G a15
  have b15 := F15.binds (ps := ["sizes", "form"]) fun _ _ _ _ _ _ us hl => match us, hl with | [_, _], _ => rfl
  have F16 := fun_mk (st := sCheckCard) l16 c16 k16
  have g16' := PySem.W.mg_of X G a16
  have b16 := F16.binds (ps := ["sizes", "card"]) fun _ _ _ _ _ _ us hl => match us, hl with | [_, _], _ => rfl
  have F17 := fun_mk (st := sLeast) l17 c17 k17
  have g17' := PySem.W.mg_of X G a17
  have b17 := F17.binds (ps := ["row"]) fun _ _ _ _ _ _ us hl => match us, hl with | [_], _ => rfl
  have F18 := fun_mk (st := sSumOf) l18 c18 k18
  have g18' := PySem.W.mg_of X G a18
  have b18 := F18.binds (ps := ["weights", "case"]) fun _ _ _ _ _ _ us hl => match us, hl with | [_, _], _ => rfl
  have F19 := fun_mk (st := sGreatest) l19 c19 k19
  have g19' := PySem.W.mg_of X G a19
  have b19 := F19.binds (ps := ["row"]) fun _ _ _ _ _ _ us hl => match us, hl with | [_], _ => rfl
  have F20 := fun_mk (st := sCardCase) l20 c20 k20
  have g20' := PySem.W.mg_of X G a20
  have b20 := F20.binds (ps := ["sizes", "card", "case"]) fun _ _ _ _ _ _ us hl => match us, hl with | [_, _, _], _ => rfl
  have F21 := fun_mk (st := sFindSlack) l21 c21 k21
  have g21' := PySem.W.mg_of X G a21
  have b21 := F21.binds (ps := ["card", "case"]) fun _ _ _ _ _ _ us hl => match us, hl with | [_, _], _ => rfl
  have F22 := fun_mk (st := sListDrops) l22 c22 k22
  have g22' := PySem.W.mg_of X G a22
  have b22 := F22.binds (ps := ["card", "case"]) fun _ _ _ _ _ _ us hl => match us, hl with | [_, _], _ => rfl
  have F23 := fun_mk (st := sDesc) l23 c23 k23
  have g23' := PySem.W.mg_of X G a23
  have b23 := F23.binds (ps := ["numbers"]) fun _ _ _ _ _ _ us hl => match us, hl with | [_], _ => rfl
  have F24 := fun_mk (st := sFewest) l24 c24 k24
  have g24' := PySem.W.mg_of X G a24
  have b24 := F24.binds (ps := ["numbers", "goal"]) fun _ _ _ _ _ _ us hl => match us, hl with | [_, _], _ => rfl
  have F25 := fun_mk (st := sFirst) l25 c25 k25
  have g25' := PySem.W.mg_of X G a25
  have b25 := F25.binds (ps := ["numbers", "goal"]) fun _ _ _ _ _ _ us hl => match us, hl with | [_, _], _ => rfl
  have F26 := fun_mk (st := sTurnGoal) l26 c26 k26
  have g26' := PySem.W.mg_of X G a26
  have b26 := F26.binds (ps := ["card", "case"]) fun _ _ _ _ _ _ us hl => match us, hl with | [_, _], _ => rfl
  have F27 := fun_mk (st := sTurn) l27 c27 k27
  have g27' := PySem.W.mg_of X G a27
  have b27 := F27.binds (ps := ["sizes", "card", "case"]) fun _ _ _ _ _ _ us hl => match us, hl with | [_, _, _], _ => rfl
  have F28 := fun_mk (st := sNoTurn) l28 c28 k28
  have g28' := PySem.W.mg_of X G a28
  have b28 := F28.binds (ps := ["sheet", "plan", "row"]) fun _ _ _ _ _ _ us hl => match us, hl with | [_, _, _], _ => rfl
  have F29 := fun_mk (st := sBag) l29 c29 k29
  have g29' := PySem.W.mg_of X G a29
  have b29 := F29.binds (ps := ["cell"]) fun _ _ _ _ _ _ us hl => match us, hl with | [_], _ => rfl
  have F30 := fun_mk (st := sDraw) l30 c30 k30
  have g30' := PySem.W.mg_of X G a30
  have b30 := F30.binds (ps := ["bag", "many"]) fun _ _ _ _ _ _ us hl => match us, hl with | [_, _], _ => rfl
  have F31 := fun_mk (st := sSheet) l31 c31 k31
  have g31' := PySem.W.mg_of X G a31
  have b31 := F31.binds (ps := ["bag"]) fun _ _ _ _ _ _ us hl => match us, hl with | [_], _ => rfl
  have F32 := fun_mk (st := sRow) l32 c32 k32
  have g32' := PySem.W.mg_of X G a32
  have b32 := F32.binds (ps := ["bag", "sheet"]) fun _ _ _ _ _ _ us hl => match us, hl with | [_, _], _ => rfl
  have F33 := fun_mk (st := sLWeights) l33 c33 k33
  have g33' := PySem.W.mg_of X G a33
  have b33 := F33.binds (ps := ["bag", "sheet"]) fun _ _ _ _ _ _ us hl => match us, hl with | [_, _], _ => rfl
  have F34 := fun_mk (st := sLSum) l34 c34 k34
  have g34' := PySem.W.mg_of X G a34
  have b34 := F34.binds (ps := ["weights", "row"]) fun _ _ _ _ _ _ us hl => match us, hl with | [_, _], _ => rfl
  have F35 := fun_mk (st := sLBound) l35 c35 k35
  have g35' := PySem.W.mg_of X G a35
  have b35 := F35.binds (ps := ["bag", "total"]) fun _ _ _ _ _ _ us hl => match us, hl with | [_, _], _ => rfl
  have F36 := fun_mk (st := sWhole) l36 c36 k36
  have g36' := PySem.W.mg_of X G a36
  have b36 := F36.binds (ps := ["found"]) fun _ _ _ _ _ _ us hl => match us, hl with | [_], _ => rfl
  have F37 := fun_mk (st := sFlat) l37 c37 k37
  have g37' := PySem.W.mg_of X G a37
  have b37 := F37.binds (ps := ["found"]) fun _ _ _ _ _ _ us hl => match us, hl with | [_], _ => rfl
  have F38 := fun_mk (st := sLSlack) l38 c38 k38
  have g38' := PySem.W.mg_of X G a38
  have b38 := F38.binds (ps := ["weights", "bound", "row"]) fun _ _ _ _ _ _ us hl => match us, hl with | [_, _, _], _ => rfl
  have F39 := fun_mk (st := sLDrops) l39 c39 k39
  have g39' := PySem.W.mg_of X G a39
  have b39 := F39.binds (ps := ["weights", "bound", "row"]) fun _ _ _ _ _ _ us hl => match us, hl with | [_, _, _], _ => rfl
  have F40 := fun_mk (st := sWorst) l40 c40 k40
  have g40' := PySem.W.mg_of X G a40
  have b40 := F40.binds (ps := ["weights", "bound", "row", "fields"]) fun _ _ _ _ _ _ us hl => match us, hl with | [_, _, _, _], _ => rfl
  have F41 := fun_mk (st := sLGreatest) l41 c41 k41
  have g41' := PySem.W.mg_of X G a41
  have b41 := F41.binds (ps := ["changes", "many"]) fun _ _ _ _ _ _ us hl => match us, hl with | [_, _], _ => rfl
  have F42 := fun_mk (st := sIsFirst) l42 c42 k42
  have g42' := PySem.W.mg_of X G a42
  have b42 := F42.binds (ps := ["found", "changes", "need"]) fun _ _ _ _ _ _ us hl => match us, hl with | [_, _, _], _ => rfl
  have F43 := fun_mk (st := sLaw) l43 c43 k43
  have g43' := PySem.W.mg_of X G a43
  have m0 := PySem.W.mg_of X G n0
  have m1 := PySem.W.mg_of X G n1
  have m2 := PySem.W.mg_of X G n2
  have y0 := PySem.W.mg_none_of X G z0
  have y1 := PySem.W.mg_none_of X G z1
  have y2 := PySem.W.mg_none_of X G z2
  have y3 := PySem.W.mg_none_of X G z3
  have y4 := PySem.W.mg_none_of X G z4
  have y5 := PySem.W.mg_none_of X G z5
  have y6 := PySem.W.mg_none_of X G z6
  have y7 := PySem.W.mg_none_of X G z7
  have y8 := PySem.W.mg_none_of X G z8
  have y9 := PySem.W.mg_none_of X G z9
  have y10 := PySem.W.mg_none_of X G z10
  have y11 := PySem.W.mg_none_of X G z11
  have y12 := PySem.W.mg_none_of X G z12
  have y13 := PySem.W.mg_none_of X G z13
  refine ⟨PySem.W.fnOf "law" "law" (defArgs sLaw) (defBody sLaw) (defScope sLaw) .none kV43 dc43 pm43 an43 cd43 ct43, fun s v => .of_eq rfl, fun base _ _ => ?_⟩
  have T : Txt mg := ⟨y0, y1, y2, y3, y4, y5, y6, y7, y8, y9, y10, y11, y12⟩
  have J : JW K mg := ⟨tj, PySem.W.mg_of X G aj, fun H => .inr ⟨_, _, _, lj, rfl, rfl, by show 3 ≤ sizeLine; decide, .cons ⟨_, rfl⟩ (.cons ⟨_, rfl⟩ (.cons ⟨_, rfl⟩ .nil))⟩⟩
  have C : Cst mg := ⟨⟨_, m0⟩, ⟨_, m1⟩, ⟨_, m2⟩⟩
  have EC : ErrC K eC := ⟨er1, er2, er3, ⟨ec1, ec2, ec3, ec4, ec5, ec6, ec7, ec8⟩⟩
  have gC := PySem.W.mg_of X G aC
  have gR := PySem.W.mg_of X G aR
  have gN := PySem.W.mg_of X G aN
  have gQ := PySem.W.mg_of X G aQ
  have H_is_integer : Has l.prog w K mg base 1 "is_integer" ["value"] (spIsInteger K) := ⟨_, _, ok_isInteger (k := 0) F0 T, b0, g0', k0⟩
  have H_ascending_numbers : Has l.prog w K mg base 1 "ascending_numbers" ["numbers"] (spAscN K) := ⟨_, _, ok_ascN (k := 0) F1 T, b1, g1', k1⟩
  have H_is_sizes : Has l.prog w K mg base 2 "is_sizes" ["value"] (spIsSizes K) := ⟨_, _, ok_isSizes (k := 1) F2 T C (H_is_integer.mono (by decide)), b2, g2', k2⟩
  have H_check_sizes : Has l.prog w K mg base 3 "check_sizes" ["sizes"] (spCheckSizes K) := ⟨_, _, ok_checkSizes (k := 2) F3 (H_is_sizes.mono (by decide)), b3, g3', k3⟩
  have H_is_integer_below : Has l.prog w K mg base 2 "is_integer_below" ["value", "limit"] (spBelow K) := ⟨_, _, ok_below (k := 1) F4 (H_is_integer.mono (by decide)), b4, g4', k4⟩
  have H_is_half_case : Has l.prog w K mg base 3 "is_half_case" ["sizes", "value"] (spIsHalf K) := ⟨_, _, ok_isHalf (k := 2) F5 T (H_is_integer_below.mono (by decide)), b5, g5', k5⟩
  have H_is_case : Has l.prog w K mg base 4 "is_case" ["sizes", "value"] (spIsHalf K) := ⟨_, _, ok_isCase (k := 3) F6 (H_is_half_case.mono (by decide)), b6, g6', k6⟩
  have H_check_case : Has l.prog w K mg base 5 "check_case" ["sizes", "case"] (spCheckCase K) := ⟨_, _, ok_checkCase (k := 4) F7 (H_is_case.mono (by decide)), b7, g7', k7⟩
  have H__is_tuple_of : Has l.prog w K mg base 1 "_is_tuple_of" ["value", "length"] (spTupleOf K) := ⟨_, _, ok_tupleOf (k := 0) F8 T, b8, g8', k8⟩
  have H__are_integers : Has l.prog w K mg base 2 "_are_integers" ["values"] (spAreInts K) := ⟨_, _, ok_areInts (k := 1) F9 T (H_is_integer.mono (by decide)), b9, g9', k9⟩
  have H__is_weights : Has l.prog w K mg base 3 "_is_weights" ["sizes", "value"] (spWeights K) := ⟨_, _, ok_weights (k := 2) F10 T (H__is_tuple_of.mono (by decide)) (H__are_integers.mono (by decide)), b10, g10', k10⟩
  have H__is_long_form_outside : Has l.prog w K mg base 4 "_is_long_form_outside" ["sizes", "word", "part", "second_part"] (spLong K) := ⟨_, _, ok_long (k := 3) F11 (H__is_weights.mono (by decide)) (H_is_integer.mono (by decide)), b11, g11', k11⟩
  have H__is_form_outside : Has l.prog w K mg base 5 "_is_form_outside" ["sizes", "value"] (spOutside K) := ⟨_, _, ok_outside (k := 4) F12 T (H__is_long_form_outside.mono (by decide)), b12, g12', k12⟩
  have H_inner_forms : Has l.prog w K mg base 1 "inner_forms" ["form"] (spInner K) := ⟨_, _, ok_inner (k := 0) F13 J, b13, g13', k13⟩
  have H_has_form_shape : Has l.prog w K mg base 6 "has_form_shape" ["sizes", "value"] (spOutside K) := ⟨_, _, ok_shape (k := 5) F14 (H__is_form_outside.mono (by decide)) (H_inner_forms.mono (by decide)), b14, g14', k14⟩
  have H_check_form : Has l.prog w K mg base 7 "check_form" ["sizes", "form"] (spCheckForm K) := ⟨_, _, ok_checkForm (k := 6) F15 (H_has_form_shape.mono (by decide)), b15, g15', k15⟩
  have H_check_card : Has l.prog w K mg base 8 "check_card" ["sizes", "card"] (spCheckForm K) := ⟨_, _, ok_checkCard (k := 7) F16 (H_check_form.mono (by decide)), b16, g16', k16⟩
  have H__least : Has l.prog w K mg base 2 "_least" ["row"] (spLeast K minR) := ⟨_, _, ok_least (k := 1) F17 (H_ascending_numbers.mono (by decide)), b17, g17', k17⟩
  have H_sum_of_weights : Has l.prog w K mg base 1 "sum_of_weights" ["weights", "case"] (spSumOf K) := ⟨_, _, ok_sumOf (k := 0) F18 T, b18, g18', k18⟩
  have H__greatest : Has l.prog w K mg base 2 "_greatest" ["row"] (spLeast K maxR) := ⟨_, _, ok_greatest (k := 1) F19 (H_ascending_numbers.mono (by decide)), b19, g19', k19⟩
  have H__check_card_and_case : Has l.prog w K mg base 9 "_check_card_and_case" ["sizes", "card", "case"] (spCardCase K) := ⟨_, _, ok_cardCase (k := 8) F20 (H_check_sizes.mono (by decide)) (H_check_card.mono (by decide)) (H_check_case.mono (by decide)), b20, g20', k20⟩
  have H__find_slack : Has l.prog w K mg base 2 "_find_slack" ["card", "case"] (spFindSlack K slackC) := ⟨_, _, ok_findSlack (k := 1) F21 (H_sum_of_weights.mono (by decide)), b21, g21', k21⟩
  have H__list_drops : Has l.prog w K mg base 3 "_list_drops" ["card", "case"] (spListDrops K) := ⟨_, _, ok_listDrops (k := 2) F22 T (H_sum_of_weights.mono (by decide)) (H__least.mono (by decide)) (H__greatest.mono (by decide)), b22, g22', k22⟩
  have H_L : Has l.prog w K mg base 1 "ascending_numbers" ["numbers"] (spAscL K) := ⟨_, _, ok_ascL (k := 0) F1 T, b1, g1', k1⟩
  have H__descending : Has l.prog w K mg base 2 "_descending" ["numbers"] (spDesc K) := ⟨_, _, ok_desc (k := 1) F23 (H_L.mono (by decide)), b23, g23', k23⟩
  have H__fewest_reaching : Has l.prog w K mg base 3 "_fewest_reaching" ["numbers", "goal"] (spFewest K) := ⟨_, _, ok_fewest (k := 2) F24 (H__descending.mono (by decide)), b24, g24', k24⟩
  have H__first_reaching : Has l.prog w K mg base 4 "_first_reaching" ["numbers", "goal"] (spFirst K) := ⟨_, _, ok_first (k := 3) F25 T (H__fewest_reaching.mono (by decide)) (H__descending.mono (by decide)), b25, g25', k25⟩
  have H__turn_goal : Has l.prog w K mg base 3 "_turn_goal" ["card", "case"] (spFindSlack K turnC) := ⟨_, _, ok_turnGoal (k := 2) F26 (H__find_slack.mono (by decide)), b26, g26', k26⟩
  have H_shortest_card_turn : Has l.prog w K mg base 10 "shortest_card_turn" ["sizes", "card", "case"] (spTurn K) := ⟨_, _, ok_turn (k := 9) F27 T (H__check_card_and_case.mono (by decide)) (H__list_drops.mono (by decide)) (H__turn_goal.mono (by decide)) (H__first_reaching.mono (by decide)), b27, g27', k27⟩
  have H_T : HasX l.prog w K mg base 10 "shortest_card_turn" ["sizes", "card", "case"] (spTurnX K eC) := ⟨_, _, ok_turnX (k := 9) F27 T EC gC (H__check_card_and_case.mono (by decide)) (H__list_drops.mono (by decide)) (H__turn_goal.mono (by decide)), b27, g27', k27⟩
  have H__law_no_turn : Has l.prog w K mg base 11 "_law_no_turn" ["sheet", "plan", "row"] (spNoTurn K) := ⟨_, _, ok_noTurn (k := 10) F28 T EC gC gR gN gQ y13 exm kt1 kt2 kt3 kt4 (H_T.mono (by decide)), b28, g28', k28⟩
  have H__law_bag : Has l.prog w K mg base 1 "_law_bag" ["cell"] (spBag) := ⟨_, _, ok_bag (k := 0) F29 T, b29, g29', k29⟩
  have H__law_draw : Has l.prog w K mg base 1 "_law_draw" ["bag", "many"] (spDraw) := ⟨_, _, ok_draw (k := 0) F30 T, b30, g30', k30⟩
  have H__law_sheet : Has l.prog w K mg base 2 "_law_sheet" ["bag"] (spSheet) := ⟨_, _, ok_sheet (k := 1) F31 T (H__law_draw.mono (by decide)), b31, g31', k31⟩
  have H__law_row : Has l.prog w K mg base 2 "_law_row" ["bag", "sheet"] (spRow) := ⟨_, _, ok_row (k := 1) F32 (H__law_draw.mono (by decide)), b32, g32', k32⟩
  have H__law_weights : Has l.prog w K mg base 2 "_law_weights" ["bag", "sheet"] (spLWeights K) := ⟨_, _, ok_lweights (k := 1) F33 T (H__law_draw.mono (by decide)), b33, g33', k33⟩
  have H__law_sum : Has l.prog w K mg base 1 "_law_sum" ["weights", "row"] (spSumOf K) := ⟨_, _, ok_lsum (k := 0) F34 T, b34, g34', k34⟩
  have H__law_bound : Has l.prog w K mg base 2 "_law_bound" ["bag", "total"] (spLBound) := ⟨_, _, ok_lbound (k := 1) F35 (H__law_draw.mono (by decide)), b35, g35', k35⟩
  have H__law_whole : Has l.prog w K mg base 1 "_law_whole" ["found"] (spIsInteger K) := ⟨_, _, ok_whole (k := 0) F36 T, b36, g36', k36⟩
  have H__law_flat : Has l.prog w K mg base 2 "_law_flat" ["found"] (spFlat K) := ⟨_, _, ok_flat (k := 1) F37 T (H__law_whole.mono (by decide)), b37, g37', k37⟩
  have H__law_slack : Has l.prog w K mg base 2 "_law_slack" ["weights", "bound", "row"] (spLSlack K) := ⟨_, _, ok_lslack (k := 1) F38 (H__law_sum.mono (by decide)), b38, g38', k38⟩
  have H__law_drops : Has l.prog w K mg base 2 "_law_drops" ["weights", "bound", "row"] (spLDrops K) := ⟨_, _, ok_ldrops (k := 1) F39 T (H__law_sum.mono (by decide)), b39, g39', k39⟩
  have H__law_worst : Has l.prog w K mg base 2 "_law_worst" ["weights", "bound", "row", "fields"] (spWorst K) := ⟨_, _, ok_worst (k := 1) F40 T (H__law_sum.mono (by decide)), b40, g40', k40⟩
  have H__law_greatest : Has l.prog w K mg base 1 "_law_greatest" ["changes", "many"] (spLGreatest K) := ⟨_, _, ok_lgreatest (k := 0) F41 T, b41, g41', k41⟩
  have H__law_is_first : Has l.prog w K mg base 2 "_law_is_first" ["found", "changes", "need"] (spIsFirst K) := ⟨_, _, ok_isFirst (k := 1) F42 T (H__law_greatest.mono (by decide)), b42, g42', k42⟩
  exact Lk.FnG.ofOk (ok_law (k := 11) F43 T (H__law_bag.mono (by decide)) (H__law_sheet.mono (by decide)) (H__law_weights.mono (by decide)) (H__law_row.mono (by decide)) (H__law_sum.mono (by decide)) (H__law_bound.mono (by decide)) (H__law_drops.mono (by decide)) (H__law_slack.mono (by decide)) (H__law_flat.mono (by decide)) (H__law_is_first.mono (by decide)) (H__law_worst.mono (by decide)) (H_shortest_card_turn.mono (by decide)) (H__law_no_turn.mono (by decide)))
end Fa
open PySem PySem.W PyProof.Rows in
set_option maxRecDepth 100000 in
set_option maxHeartbeats 0 in
theorem PySem.Challenge.cw_leastreasons_k43_shortest_turns_in_cards_holds : PySem.Challenge.rw_leastreasons_k43_shortest_turns_in_cards.Holds := by
  w_on; o_law; k_head; (case hw => w_witness2)
  k_fill
  refine Lk.walk_ofG (l := PySem.Challenge.rw_leastreasons_k43_shortest_turns_in_cards) (n := 63) (k := 12) (x := "script") (sp := fun w => Fa.spLaw _) rfl (by decide) rfl ⟨rfl, by decide, by decide⟩ (fun w h Y => PySem.W.kIn_of Y) ?F (fun _ _ a ns hl _ hS => ⟨a, ns, rfl, hS, hl, fun _ => rfl⟩)
  case F =>
    intro w mg fa h KX G hmg
    refine' Fa.all_mk KX G hmg ?a0 ?l0 ?c0 ?k0 ?a1 ?l1 ?c1 ?k1 ?a2 ?l2 ?c2 ?k2 ?a3 ?l3 ?c3 ?k3 ?a4 ?l4 ?c4 ?k4 ?a5 ?l5 ?c5 ?k5 ?a6 ?l6 ?c6 ?k6 ?a7 ?l7 ?c7 ?k7 ?a8 ?l8 ?c8 ?k8 ?a9 ?l9 ?c9 ?k9 ?a10 ?l10 ?c10 ?k10 ?a11 ?l11 ?c11 ?k11 ?a12 ?l12 ?c12 ?k12 ?a13 ?l13 ?c13 ?k13 ?a14 ?l14 ?c14 ?k14 ?a15 ?l15 ?c15 ?k15 ?a16 ?l16 ?c16 ?k16 ?a17 ?l17 ?c17 ?k17 ?a18 ?l18 ?c18 ?k18 ?a19 ?l19 ?c19 ?k19 ?a20 ?l20 ?c20 ?k20 ?a21 ?l21 ?c21 ?k21 ?a22 ?l22 ?c22 ?k22 ?a23 ?l23 ?c23 ?k23 ?a24 ?l24 ?c24 ?k24 ?a25 ?l25 ?c25 ?k25 ?a26 ?l26 ?c26 ?k26 ?a27 ?l27 ?c27 ?k27 ?a28 ?l28 ?c28 ?k28 ?a29 ?l29 ?c29 ?k29 ?a30 ?l30 ?c30 ?k30 ?a31 ?l31 ?c31 ?k31 ?a32 ?l32 ?c32 ?k32 ?a33 ?l33 ?c33 ?k33 ?a34 ?l34 ?c34 ?k34 ?a35 ?l35 ?c35 ?k35 ?a36 ?l36 ?c36 ?k36 ?a37 ?l37 ?c37 ?k37 ?a38 ?l38 ?c38 ?k38 ?a39 ?l39 ?c39 ?k39 ?a40 ?l40 ?c40 ?k40 ?a41 ?l41 ?c41 ?k41 ?a42 ?l42 ?c42 ?k42 ?a43 ?l43 ?c43 ?k43 ?n0 ?n1 ?n2 ?z0 ?z1 ?z2 ?z3 ?z4 ?z5 ?z6 ?z7 ?z8 ?z9 ?z10 ?z11 ?z12 ?z13 ?aj ?lj ?aC ?aR ?aN ?aQ ?er1 ?er2 ?er3 ?ec1 ?ec2 ?ec3 ?ec4 ?ec5 ?ec6 ?ec7 ?ec8 ?exm ?kt1 ?kt2 ?kt3 ?kt4
    (case a0 => k_is)
    (case l0 => k_is)
    (case c0 => k_is)
    (case k0 => k_is)
    (case a1 => k_is)
    (case l1 => k_is)
    (case c1 => k_is)
    (case k1 => k_is)
    (case a2 => k_is)
    (case l2 => k_is)
    (case c2 => k_is)
    (case k2 => k_is)
    (case a3 => k_is)
    (case l3 => k_is)
    (case c3 => k_is)
    (case k3 => k_is)
    (case a4 => k_is)
    (case l4 => k_is)
    (case c4 => k_is)
    (case k4 => k_is)
    (case a5 => k_is)
    (case l5 => k_is)
    (case c5 => k_is)
    (case k5 => k_is)
    (case a6 => k_is)
    (case l6 => k_is)
    (case c6 => k_is)
    (case k6 => k_is)
    (case a7 => k_is)
    (case l7 => k_is)
    (case c7 => k_is)
    (case k7 => k_is)
    (case a8 => k_is)
    (case l8 => k_is)
    (case c8 => k_is)
    (case k8 => k_is)
    (case a9 => k_is)
    (case l9 => k_is)
    (case c9 => k_is)
    (case k9 => k_is)
    (case a10 => k_is)
    (case l10 => k_is)
    (case c10 => k_is)
    (case k10 => k_is)
    (case a11 => k_is)
    (case l11 => k_is)
    (case c11 => k_is)
    (case k11 => k_is)
    (case a12 => k_is)
    (case l12 => k_is)
    (case c12 => k_is)
    (case k12 => k_is)
    (case a13 => k_is)
    (case l13 => k_is)
    (case c13 => k_is)
    (case k13 => k_is)
    (case a14 => k_is)
    (case l14 => k_is)
    (case c14 => k_is)
    (case k14 => k_is)
    (case a15 => k_is)
    (case l15 => k_is)
    (case c15 => k_is)
    (case k15 => k_is)
    (case a16 => k_is)
    (case l16 => k_is)
    (case c16 => k_is)
    (case k16 => k_is)
    (case a17 => k_is)
    (case l17 => k_is)
    (case c17 => k_is)
    (case k17 => k_is)
    (case a18 => k_is)
    (case l18 => k_is)
    (case c18 => k_is)
    (case k18 => k_is)
    (case a19 => k_is)
    (case l19 => k_is)
    (case c19 => k_is)
    (case k19 => k_is)
    (case a20 => k_is)
    (case l20 => k_is)
    (case c20 => k_is)
    (case k20 => k_is)
    (case a21 => k_is)
    (case l21 => k_is)
    (case c21 => k_is)
    (case k21 => k_is)
    (case a22 => k_is)
    (case l22 => k_is)
    (case c22 => k_is)
    (case k22 => k_is)
    (case a23 => k_is)
    (case l23 => k_is)
    (case c23 => k_is)
    (case k23 => k_is)
    (case a24 => k_is)
    (case l24 => k_is)
    (case c24 => k_is)
    (case k24 => k_is)
    (case a25 => k_is)
    (case l25 => k_is)
    (case c25 => k_is)
    (case k25 => k_is)
    (case a26 => k_is)
    (case l26 => k_is)
    (case c26 => k_is)
    (case k26 => k_is)
    (case a27 => k_is)
    (case l27 => k_is)
    (case c27 => k_is)
    (case k27 => k_is)
    (case a28 => k_is)
    (case l28 => k_is)
    (case c28 => k_is)
    (case k28 => k_is)
    (case a29 => k_is)
    (case l29 => k_is)
    (case c29 => k_is)
    (case k29 => k_is)
    (case a30 => k_is)
    (case l30 => k_is)
    (case c30 => k_is)
    (case k30 => k_is)
    (case a31 => k_is)
    (case l31 => k_is)
    (case c31 => k_is)
    (case k31 => k_is)
    (case a32 => k_is)
    (case l32 => k_is)
    (case c32 => k_is)
    (case k32 => k_is)
    (case a33 => k_is)
    (case l33 => k_is)
    (case c33 => k_is)
    (case k33 => k_is)
    (case a34 => k_is)
    (case l34 => k_is)
    (case c34 => k_is)
    (case k34 => k_is)
    (case a35 => k_is)
    (case l35 => k_is)
    (case c35 => k_is)
    (case k35 => k_is)
    (case a36 => k_is)
    (case l36 => k_is)
    (case c36 => k_is)
    (case k36 => k_is)
    (case a37 => k_is)
    (case l37 => k_is)
    (case c37 => k_is)
    (case k37 => k_is)
    (case a38 => k_is)
    (case l38 => k_is)
    (case c38 => k_is)
    (case k38 => k_is)
    (case a39 => k_is)
    (case l39 => k_is)
    (case c39 => k_is)
    (case k39 => k_is)
    (case a40 => k_is)
    (case l40 => k_is)
    (case c40 => k_is)
    (case k40 => k_is)
    (case a41 => k_is)
    (case l41 => k_is)
    (case c41 => k_is)
    (case k41 => k_is)
    (case a42 => k_is)
    (case l42 => k_is)
    (case c42 => k_is)
    (case k42 => k_is)
    (case a43 => k_is)
    (case l43 => k_is)
    (case c43 => k_is)
    (case k43 => k_is)
    (case n0 => k_is)
    (case n1 => k_is)
    (case n2 => k_is)
    (case z0 => k_is)
    (case z1 => k_is)
    (case z2 => k_is)
    (case z3 => k_is)
    (case z4 => k_is)
    (case z5 => k_is)
    (case z6 => k_is)
    (case z7 => k_is)
    (case z8 => k_is)
    (case z9 => k_is)
    (case z10 => k_is)
    (case z11 => k_is)
    (case z12 => k_is)
    (case z13 => k_is)
    (case aj => k_is)
    (case lj => k_is)
    (case aC => k_is)
    (case aR => k_is)
    (case aN => k_is)
    (case aQ => k_is)
    (case er1 => k_exc)
    (case er2 => k_is)
    (case er3 => k_is)
    (case ec1 => k_is)
    (case ec2 => k_is)
    (case ec3 => k_is)
    (case ec4 => k_is)
    (case ec5 => k_is)
    (case ec6 => k_is)
    (case ec7 => k_is)
    (case ec8 => k_is)
    (case exm => kts_exm)
    (case kt1 => kit_is)
    (case kt2 => kit_is)
    (case kt3 => kit_is)
    (case kt4 => kit_is)
