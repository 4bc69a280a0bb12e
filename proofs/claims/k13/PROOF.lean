import PyProof.Rows.All
import Wide.All
import OpenK.AllK
import Wide.FinOn
import HandS.Base
import HandS.Call
import HandS.List
import HandS.Comp
import HandS.Ends
import HandS.Dict
import HandS.Words
import HandS.WordsList
import HandS.Wide
import HandS.Codes
import HandS.Exc
import HandS.TryOnly
import HandS.ExcOwn
import HandS.ExcInit
import HandS.ExcField
import HandS.ExcIs
import HandS.IsInst
import PyProof.ReprRoads
import KE.KOpsOwn
import PyProof.InstNe
import HandS.EndTab
import PyProof.EqKinds
import PyProof.Fits
import PyProof.NoPylong
import PySem.Challenge.RW_solidnames_k13_planes_as_objects
import HandS.WordsExc
import HandS.Property
import HandS.Defaults
import HandS.Style
import HandS.Head0
import HandS.Head1
import HandS.Head2
import HandS.HeadHook4
import HandS.HeadEnd
section
set_option Elab.async false
set_option linter.all false
set_option maxRecDepth 100000
/-! Promises of defs that hold where no repr is under way around them. -/
namespace Gd
open PySem PySem.Spec PyProof.Rows L2
/-- no repr (or its like) runs around -/
def NoG (A : Around) : Prop := A.guards = some []
theorem NoG.deeper {A : Around} (h : NoG A) (env : Env) : NoG (A.deeper env) := by
  unfold NoG at h ⊢
  simpa [Around.deeper] using h
/-- FnOk under NoG -/
structure FnG (P : Program) (w : World) (K : PySem.W.Frag) (mg : Str → Option Value) (base : Heap)
    (CX : CXT) (k : Nat) (f : Addr) (fd : FuncData) (ps : List Str) (sp : Sp) : Prop where
  many : ∀ vs H Q E, sp vs H Q E → vs.length = ps.length
  go : ∀ (A : Around) (out : List Env) (s : Shared) (H : Hp) (args : Args) (us : List Value) (vs : List V) (Q : VK) (E : XK),
    NoG A → Room k A → Env0 P w K mg base A out s H → BindsTo s fd args (ps.zip us) → Vals vs us → sp vs H Q E →
      codeAny (model P w) A (.call (.ref f) args) (CR CX out P w H s Q E) s
section
variable {P : Program} {w : World} {K : PySem.W.Frag} {mg : Str → Option Value} {base : Heap} {CX : CXT} {k : Nat} {f : Addr} {fd : FuncData} {ps : List Str} {sp : Sp}
theorem ofOk (F : FnOk P w K mg base CX k f fd ps sp) : FnG P w K mg base CX k f fd ps sp :=
  ⟨F.len, fun A out s H args us vs Q E _ => F.run A out s H args us vs Q E⟩
theorem FnG.mono {j : Nat} (F : FnG P w K mg base CX j f fd ps sp) (h : j ≤ k) : FnG P w K mg base CX k f fd ps sp :=
  ⟨F.many, fun A out s H args us vs Q E g r => F.go A out s H args us vs Q E g (r.mono h)⟩
end
/-- the rule for a def, its body walked where no repr is under way -/
theorem fn_g {CX : CXT} {P : Program} {w : World} {K : PySem.W.Frag} {mg : Str → Option Value} {base : Heap} {k : Nat} {f : Addr} {name qual : Str} {pars : Arguments} {bod : List Stmt} {sc : Scope}
    {dV kV doc pm cdv ct oc : Value} {an od : Option Addr} {osl : Array (Option Value)} {N ps : List Str} {sp : Sp}
    (lk : K.lookup f = some ⟨oc, od, .func (PySem.W.fnOf name qual pars bod sc dV kV doc pm an cdv ct), osl⟩) (hcd : PySem.W.codeIn K cdv qual = true)
    (S : FnScope N ps sc) (many : ∀ vs H Q E, sp vs H Q E → vs.length = ps.length)
    (hb : ∀ (A : Around) (out : List Env) (s : Shared) (H : Hp) (vs : List V) (Q : VK) (E : XK),
      NoG (A.deeper (envOfC qual sc s.heap.objs.size f cdv)) → Room k (A.deeper (envOfC qual sc s.heap.objs.size f cdv)) → sp vs H Q E →
        ∃ t, PSs (cxOf CX P w K mg base N qual sc f cdv A out s H E) bod t ∧ t { nx := fun _ H' => Q .non H', rt := Q } (start N vs) H) :
    FnG P w K mg base CX (k + 1) f (PySem.W.fnOf name qual pars bod sc dV kV doc pm an cdv ct) ps sp := by
  refine ⟨many, ?_⟩
  intro A out s H args us vs Q E ng hr e0 bd rv hs
  have hlen := many vs H Q E hs
  have KX : K.In s.heap := e0.mod.kin.keeps fun b o z => (e0.bs b o z).1
  have lim : s.heap.NoLimit := e0.mod.nolimit.keeps fun b o z => (e0.bs b o z).1
  have kinds : ∀ y ∈ ps.zip us, sc.names.lookup y.1 = some .local ∨ (sc.names.lookup y.1 = some .cell ∧ ((cellsFrom (s.heap.objs.size + 1) sc.names []).lookup y.1).isSome = true) := by
    intro y hy
    obtain ⟨n, v⟩ := y
    cases S.par n (List.of_mem_zip hy).1 with
    | inl z => exact Or.inl z
    | inr z => exact Or.inr ⟨z, PySem.W.cellsFrom_some _ _ _ (Or.inl z)⟩
  refine codeAny_call_function hr.depth (KX _ _ lk) rfl S.co S.gen rfl (PySem.W.codeRec_of KX hcd) (bd _ _ _ _ ?_)
  refine wpAny_newFunctionEnv_cells S.kind kinds ?_
  intro env he s1 x
  subst he
  refine ⟨lim.keeps x.toInCall.keep, codeAny_func ?_⟩
  obtain ⟨t, ht, hq⟩ := hb A out s H vs Q E (ng.deeper _) (hr.deeper _) hs
  have I0 := inv_start (CX := CX) (w := w) (E := E) (cd := cdv) (f := f) (qual := qual) S hr.hd e0 hlen rv x
  have done : ∀ {σ' : L2.St} {H' : Hp} {s' : Shared} {v : V} {u : Value}, Inv (cxOf CX P w K mg base N qual sc f cdv A out s H E) [] σ' H' s' → RelV v u → Q v H' → CE out P w H s Q u s' := by
    intro σ' H' s' v u J r q
    exact ⟨v, H', J.os, J.bare, J.base, J.hok, r, q⟩
  refine wpAny_mono (ht.run [] s1 (start N vs) H _ I0 hq) ?_ (fun _ _ z => z)
  intro fl s' z
  cases fl with
  | next =>
    obtain ⟨σ', H', J, q⟩ := z
    exact done (v := V.non) (u := Value.none) J rfl q
  | ret u =>
    obtain ⟨v, σ', H', J, r, q⟩ := z
    exact done J r q
  | brk =>
    obtain ⟨_, _, _, q⟩ := z
    exact q.elim
  | cont =>
    obtain ⟨_, _, _, q⟩ := z
    exact q.elim
section
variable {P : Program} {w : World} {K : PySem.W.Frag} {mg : Str → Option Value} {base : Heap}
/-- a def of the text that lets nothing out -/
theorem okG {x qual : Str} {st : Stmt} {f : Addr} {fd : FuncData} {N ps : List Str} {k : Nat} {sp : Sp} (F : Fun K x qual st f fd) (S : FnScope N ps (defScope st))
    (many : ∀ vs H Q E, sp vs H Q E → vs.length = ps.length)
    (hb : ∀ (cdv : Value) (A : Around) (out : List Env) (s : Shared) (H : Hp) (vs : List V) (Q : VK) (E : XK),
      NoG (A.deeper (envOfC qual (defScope st) s.heap.objs.size f cdv)) → Room k (A.deeper (envOfC qual (defScope st) s.heap.objs.size f cdv)) → sp vs H Q E →
      ∃ t, PSs (cxOf CX0 P w K mg base N qual (defScope st) f cdv A out s H E).nox (defBody st) t ∧ t { nx := fun _ H' => Q .non H', rt := Q } (start N vs) H) :
    FnG P w K mg base CX0 (k + 1) f fd ps sp := by
  obtain ⟨oc, od, kV, doc, pm, an, cdv, ct, osl, rfl, lk, hcd⟩ := F.ex
  refine fn_g lk hcd S many ?_
  intro A out s H vs Q E ng hr hs
  obtain ⟨t, h, q⟩ := hb cdv A out s H vs Q E ng hr hs
  exact ⟨t, h.nox, q⟩
end
section
variable {X : Cx} {CX : CXT} {k : Nat} {f : Addr} {fd : FuncData} {ps : List Str} {sp : Sp} {dvs : List V} {ds : List Value} {E : XK} {x : Str} {p pos : Pos} {e : Expr} {es : List Expr} {t : TA}
theorem run_g {pins : List (Addr × Obj)} {σ : L2.St} {H : Hp} {s : Shared} {Q : VK} {us : List Value} {vs : List V} (F : FnG X.prog X.w X.K X.mg X.base CX k f fd ps sp)
    (ng : NoG X.A) (hr : Room k X.A) (hb : Binds X.K fd ps ds) (hd : Vals dvs ds) (hx : Passes CX X E) (I : Inv X pins σ H s) (r : Vals vs us) (h : sp (vs ++ dvs) H Q E) :
    wpAny (model X.prog X.w) X.A (call (.ref f) us) (EP X pins σ Q) X.xe s := by
  have rr := r.append hd
  have hl : (us ++ ds).length = ps.length := rr.length.symm.trans (F.many _ _ _ _ h)
  have body := F.go X.A X.stack s H ⟨us, []⟩ (us ++ ds) (vs ++ dvs) Q E ng hr I.env0 (hb s us I.kIn hl) rr h
  refine wpAny_call (codeAny_mono body ?_)
  intro res s' z
  match res, z with
  | .error er, z => exact hx pins σ H s er s' I z
  | .ok (.ret u), z => exact I.after z
theorem pe_callG (F : FnG X.prog X.w X.K X.mg X.base CX k f fd ps sp) (ng : NoG X.A) (hr : Room k X.A) (hg : Gl X x) (hm : X.mg x = some (.ref f)) (hk : PySem.W.keepIn X.K (.ref f) = true)
    (hb : Binds X.K fd ps ds) (hd : Vals dvs ds) (hx : Passes CX X E) (ha : PA X (e :: es) t) (hdb : (x == ("__debug__" : Str)) = false := by decide)
    (he : starEach (e :: es) X.env = (false, eval e X.env) :: starEach es X.env := by rfl) (hpl : (backTo pos (starEach es X.env)).any (·.1) = false := by rfl) :
    PE X (.Call (.Name x p) (e :: es) [] pos) (tCall sp dvs E t) := by
  constructor
  intro pins s σ H Q I h
  refine wpAny_Call_Name_kw (ld_glob I hg hm ?_ hdb)
  have args := ha.run pos pins s σ H _ I h
  refine PySem.W.callWith_K (h₀ := X.base) I.ok.mod.kin hk (thn args ?_) he hpl
  intro us s1 z
  obtain ⟨vs, H1, I1, r, q⟩ := z
  exact ⟨I1.kIn, run_g F ng hr hb hd hx I1 r q⟩
end
/-- the law's own call: what stands behind the top, the script the only thing that is tracked -/
theorem law_g {P : Program} {w : World} {K : PySem.W.Frag} {mg mb : Str → Option Value} {CX : CXT} {k : Nat} {fa a : Addr} {fd : FuncData} {x : Str} {sp : Sp} {s0 : Shared} {vs : List Value} {ns : List Int}
    (KX : K.In s0.heap) (hns : s0.heap.Ns mainGlobals mg) (hb : s0.heap.Ns builtinsNs mb) (hbb : ∀ x : Str, x ≠ "__name__" → mb x = bootBuiltins x) (hlim : s0.heap.NoLimit) (hg : s0.gens = #[])
    (ha : s0.heap.get? a = some { cls := .type "list", data := .seq vs.toArray }) (hi : IntsAre vs ns) (hl : ns.length ≤ sizeLine) (hr : Room k callerA)
    (F : ∀ base : Heap, K.In base → base.Ns mainGlobals mg → FnG P w K mg base CX k fa fd [x] sp)
    (hbind : ∀ (s : Shared) (u : Value), BindsTo s fd ⟨[u], []⟩ [(x, u)])
    (hsp : ∀ H : Hp, Only H → SqL K H a (ns.map V.int) → sp [.ref a] H (fun v _ => v = .bl true) fun _ _ _ => False)
    (hCX : ∀ H e s', CX [] H s0 (fun _ _ _ => False) e s' → False) :
    codeAny (model P w) callerA (.call (.ref fa) ⟨[.ref a], []⟩) (fun r s' => r = .ok (.ret (.bool true)) ∧ OldK s0.heap s'.heap ∧ s'.os = s0.os ∧ AllBare s'.gens) s0 := by
  have rv := vals_ints hi
  have vlen := hi.length
  have main : ∀ H : Hp, Only H → SqL K H a (ns.map V.int) → HOk P w H s0.heap → (∀ b u, H b = some u → b = a) → (∀ u, H a = some u → K.lookup a = none) →
      codeAny (model P w) callerA (.call (.ref fa) ⟨[.ref a], []⟩) (fun r s' => r = .ok (.ret (.bool true)) ∧ OldK s0.heap s'.heap ∧ s'.os = s0.os ∧ AllBare s'.gens) s0 := by
    intro H hO hS hok hA hK
    have notDict : ∀ {b : Addr} {o : Obj} {es : Array DictEntry} {ep : Nat}, s0.heap.get? b = some o → o.data = .dict es ep → H b = none := by
      intro b o es ep e d
      match q : H b with
      | none => rfl
      | some u =>
        have eb := hA b u q
        subst eb
        rw [ha] at e
        have eo := Option.some.inj e
        subst eo
        exact absurd (show Data.seq vs.toArray _ = Data.dict es ep from d) (by intro z; cases z)
    have toB : ∀ {b : Addr} {m : Str → Option Value}, s0.heap.Ns b m → (hidT s0.heap H).Ns b m := by
      intro b m z
      obtain ⟨o, es, ep, e, d, r⟩ := z
      exact ⟨o, es, ep, hidT_get e (notDict e d), d, r⟩
    have KB : K.In (hidT s0.heap H) := by
      intro b o e
      refine hidT_get (KX b o e) ?_
      match q : H b with
      | none => rfl
      | some u =>
        have eb := hA b u q
        subst eb
        rw [hK u q] at e
        cases e
    obtain ⟨mc, l1, l2⟩ := hlim
    have M : Mod K mg (hidT s0.heap H) := ⟨KB, toB hns, ⟨mb, toB hb, hbb⟩, ⟨mc, toB l1, l2⟩⟩
    have E0' : Env0 P w K mg (hidT s0.heap H) callerA [] s0 H := by
      refine ⟨rfl, M, fun b o e => of_hidT e, Nat.le_of_eq (hidT_size _ _), trivial, fun b z => ?_, hok, .of_eq hg⟩
      exact absurd (show b ∈ ([] : List Addr) from z) (by simp)
    have run := (F _ KB (toB hns)).go callerA [] s0 H ⟨[.ref a], []⟩ [.ref a] [.ref a] _ _ rfl hr E0' (hbind s0 (.ref a)) (.cons rfl .nil) (hsp H hO hS)
    refine codeAny_mono run ?_
    intro r s' h
    match r, h with
    | .error e, h => exact (hCX H e s' h).elim
    | .ok (.ret u), h =>
      obtain ⟨v, H', os, bare, un, hok', r', q⟩ := h
      have ev : v = .bl true := q
      subst ev
      have eu : u = Value.bool true := r'
      subst eu
      refine ⟨rfl, OldK.of_keep ?_, os, bare⟩
      intro b o e
      match q : H b with
      | none => exact un.keep b o e q (by intro z; exact absurd (show b ∈ ([] : List Addr) from z) (by simp)) (by simp)
      | some u =>
        rcases hO b with z | ⟨ob, xs, z⟩
        · rw [q] at z
          cases z
        · have e1 := (hok b _ z).1
          have e2 := (hok' b _ (un.frzs b ob _ z)).1
          rw [e] at e1
          have eo := Option.some.inj e1
          subst eo
          exact e2
  match hk : K.lookup a with
  | some o =>
    have e := KX a o hk
    rw [ha] at e
    have eo := Option.some.inj e
    subst eo
    refine main (fun _ => none) (fun _ => .inl rfl) ?_ (fun b u z => absurd (show (none : Option HO) = some u from z) (by simp)) (fun b u z => absurd (show (none : Option HO) = some u from z) (by simp)) (fun u z => absurd (show (none : Option HO) = some u from z) (by simp))
    exact .inr ⟨_, vs.toArray, _, hk, rfl, rfl, rfl, by rw [List.size_toArray, vlen]; exact hl, by simpa using rv⟩
  | none =>
    let Hs : Hp := fun b => if b = a then some (.frz { cls := .type "list", data := .seq vs.toArray } (.lst (ns.map V.int))) else none
    have at_a : Hs a = some (.frz { cls := .type "list", data := .seq vs.toArray } (.lst (ns.map V.int))) := if_pos rfl
    have off : ∀ b, b ≠ a → Hs b = none := fun b n => if_neg n
    have on : ∀ b u, Hs b = some u → b = a := by
      intro b u z
      by_cases e : b = a
      · exact e
      · rw [off b e] at z
        cases z
    refine main Hs (fun b => ?_) (.inl (.inr ⟨_, at_a⟩)) (fun b u z => ?_) on (fun _ _ => hk)
    · by_cases e : b = a
      · subst e
        exact .inr ⟨_, _, at_a⟩
      · exact .inl (off b e)
    · have e := on b u z
      subst e
      rw [at_a] at z
      have eu := Option.some.inj z
      subst eu
      exact ⟨ha, by rw [List.length_map]; exact hl, vs, _, rv, ha⟩
theorem walk_g {l : PySem.W.OpenLaw} {n k : Nat} {q : Program} {loose : List Str} {XP : (Str → Option Value) → Heap → Prop} {YP : World → Heap → Prop} {d : DefRec} {K : Params → PySem.W.Frag} {CX : World → CXT} {sp : World → Sp} {x : Str}
    (hn : l.most = some n) (hn2 : n ≤ sizeLine) (hdf : d.params.defaults = []) (hr : Room k callerA) (hY : ∀ (w : World) (h : Heap), YP w h → (K w.params).In h)
    (F : ∀ (w : World) (mg : Str → Option Value) (fa : Addr) (h : Heap), (K w.params).In h → h.Ns mainGlobals mg → mg d.name = some (.ref fa) →
      ∃ fd : FuncData, (∀ (s : Shared) (u : Value), BindsTo s fd ⟨[u], []⟩ [(x, u)]) ∧
        ∀ base : Heap, (K w.params).In base → base.Ns mainGlobals mg → FnG l.prog w (K w.params) mg base (CX w) k fa fd [x] (sp w))
    (hsp : ∀ (w : World) (H : Hp) (a : Addr) (ns : List Int), ns.length ≤ n → Only H → SqL (K w.params) H a (ns.map V.int) → sp w [.ref a] H (fun v _ => v = .bl true) fun _ _ _ => False)
    (hCX : ∀ (w : World) (H : Hp) (s : Shared) (e : Value) (s' : Shared), CX w [] H s (fun _ _ _ => False) e s' → False) :
    PySem.W.WalkO q loose XP YP l.row.toRowW d [] (fun f vs => PySem.call f vs) := by
  refine Att.attach_call hn hdf ?_
  intro w sA sB mg mb fa o pm cd doc a vs ns G Y ho hd hcd hmg hobj hints hlen hg
  obtain ⟨fd, hb, hF⟩ := F w mg fa _ (hY w _ Y) G.T.g hmg
  exact law_g (hY w _ Y) G.T.g G.T.b G.T.builtins G.T.nolimit hg hobj hints (Nat.le_trans hlen hn2) hr hF hb (fun H hO hS => hsp w H a ns hlen hO hS) (fun H e s' => hCX w H sB e s')
end Gd
end

section
set_option Elab.async false
set_option linter.all false
set_option maxRecDepth 100000
set_option maxHeartbeats 1000000
/-! try with several clauses, each with a name. -/
namespace Gd
open PySem PySem.Spec PyProof.Rows L2
abbrev Suite := Addr → Value → Option Addr → TS
/-- behind a suite its name is gone -/
def Dun (D : Ends) (i : Nat) : Ends := ⟨fun τ G => D.nx (τ.set i none) G, D.rt, fun τ G => D.bk (τ.set i none) G, fun τ G => D.ct (τ.set i none) G⟩
def wEach (K : PySem.W.Frag) (Wout : WX) (D : Ends) : List (Value × Nat × Suite) → WX
  | [] => Wout
  | (c, i, ts) :: more => fun kls d τ G => ∃ b, PySem.W.exmOne K kls c = some b ∧
      (b = true → ∀ a, G a = none → ts a kls d (Dun D i) (τ.set i (some (.ref a))) G) ∧ (b = false → wEach K Wout D more kls d τ G)
inductive Clauses (X : Cx) : List ExceptHandler → List (Value × Nat × Suite) → Prop
  | nil : Clauses X [] []
  | cons {x n : Str} {c : Value} {i : Nat} {ts : Suite} {st : Stmt} {sts : List Stmt} {np hp : Pos} {hs : List ExceptHandler} {l : List (Value × Nat × Suite)}
      (nm : Names X x c) (hi : X.N[i]? = some n) (hk : X.env.kindOf n = some .local)
      (su : ∀ (a : Addr) (oe : Obj) (kls : Value) (d : Option Addr) (pn : List (Addr × Obj)), Zc kls d oe → (∃ fv, oe.data = .fields fv) → PSs (X.suite a ((a, oe) :: pn)) (st :: sts) (ts a kls d))
      (more : Clauses X hs l) : Clauses X (.ExceptHandler (some (.Name x np)) (some n) (st :: sts) hp :: hs) ((c, i, ts) :: l)
section
variable {X : Cx} {body : List Stmt} {hd : ExceptHandler} {hs : List ExceptHandler} {l : List (Value × Nat × Suite)} {pos : Pos} {tb : WX → TS} {Wout : WX}
theorem ps_try_each (stk : X.stack = X.env :: X.outer) (frm : X.env.frame = some X.env.locals) (ndN : X.N.Nodup) (tk : Takes X Wout)
    (hb : ∀ (W : WX) (pn : List (Addr × Obj)) (xe : Value → Shared → Prop), Takes (X.tr pn xe) W → PassesOwn (model X.prog X.w) X.A X.env xe → PSs (X.tr pn xe) body (tb W))
    (cl : Clauses X (hd :: hs) l) : PS X (.Try body (hd :: hs) [] [] pos) (fun D τ G => tb (wEach X.K Wout D l) D τ G) := by
  constructor
  intro pins s τ G D I h
  have ok := I.ok
  have afr : X.A.frames = some (X.env :: X.outer) := ok.frames.trans (congrArg some stk)
  let xe' : Value → Shared → Prop := fun e sA => wpAny (model X.prog X.w) X.A (noteFrame e X.env) (fun _ sB => wpAny (model X.prog X.w) X.A (setFlight e none)
    (fun _ sC => wpAny (model X.prog X.w) X.A (handleBy e X.env (hd :: hs)) (SP X pins D) X.xe sC) X.xe sB) X.xe sA
  have caught : Takes (X.tr (X.pn ++ pins) xe') (wEach X.K Wout D l) := by
    intro u sE xx
    obtain ⟨a, B, sI, pn2, τ2, G2, kls, d, eu, J0, nb, up, sky, na, os, ag, wish⟩ := xx
    subst eu
    have J : Inv X pins τ2 G2 sI := J0.ofTry ok
    have sk : Sky B (X.env :: X.outer) a (Zc kls d) X.env.locals sE.heap := stk ▸ sky
    show wpAny (model X.prog X.w) X.A (noteFrame (.ref a) X.env) _ _ _
    refine Sky.land Zc.steady afr frm sk ?_
    intro h3 fl up3
    have J3 : Inv X pins τ2 G2 { sE with heap := h3 } := J.landed nb fl.1 (up.trans up3) os ag
    obtain ⟨ob, fv, at3, z3, dd3⟩ := fl.there
    have notIn : a ∉ frs (X.env :: X.outer) := by
      intro hm
      obtain ⟨_, o', e', nf⟩ := fl.2.2.1.mem hm
      rw [at3] at e'
      have eo := Option.some.inj e'
      subst eo
      exact nf _ dd3
    have nL : a ≠ X.env.locals := by
      intro z
      exact notIn (List.mem_filterMap.mpr ⟨X.env, List.mem_cons_self, frm.trans (congrArg some z.symm)⟩)
    have nF : a ∉ X.fs := by
      intro hm
      obtain ⟨e, he, q⟩ := List.mem_filterMap.mp hm
      exact notIn (List.mem_filterMap.mpr ⟨e, List.mem_cons_of_mem _ he, q⟩)
    have S3 := J3.suite at3 dd3 na nL nF
    have look : PySem.W.Looks (model X.prog X.w) h3 (typeOf (.ref a)) kls := by
      intro A Q E s k q
      exact wpAny_typeOf_ref (k _ _ at3) (z3.1.symm ▸ q)
    have go : ∀ {hs' : List ExceptHandler} {l' : List (Value × Nat × Suite)}, Clauses X hs' l' → wEach X.K Wout D l' kls d τ2 G2 →
        wpAny (model X.prog X.w) X.A (handleBy (.ref a) X.env hs') (SP X pins D) X.xe { sE with heap := h3 } := by
      intro hs' l' c
      induction c with
      | nil =>
        intro wsh
        refine wpAny_handleBy_nil ?_
        obtain ⟨_, _, _, oe, vs, t1, _, _, e1, _, e2, e3, _⟩ := id fl
        unfold PySem.passOn
        refine wpAny_bind (wpAny_field e1 e2 e3 ?_)
        have nn : ¬ ((Value.ref t1 == Value.none) = true) := by simp
        rw [if_neg nn]
        have last : wpAny (model X.prog X.w) X.A (setFlight (.ref a) X.env.frame) (fun _ sD => wpAny (model X.prog X.w) X.A (throw (.ref a) : Sem Flow) (SP X pins D) X.xe sD) X.xe { sE with heap := h3 } := by
          rw [frm]
          refine HandSPX.setFlight_upZ fl ?_
          intro h4 hh4 up4
          refine wpAny_throw (tk _ _ ?_)
          exact ⟨a, B, sI, pins, τ2, G2, kls, d, rfl, J, nb, (up.trans up3).trans up4, .inr (.inr (stk.symm ▸ hh4)), na, os, ag, wsh⟩
        first
          | exact wpAny_bind (wpAny_pure (wpAny_bind last))
          | exact wpAny_bind last
      | @cons x n c i ts st sts np hp hs2 l2 nm hi hk su more ih =>
        intro wsh
        obtain ⟨b, hit, yes, no⟩ := wsh
        refine wpAny_handleBy_cons (codeAny_handlers_test ?_) (by intro q; cases q)
        have one := PySem.W.exm_one (M := model X.prog X.w) J3.kIn look hit
        have named : ∀ {Q : Value → Shared → Prop} {E : Value → Shared → Prop}, Q c { sE with heap := h3 } →
            wpAny (model X.prog X.w) (X.A.mark (some (.ref a))) (eval (.Name x np) X.env) Q E { sE with heap := h3 } := by
          intro Q E q
          obtain ⟨gl, nd, mm⟩ := nm
          cases mm with
          | inl mm => exact ld_glob (X := X.suite a ((a, ob) :: (X.pn ++ pins))) S3 gl mm q nd
          | inr mm => exact ld_blt (X := X.suite a ((a, ob) :: (X.pn ++ pins))) S3 gl mm.1 mm.2.1 q mm.2.2 nd
        refine named (one.here ?_)
        cases b with
        | false =>
          show wpAny _ X.A (handleBy (.ref a) X.env hs2) _ _ _
          exact ih (no rfl)
        | true =>
          refine codeAny_handlers_suite_as ?_
          refine HandSPX.lands_againZ fl ?_
          intro h4 fl4 up4
          have J4 : Inv X pins τ2 G2 { sE with heap := h4 } := J.landed nb fl4.1 ((up.trans up3).trans up4) os ag
          obtain ⟨ob4, fv4, at4, z4, dd4⟩ := fl4.there
          have S4 := J4.suite at4 dd4 na nL nF
          refine store_ok (X := X.suite a ((a, ob4) :: (X.pn ++ pins))) (v := .ref a) S4 ndN hi (.inl hk) rfl ?_ (.inr hk)
          intro s5 S5
          have run := (su a ob4 kls d (X.pn ++ pins) z4 ⟨_, dd4⟩).run [] s5 _ G2 _ S5 (yes rfl a na)
          refine wpAny_mono run ?_ (fun _ _ z => False.elim z)
          intro fo s6 hsp
          have fin : ∀ {τ6 : L2.St} {G6 : Hp} {R : Shared → Prop}, Inv (X.suite a ((a, ob4) :: (X.pn ++ pins))) [] τ6 G6 s6 → (∀ s7, Inv X pins (τ6.set i none) G6 s7 → R s7) →
              wpAny (model X.prog X.w) X.A (do bindName X.env n .none; unbindBehindTheSuite X.env n hp) (fun _ s7 => R s7) X.xe s6 := by
            intro τ6 G6 R S6 hq
            exact gone_ok (S6.unsuite ok) ndN hi hk hq
          match fo, hsp with
          | .next, ⟨τ6, G6, S6, q6⟩ => exact fin S6 fun s7 J7 => ⟨_, _, J7, q6⟩
          | .brk, ⟨τ6, G6, S6, q6⟩ => exact fin S6 fun s7 J7 => ⟨_, _, J7, q6⟩
          | .cont, ⟨τ6, G6, S6, q6⟩ => exact fin S6 fun s7 J7 => ⟨_, _, J7, q6⟩
          | .ret u, ⟨v6, τ6, G6, S6, r6, q6⟩ => exact fin S6 fun s7 J7 => ⟨_, _, _, J7, r6, q6⟩
    exact go cl wish
  refine wpAny_Try_except ?_
  have tried := (hb (wEach X.K Wout D l) (X.pn ++ pins) xe' caught PassesOwn.looking).run [] s τ G D (I.toTry _) h
  refine wpAny_mono tried ?_ (fun _ _ z => z)
  intro fo s1 hsp
  match fo, hsp with
  | .next, ⟨τ', G', J', q⟩ => exact wpAny_execs_nil ⟨τ', G', J'.ofTry ok, q⟩
  | .brk, ⟨τ', G', J', q⟩ => exact ⟨τ', G', J'.ofTry ok, q⟩
  | .cont, ⟨τ', G', J', q⟩ => exact ⟨τ', G', J'.ofTry ok, q⟩
  | .ret u, ⟨v, τ', G', J', r, q⟩ => exact ⟨v, τ', G', J'.ofTry ok, r, q⟩
end
end Gd
end

section
set_option Elab.async false
set_option linter.all false
set_option maxRecDepth 100000
set_option maxHeartbeats 4000000
/-! isinstance of a caught error that has its own dict. -/
namespace Gd
open PySem PySem.Spec PySem.W PySem.Calls PyProof.Rows
section
variable {prog : Program} {w : World} {A : Around} {E : Value → Shared → Prop} {s : Shared} {K : Frag} {x D : Addr} {ob : Obj} {od : Option Obj}
theorem find_data {C : Addr} {name : Str} {a g : Value} (hc : (clsIn K C).isSome = true) (ha : findIn K (.ref C) name = some (some a)) (hg : specialIn K a "__get__" = some (some g))
    (ht : takesIn K a = some true) : findObj K C od name = some (.bind g a) := by
  obtain ⟨cd, hcd⟩ := Option.isSome_iff_exists.mp hc
  simp [findObj, hcd, ha, hg, ht]
theorem exc_class {Q : Option Value → Shared → Prop} (c : L2.ExcC K D) (X : K.In s.heap) (J : InstAt s.heap x ob D od) (h : Q (some (.ref D)) { s with toks := s.toks + 1 }) :
    wpAny (model prog w) A (getAttr? (.ref x) "__class__") Q E s := by
  have some1 : (clsIn K D).isSome = true := by
    obtain ⟨cd, hc, _⟩ := any_some c.hd
    rw [hc] <;> rfl
  have fnd : findObj K D od "__class__" = some (.bind (.builtin "getset_descriptor.__get__") (.builtin "object.__class__")) := find_data some1 c.ha c.hn c.ht
  obtain ⟨hp, g, d, t, os⟩ := s
  have T0 := J.type (M := model prog w)
  have T1 := looks_findIn (M := model prog w) X c.hg
  have T2 := looks_findIn (M := model prog w) X c.hk
  have T3 := looks_find (M := model prog w) X J fnd
  have isB : Looks (model prog w) hp (isInstance (.ref x) (.type "BaseException")) true := T0.andThen (looks_subIn X c.hs)
  have n0 : (false && onTheHeap (Value.builtin "BaseException.__getattribute__")) = false := rfl
  have n2 : (Value.builtin "BaseException.__getattribute__" == Value.builtin "object.__getattribute__") = false := by decide +kernel
  have n1 : (onTheHeap (Value.ref D) && Value.builtin "BaseException.__getattribute__" == Value.builtin "object.__getattribute__") = false := by
    rw [n2] <;> rfl
  unfold getAttr? getAttrBy? getAttrBy
  refine wpAny_bind (wpAny_mkText (wpAny_bind (wpAny_attempt (wpAny_holding ?_))))
  refine wpAny_bind (T0.at (wpAny_bind (T1.at ?_)))
  show wpAny _ _ (if (onTheHeap (Value.ref D) && Value.builtin "BaseException.__getattribute__" == Value.builtin "object.__getattribute__") = true then _ else _) _ _ _
  rw [n1, if_neg Bool.false_ne_true]
  unfold getAttrByItsOwn hookBefore
  refine wpAny_bind ?_
  rw [if_pos (show onTheHeap (Value.ref D) = true from rfl)]
  refine T2.at ?_
  refine wpAny_bind (wpAny_attempt (wpAny_holding ?_))
  unfold callGetattribute
  rw [n0, if_neg Bool.false_ne_true]
  unfold boundAndCalled
  rw [PySem.F.excAttr_ValueError.ga.bind (.ref x)]
  refine wpAny_bind (wpAny_pure ?_)
  show wpAny _ _ (call (.builtin "BaseException.__getattribute__") [.ref x, .str "__class__" t]) _ _ _
  refine wpAny_call (codeAny_call_builtin PySem.F.excAttr_ValueError.ga.plain PySem.F.entry_bexc_ga ?_)
  refine @check_slot (model prog w) _ _ ⟨hp, g, d, t + 1, os⟩ "BaseException.__getattribute__" "BaseException" "__getattribute__" (.ref x) [.str "__class__" t] [] _
    (by decide +kernel) (by decide +kernel) isB (PySem.F.args_bexc_ga (.ref x) (.str "__class__" t)) ?_
  unfold Builtin.«object.__getattribute__»
  refine wpAny_bind (wpAny_of_eq (a := ((Value.ref x : Value), [Value.str "__class__" t])) (by first | rfl | (simp only [slotArgs]; rfl)) ?_)
  refine wpAny_bind (wpAny_pure ?_)
  refine wpAny_bind (T0.at (wpAny_bind (T3.at ?_)))
  show wpAny _ _ (holding [Value.builtin "object.__class__"] (call (.builtin "getset_descriptor.__get__") [.builtin "object.__class__", .ref x, .ref D]) >>= ret) _ _ _
  refine wpAny_bind (wpAny_holding (wpAny_call (class_get (s := ⟨hp, g, d, t + 1, os⟩) (ox := ob) (od := od) X J c.hm ?_)))
  refine wpAny_pure ?_
  show wpAny _ _ (handedOut (.ref D)) _ _ _
  rw [handedOut_of (v := .ref D) rfl]
  first
    | exact wpAny_pure (wpAny_pure h)
    | exact wpAny_pure h
    | exact wpAny_pure (wpAny_bind (wpAny_pure (wpAny_pure h)))
theorem kit_exc (c : L2.ExcC K D) : KitX K (.ref x) (.ref D) (fun h => ∃ od, InstAt h x ob D od) where
  ty := fun _ _ _ ⟨_, J⟩ => J.type
  it := fun _ _ X _ => by
    obtain ⟨cd, hc, _⟩ := any_some c.hd
    unfold clsIn at hc
    split at hc
    · rename_i e
      intro A2 Q2 E2 s2 k q
      unfold isType loadHead
      exact wpAny_bind (wpAny_loadPart (k _ _ (X _ _ e)) (wpAny_pure q))
    · cases hc
  ne := fun h tp dd its n sl X htp => by
    obtain ⟨cd, hc, _⟩ := any_some c.hd
    refine Bool.eq_false_iff.mpr ?_
    intro q
    have e : D = tp := Value.ref.inj (beq_iff_eq.mp q)
    subst e
    unfold clsIn at hc
    split at hc
    · rename_i e2
      have z := (X _ _ e2).symm.trans htp
      cases z
    · cases hc
  ca := fun X ⟨_, J⟩ k => exc_class c X J k
end
end Gd
namespace Gd
open PySem PySem.Spec PyProof.Rows L2
/-- isinstance(e, c) in a suite, whether the error has a dict or none -/
theorem call_isX {X : Cx} {a D : Addr} {kls : Value} {d : Option Addr} {oe : Obj} {pn : List (Addr × Obj)} (C : ExcC X.K D) (hz : Zc kls d oe) (hf : ∃ vs, oe.data = .fields vs) :
    CallR (X.suite a ((a, oe) :: pn)) (.builtin "isinstance") (fun xs H Q => kls = .ref D ∧ (∀ dd, d = some dd → ∃ fs, H dd = some (.xd fs)) ∧ rIsE X.K D a xs H Q) := by
  intro pins s σ H xs us Q I r h
  obtain ⟨ek, hdd, c, cv, b, rfl, hcv, e, q⟩ := h
  subst ek
  match r with
  | .cons rx (.cons rt .nil) =>
    cases rx
    have ec := hcv _ rt
    subst ec
    obtain ⟨hget, _⟩ := I.pin (a, oe) (List.mem_append_left _ List.mem_cons_self)
    obtain ⟨vs, hv⟩ := hf
    have J : ∃ od, PySem.W.InstAt s.heap a oe D od := by
      match d, hz, hdd with
      | none, hz, _ =>
        obtain ⟨oc, od, oda, osl⟩ := oe
        obtain ⟨h1, h2⟩ := hz
        dsimp only at h1 h2 hv
        subst h1 h2 hv
        exact ⟨none, hget, rfl, rfl, trivial⟩
      | some dd, hz, hdd =>
        obtain ⟨fs, hx⟩ := hdd dd rfl
        obtain ⟨mA, hns, _⟩ := (show ObjOk X.prog X.w H s.heap dd (.xd fs) from I.hok dd _ hx)
        obtain ⟨od, ho, _⟩ := lookIn_ns hns
        refine ⟨some od, hget, hz.1, ?_, ?_⟩
        · unfold PySem.W.notCls
          rw [hv] <;> rfl
        · rw [hz.2]
          exact ho
    exact PySem.W.kia_one (kit_exc C) I.kIn J e (fun z => nomatch z) fun tk => ⟨.bl b, H, I.kept (t' := tk) fun _ _ z => z, rfl, q⟩
end Gd
end

section
set_option Elab.async false
set_option linter.all false
set_option maxRecDepth 100000
/-! repr of any drawn value, where no repr is under way. -/
namespace Gd
open PySem PySem.Spec PyProof.Rows L2
def kData : Key → PyData
  | .inl i => .int i
  | .inr x => .str x
/-- a value and its data: with no dict in it, or a dict of ints -/
inductive Th (K : PySem.W.Frag) (H : Hp) : V → PyData → Prop where
  | dp {v : V} {d : PyData} (h : Dp K H v d) (nd : d.hasDict = false) : Th K H v d
  | dk {a : Addr} {kvs : List (Key × Int)} (e : H a = some (.dK (kvs.map fun kv => (kv.1, V.int kv.2)))) : Th K H (.ref a) (.dict (kvs.map fun kv => (kData kv.1, .int kv.2)))
theorem pairs_read {h : Heap} {P : Program} {w : World} : ∀ {es : List DictEntry} {vs : List (Key × Value)} {kvs : List (Key × Int)}, Pairs (mixKind P w) es vs → KV (kvs.map fun kv => (kv.1, V.int kv.2)) vs →
    ReadsAll h (es.map (·.key)) (kvs.map fun kv => kData kv.1) [] ∧ ReadsAll h (es.map (·.val)) (kvs.map fun kv => .int kv.2) [] := by
  intro es vs kvs p
  induction p generalizing kvs with
  | nil =>
    intro r
    match kvs, r with
    | [], _ => exact ⟨.nil, .nil⟩
  | @cons e kv es' vs' hk hv rest ih =>
    intro r
    match kvs, r with
    | (k, n) :: kvs', .cons ⟨e1, r1⟩ more =>
      obtain ⟨g1, g2⟩ := ih more
      have e1' : k = kv.1 := e1
      obtain ⟨t, e2⟩ := (show ∃ t, kv.2 = Value.int n t from r1)
      have kr : Reads h e.key (kData k) [] := by
        have hk' : keyIs kv.1 e.key = true := hk
        rw [← e1'] at hk'
        rcases keyIs_shape hk' with ⟨i, t, a, b⟩ | ⟨x, t, a, b⟩
        · rw [a, b]
          exact .int i t
        · rw [a, b]
          exact .str x t
      have vr : Reads h e.val (.int n) [] := by
        rw [hv, e2]
        exact .int n t
      exact ⟨ReadsAll.cons kr g1, ReadsAll.cons vr g2⟩
section
variable {X : Cx} {pins : List (Addr × Obj)} {σ : L2.St} {H : Hp} {s : Shared}
theorem Th.reads (I : Inv X pins σ H s) {v : V} {d : PyData} {u : Value} (t : Th X.K H v d) (r : L2.RelV v u) : ∃ as, Reads s.heap u d as ∧ (d.hasDict = true → sysModules ∉ as) := by
  cases t with
  | dp h nd =>
    obtain ⟨as, q⟩ := Dp.reads I d v u h r
    exact ⟨as, q, PyData.noDict_hsm nd⟩
  | @dk a kvs e =>
    cases (show u = Value.ref a from r)
    obtain ⟨_, hs, vs, kv, o, es, ep, h1, h2, h3, _, h5, _⟩ := dk_of I.hok e
    obtain ⟨g1, g2⟩ := pairs_read (h := s.heap) h5 kv
    have m1 : (kvs.map fun kv => (kData kv.1, PyData.int kv.2)).map (·.1) = kvs.map fun kv => kData kv.1 := by
      rw [List.map_map] <;> rfl
    have m2 : (kvs.map fun kv => (kData kv.1, PyData.int kv.2)).map (·.2) = kvs.map fun kv => PyData.int kv.2 := by
      rw [List.map_map] <;> rfl
    refine ⟨a :: [] ++ [], Reads.dict h1 h2.1 h3 (by rw [m1]; exact g1) (by rw [m2]; exact g2), fun _ z => ?_⟩
    have z' : sysModules = a := by simpa using z
    rw [← z'] at hs
    simp at hs
/-- repr(v) -/
theorem call_reprD (ng : NoG X.A) (hu : X.A.units + 64 < cLine) : CallR X (.builtin "repr") (fun xs H Q => ∃ v d, xs = [v] ∧ Th X.K H v d ∧ d.showable = true ∧ d.depth ≤ 60 ∧ (d.shown.length ≤ sizeLine ∨ ∃ i, d = .int i) ∧ Q (.str d.shown) H) := by
  intro pins s σ H xs us Q I r h
  obtain ⟨v, d, rfl, t, sh, dep, sz, q⟩ := h
  obtain ⟨u, rfl, rx⟩ := vals1 r
  obtain ⟨as, rd, ns⟩ := t.reads I rx
  match u, d, rd with
  | .none, .none, _ => exact PySem.P.repr_of_none ⟨.str _, H, I.tok _, ⟨_, rfl⟩, q⟩
  | .bool b, .bool _, .bool _ => exact PySem.P.repr_of_bool ⟨.str _, H, I.tok _, ⟨_, rfl⟩, by cases b <;> exact q⟩
  | .int i _, .int _, .int _ _ => exact PySem.P.repr_of_int (of_decide_eq_true sh) ⟨.str _, H, I.tok _, ⟨_, rfl⟩, q⟩
  | .str x _, .str _, .str _ _ => exact PySem.P.repr_of_str ⟨.str _, H, I.tok _, ⟨_, rfl⟩, q⟩ (sz.elim id fun ⟨_, z⟩ => nomatch z)
  | .ref a, d, rd =>
    have sz : d.shown.length ≤ sizeLine := by
      rcases sz with z | ⟨i, z⟩
      · exact z
      · subst z
        cases rd
    refine repr_of_reads' rd sh ns ng (by omega) (fun _ _ z => z) (fun h' u tk k => ?_) sz
    exact ⟨.str _, H, I.kept (t' := tk) k, ⟨_, rfl⟩, q⟩
end
end Gd
end

section
set_option Elab.async false
set_option linter.all false
set_option maxRecDepth 100000
set_option maxHeartbeats 1000000
/-! -o, o + n, o == x, o != x of own instances, by their own methods. -/
namespace Gd
open PySem PySem.Spec PyProof.Rows L2
section
variable {X : Cx} {CX : CXT} {k : Nat} {C f : Addr} {fd : FuncData} {ps : List Str} {sp : Sp} {E : XK}
/-- the method at f is called with these -/
theorem own_run {pins : List (Addr × Obj)} {σ : L2.St} {H : Hp} {s : Shared} {Q : VK} {vs : List V} {us : List Value} (F : FnOk X.prog X.w X.K X.mg X.base CX k f fd ps sp) (hr : Room k X.A) (hb : Binds X.K fd ps [])
    (hx : Passes CX X E) (I : Inv X pins σ H s) (r : Vals vs us) (h : sp vs H Q E) : wpAny (model X.prog X.w) X.A (call (.ref f) us) (EP X pins σ Q) X.xe s :=
  run_fn (dvs := []) (ds := []) F hr hb .nil hx I r (by rw [List.append_nil]; exact h)
theorem un_own (F : FnOk X.prog X.w X.K X.mg X.base CX k f fd ps sp) (hr : Room k X.A) (hb : Binds X.K fd ps []) (hx : Passes CX X E)
    (hs : PySem.W.findIn X.K (.ref C) "__neg__" = some (some (.ref f))) (hf : PySem.W.isFn X.K (.ref f) = true) :
    UnR X (unaryOp .USub) (fun x H Q => ∃ a dx fs, x = .ref a ∧ H a = some (.ins C dx fs) ∧ sp [.ref a] H Q E) := by
  intro pins s σ H x u Q I rx h
  obtain ⟨a, dx, fs, rfl, ha, q⟩ := h
  cases rx
  obtain ⟨mA, J, _⟩ := ins_get I.hok ha
  obtain ⟨od, J, _⟩ := J.look
  obtain ⟨m, hF⟩ := I.fr
  exact PySem.W.ksp_neg hF I.ok.mod.kin J hs hf (own_run F hr hb hx I (.cons (show L2.RelV (.ref a) (.ref a) from rfl) .nil) q)
theorem relV_back {Q : Value → Shared → Prop} {v : V} {u : Value} {s : Shared} (r : L2.RelV v u) (q : Q u s) : PySem.W.CmpBack Q u s := by
  match v, u, r with
  | .non, .none, _ => exact q
  | .bl _, .bool _, _ => exact q
  | .int _, .int _ _, _ => exact q
  | .str _, .str _ _, _ => exact q
  | .byt _, .bytes _ _, _ => exact q
  | .flt _, .float _ _, _ => exact q
  | .ref _, .ref _, _ => exact q
  | .ty _, .type _, _ => exact q
/-- o == x, whatever x is -/
theorem op_own_eq (F : FnOk X.prog X.w X.K X.mg X.base CX k f fd ps sp) (hr : Room k X.A) (hb : Binds X.K fd ps []) (hx : Passes CX X E)
    (hs : PySem.W.findIn X.K (.ref C) "__eq__" = some (some (.ref f))) (hf : PySem.W.isFn X.K (.ref f) = true) :
    OpR X (compareOp .Eq) (fun x y H Q => ∃ a dx fs t, x = .ref a ∧ H a = some (.ins C dx fs) ∧ TyX X.K H y t ∧ PySem.W.notFirst X.K C t = true ∧ sp [.ref a, y] H Q E) := by
  intro pins s σ H x y v u Q I rx ry h
  obtain ⟨a, dx, fs, t, rfl, ha, ty, nf, q⟩ := h
  cases rx
  obtain ⟨mA, J, _⟩ := ins_get I.hok ha
  obtain ⟨od, J, _⟩ := J.look
  obtain ⟨m, hF⟩ := I.fr
  obtain ⟨Pk, Z, pz, _⟩ := kit_of I ry ty
  show wpAny (model X.prog X.w) X.A (richCompare .Eq (.ref a) u) (EP X pins σ Q) X.xe s
  refine PySem.W.cmp_K (op := .Eq) hr.units0 hF I.ok.mod.kin J (Z.ty _ _ I.kIn pz) nf hs hf ?_
  refine thn (own_run F hr hb hx I (.cons (show L2.RelV (.ref a) (.ref a) from rfl) (.cons ry .nil)) q) ?_
  intro r s' z
  obtain ⟨w, H', I', rw', q'⟩ := z
  exact relV_back rw' ⟨w, H', I', rw', q'⟩
end
/-! ### o + n -/
section
open PySem.W
variable {prog : Program} {w : World} {A : Around} {E : Value → Shared → Prop} {s : Shared} {K : Frag} {x C L f : Addr} {h0 : Heap} {m : Str → Option Value} {ox : Obj} {od : Option Obj} {T : String}
theorem bin_own {op : Operator} {b : Value} {fo ro rc : Option Value} {Q : Value → Shared → Prop} (F : Fr h0 L s.heap m) (X0 : K.In h0) (J : InstAt s.heap x ox C od)
    (hb : Looks (model prog w) s.heap (typeOf b) (.type T)) (first : selfFirst K C = true)
    (hs : findIn K (.ref C) (PySem.dunder op.info.2) = some (some (.ref f))) (hf : isFn K (.ref f) = true)
    (hr : findIn K (.ref C) (dunderR op.info.2) = some rc) (hp : rc = none ∨ ∃ g : Addr, rc = some (.ref g))
    (t1 : findIn K (.type T) (PySem.dunder op.info.2) = some fo) (t2 : findIn K (.type T) (dunderR op.info.2) = some ro) (sub : subIn K (.type T) (.ref C) = some false)
    (h : wpAny (model prog w) A (call (.ref f) [.ref x, b]) (PySem.W.CmpBack Q) E s) : wpAny (model prog w) A (binaryOp op (.ref x) b) Q E s := by
  have XK := X0.keeps F.keep
  obtain ⟨cd, rest, hcd, hm⟩ := ksp_first first
  have run := ksp_try XK J hs hf h
  rcases inf : op.info with ⟨sym, nm⟩
  rw [inf] at hs hr t1 t2 run
  dsimp only at hs hr t1 t2 run
  obtain ⟨hh, g, d, tt, os⟩ := s
  have A1 : Looks (model prog w) hh (typeOf (.ref x)) (.ref C) := J.type
  have A2 : Looks (model prog w) hh (typeOf b) (.type T) := hb
  have A3 : Looks (model prog w) hh (fillsNumberSlot (.ref C) nm) true := fills_K XK hcd hm hs
  have A4 := ksp_fillsT (M := model prog w) (h := hh) XK t1 t2
  have A5 : Looks (model prog w) hh (isSubtype (.type T) (.ref C)) false := looks_subIn XK sub
  have A6 : Looks (model prog w) hh (numberSlotInPython (.ref C) nm) true := ksp_inPy XK hs hr hp
  have A7 : Looks (model prog w) hh (numberSlotInPython (.type T) nm) false := Looks.of_pure rfl
  have A8 : Looks (model prog w) hh (typeLookup (.type T) (dunderR nm)) ro := looks_findIn XK t2
  generalize ((fo.isSome && !isSeqSlot fo) || (ro.isSome && !isSeqSlot ro)) = right at A4
  have apart : (Value.ref C == Value.type T) = false := by
    refine Bool.eq_false_iff.mpr ?_
    intro z
    cases beq_iff_eq.mp z
  simp only [binaryOp, inf]
  refine wpAny_holding (wpAny_bind ?_)
  unfold binaryOp1
  refine wpAny_bind (A1.at ?_)
  refine wpAny_bind (A2.at ?_)
  refine wpAny_bind (A3.at ?_)
  simp only [apart, Bool.false_eq_true, if_false]
  cases right with
  | false =>
    ksp_lk
    refine wpAny_mono run ?_ (fun _ _ z => z)
    intro r s' z
    obtain ⟨v, rfl, q⟩ := z
    ksp_lk
    exact q
  | true =>
    ksp_lk
    refine wpAny_mono run ?_ (fun _ _ z => z)
    intro r s' z
    obtain ⟨v, rfl, q⟩ := z
    ksp_lk
    exact q
end
section
variable {X : Cx} {CX : CXT} {k : Nat} {C f : Addr} {fd : FuncData} {ps : List Str} {sp : Sp} {E : XK}
/-- what the written part says of + between the class and a built-in one -/
structure PlusT (K : PySem.W.Frag) (C : Addr) (T : String) : Prop where
  fo : ∃ z, PySem.W.findIn K (.type T) "__add__" = some z
  ro : ∃ z, PySem.W.findIn K (.type T) "__radd__" = some z
  sub : PySem.W.subIn K (.type T) (.ref C) = some false
theorem op_own_add (F : FnOk X.prog X.w X.K X.mg X.base CX k f fd ps sp) (hr : Room k X.A) (hb : Binds X.K fd ps []) (hx : Passes CX X E) (first : PySem.W.selfFirst X.K C = true)
    (hs : PySem.W.findIn X.K (.ref C) "__add__" = some (some (.ref f))) (hf : PySem.W.isFn X.K (.ref f) = true) (hn : PySem.W.findIn X.K (.ref C) "__radd__" = some none) :
    OpR X (binaryOp .Add) (fun x y H Q => ∃ a dx fs T, x = .ref a ∧ H a = some (.ins C dx fs) ∧ TyX X.K H y (.type T) ∧ PlusT X.K C T ∧ sp [.ref a, y] H Q E) := by
  intro pins s σ H x y v u Q I rx ry h
  obtain ⟨a, dx, fs, T, rfl, ha, ty, ⟨⟨fo, t1⟩, ⟨ro, t2⟩, sub⟩, q⟩ := h
  cases rx
  obtain ⟨mA, J, _⟩ := ins_get I.hok ha
  obtain ⟨od, J, _⟩ := J.look
  obtain ⟨m, hF⟩ := I.fr
  obtain ⟨Pk, Z, pz, _⟩ := kit_of I ry ty
  refine bin_own (op := .Add) hF I.ok.mod.kin J (Z.ty _ _ I.kIn pz) first hs hf hn (.inl rfl) t1 t2 sub ?_
  refine thn (own_run F hr hb hx I (.cons (show L2.RelV (.ref a) (.ref a) from rfl) (.cons ry .nil)) q) ?_
  intro r s' z
  obtain ⟨w, H', I', rw', q'⟩ := z
  exact relV_back rw' ⟨w, H', I', rw', q'⟩
end
section
open PySem.W
variable {prog : Program} {w : World} {A : Around} {E : Value → Shared → Prop} {s : Shared} {K : Frag} {x C L f : Addr} {h0 : Heap} {m : Str → Option Value} {ox : Obj} {od : Option Obj} {tb b : Value}
theorem ne_own {Q : Value → Shared → Prop} (hu : A.units + 1 < cLine) (F : Fr h0 L s.heap m) (X0 : K.In h0) (J : InstAt s.heap x ox C od) (hb : Looks (model prog w) s.heap (typeOf b) tb) (nf : notFirst K C tb = true)
    (hn : findIn K (.ref C) "__ne__" = some (some (.builtin "object.__ne__"))) (hs : findIn K (.ref C) "__eq__" = some (some (.ref f))) (hf : isFn K (.ref f) = true) (hm : mroIn K C (.type "object") = some true)
    (h : wpAny (model prog w) A.in1 (call (.ref f) [.ref x, b]) (fun v s' => ∃ k, v = .bool k ∧ Q (.bool (!k)) s') E s) : wpAny (model prog w) A (richCompare .NotEq (.ref x) b) Q E s := by
  have XK := X0.keeps F.keep
  have FB := PySem.F.cmp_object
  have isO : Looks (model prog w) s.heap (isInstance (.ref x) (.type "object")) true := J.type.andThen (looks_mroIn XK hm)
  have inner : ∀ {R : Fin → Shared → Prop}, (∀ k s', Q (.bool (!k)) s' → R (.done (.ret (.bool (!k)))) s') → wpAny (model prog w) A.in1 (Builtin.«object.__ne__» ⟨[.ref x, b], []⟩) R E s := by
    intro R back
    unfold Builtin.«object.__ne__»
    refine wpAny_bind (wpAny_of_eq (a := ((Value.ref x : Value), [b])) (by first | rfl | (simp only [slotArgs]; rfl)) ?_)
    dsimp only
    refine wpAny_bind (wpAny_cRoomFor (show A.in1.units < cLine from hu) ?_)
    refine wpAny_bind (ifBound_K XK J hs hf (wpAny_mono h ?_ (fun _ _ z => z)))
    intro v s' z
    obtain ⟨k, rfl, q⟩ := z
    dsimp only
    refine wpAny_bind (wpAny_truthy_bool ?_)
    exact wpAny_pure (back k s' q)
  have one : wpAny (model prog w) A (tryCompare (.ref x) "__ne__" b) (fun r s' => ∃ v, r = some v ∧ Q v s') E s := by
    unfold tryCompare
    simp only [callSpecialIfBound?, bindSpecialIfBound?]
    refine wpAny_bind (wpAny_holding (wpAny_bind (wpAny_bind (wpAny_bind (J.type.here ((looks_findIn XK hn).here ?_))))))
    simp only [FB.ne.bind]
    refine wpAny_bind (wpAny_askSetting (wpAny_ite ?_))
    have fin : wpAny (model prog w) A (call (.builtin "object.__ne__") ([.ref x] ++ [b]) >>= fun v => pure (some v)) (fun r => wpAny (model prog w) A
        (match r with | some .notImplemented => pure none | none => pure none | some v => pure (some v)) (fun r s' => ∃ v, r = some v ∧ Q v s') E) E s := by
      refine wpAny_bind (wpAny_call (codeAny_call_builtin FB.ne.plain PySem.F.cmpEntry_ne ?_))
      refine check_slot PySem.F.cmpKind_ne PySem.F.cmpSplit_ne isO (PySem.F.cmpArgs_ne _ _) ?_
      refine inner ?_
      intro k s' q
      exact wpAny_pure (wpAny_pure ⟨_, rfl, q⟩)
    split
    · exact wpAny_bind (wpAny_pure (wpAny_pure fin))
    · exact wpAny_tryCatch (wpAny_bind (wpAny_pure (wpAny_pure fin)))
  unfold richCompare
  simp only [oneThing_ref]
  refine wpAny_holding (wpAny_bind (wpAny_cRoomFor (Nat.lt_of_succ_lt hu) ?_))
  refine wpAny_bind (J.type.here (wpAny_bind (hb.here ?_)))
  have last : ∀ {r : Option Value} {s' : Shared}, (∃ v, r = some v ∧ Q v s') → ∀ {k : Unit → Sem Value}, wpAny (model prog w) A (match r with | some v => pure v | none => k ()) Q E s' := by
    intro r s' z k
    obtain ⟨v, rfl, q⟩ := z
    exact wpAny_pure q
  by_cases same : tb = .ref C
  · subst same
    have e0 : (Value.ref C != Value.ref C) = false := by simp
    rw [e0]
    simp only [Bool.false_eq_true, if_false]
    refine wpAny_bind (wpAny_pure ?_)
    simp only [Bool.false_eq_true, if_false]
    refine wpAny_bind (wpAny_mono one ?_ (fun _ _ z => z))
    intro r s' z
    obtain ⟨v, rfl, q⟩ := z
    exact wpAny_pure q
  · have e0 : (Value.ref C != tb) = true := by
      rw [bne_iff_ne]
      exact fun z => same z.symm
    have e1 : subIn K tb (.ref C) = some false := by
      rcases Bool.or_eq_true_iff.mp nf with z | z
      · exact absurd (beq_iff_eq.mp z) same
      · exact beq_iff_eq.mp z
    have e0' : (tb != Value.ref C) = true := by
      rw [bne_iff_ne]
      exact same
    first | rw [e0] | rw [e0']
    simp only [if_true]
    refine wpAny_bind ((looks_subIn XK e1).here ?_)
    simp only [Bool.false_eq_true, if_false]
    refine wpAny_bind (wpAny_mono one ?_ (fun _ _ z => z))
    intro r s' z
    obtain ⟨v, rfl, q⟩ := z
    exact wpAny_pure q
end
section
variable {X : Cx} {CX : CXT} {k : Nat} {C f : Addr} {fd : FuncData} {ps : List Str} {sp : Sp} {E : XK}
/-- o != x, by the own ==, which answers True or False -/
theorem op_own_ne (F : FnOk X.prog X.w X.K X.mg X.base CX0 k f fd ps sp) (hr : Room (k + 1) X.A) (hb : Binds X.K fd ps [])
    (hn : PySem.W.findIn X.K (.ref C) "__ne__" = some (some (.builtin "object.__ne__")))
    (hs : PySem.W.findIn X.K (.ref C) "__eq__" = some (some (.ref f))) (hf : PySem.W.isFn X.K (.ref f) = true) (hm : PySem.W.mroIn X.K C (.type "object") = some true) :
    OpR X (compareOp .NotEq) (fun x y H Q => ∃ a dx fs t, x = .ref a ∧ H a = some (.ins C dx fs) ∧ TyX X.K H y t ∧ PySem.W.notFirst X.K C t = true ∧ sp [.ref a, y] H (fun v H' => ∃ b, v = .bl b ∧ Q (.bl (!b)) H') E0) := by
  intro pins s σ H x y v u Q I rx ry h
  obtain ⟨a, dx, fs, t, rfl, ha, ty, nf, q⟩ := h
  cases rx
  obtain ⟨mA, J, _⟩ := ins_get I.hok ha
  obtain ⟨od, J, _⟩ := J.look
  obtain ⟨m, hF⟩ := I.fr
  obtain ⟨Pk, Z, pz, _⟩ := kit_of I ry ty
  show wpAny (model X.prog X.w) X.A (richCompare .NotEq (.ref a) u) (EP X pins σ Q) X.xe s
  refine ne_own (have := hr.units0; by have := hr.units; omega) hF I.ok.mod.kin J (Z.ty _ _ I.kIn pz) nf hn hs hf hm ?_
  have r2 : L2.Vals [V.ref a, y] [Value.ref a, u] := .cons (show L2.RelV (.ref a) (.ref a) from rfl) (.cons ry .nil)
  have hl : ([Value.ref a, u] ++ ([] : List Value)).length = ps.length := by
    rw [List.append_nil]
    exact r2.length.symm.trans (F.len _ _ _ _ q)
  have bd := hb s [.ref a, u] I.kIn hl
  rw [List.append_nil] at bd
  have body := F.run X.A.in1 X.stack s H ⟨[.ref a, u], []⟩ [.ref a, u] [.ref a, y] _ E0 hr.in1 I.env0.in1 bd r2 q
  refine wpAny_call (codeAny_mono body ?_)
  intro res s' z
  match res, z with
  | .error er, z => exact z.elim
  | .ok (.ret w), z =>
    obtain ⟨v, H', J', rv, b, rfl, q'⟩ := I.after z
    cases (show w = Value.bool b from rv)
    exact ⟨b, rfl, .bl (!b), H', J', rfl, q'⟩
end
end Gd
end

section
set_option Elab.async false
set_option linter.all false
set_option maxRecDepth 100000
set_option maxHeartbeats 4000000
/-! An own error whose __init__(self) stores nothing: C(). -/
namespace Gd
open PySem PySem.Spec PyProof.Rows L2
def tMk0 (C : Addr) (sp : Sp) : L2.St → Hp → XK → Prop := fun σ H Q => ∀ a, H a = none →
  sp [.ref a] (upd H a (exo a C none)) (fun v H2 => v = .non ∧ H2 a = some (exo a C none) ∧ Q (.ref C) none (del H2 a)) E0
section
variable {X : Cx}
/-- the error is let go: it isn't tracked any more -/
theorem let_go {pins : List (Addr × Obj)} {σ : L2.St} {H H2 : Hp} {Q : XK} {hp hp2 h2 : Heap} {g1 g2 : Array GenState} {d1 d2 : Drawn} {t1 t2 : Nat} {os1 os2 : OsState} {a C : Addr} (T : Raises X (.ref C))
    (I : Inv X pins σ H ⟨hp, g1, d1, t1, os1⟩) (ha : hp.objs.size ≤ a) (k : ∀ b o, hp.get? b = some o → hp2.get? b = some o) (un : Un (frs X.stack) [] (upd H a (exo a C none)) H2 hp2 h2) (hok : HOk X.prog X.w H2 h2)
    (ho : os2 = os1) (hb : AllBare g2) (ea : H2 a = some (exo a C none)) (q : Q (.ref C) none (del H2 a)) : MkP X pins σ Q (.ref a) ⟨h2, g2, d2, t2, os2⟩ := by
  obtain ⟨t0, at2⟩ := exo_at hok ea
  have n1 : H a = none := I.hok.fresh ha
  obtain ⟨G, ga, gb⟩ := restrict h2 fun b => decide (b ≠ a)
  have same : ∀ b, b ≠ a → G.get? b = h2.get? b := fun b z => ga b (decide_eq_true z)
  have gone : G.get? a = none := gb a (by simp)
  have off : ∀ {b : Addr} {o : Obj}, hp.get? b = some o → b ≠ a := fun {b o} z => Nat.ne_of_lt (Nat.lt_of_lt_of_le (Heap.lt_size z) ha)
  have nn : ∀ {b : Addr}, b ≠ a → H b = none → upd H a (exo a C none) b = none := fun {b} z n => by
    rw [upd_ne z]
    exact n
  have U : Un (frs X.stack) [] H (del H2 a) hp G := by
    refine ⟨?_, ?_, ?_, ?_, ?_, ?_, ?_⟩
    · intro b o z n hf hx
      rw [same b (off z)]
      exact un.keep b o (k b o z) (nn (off z) n) hf hx
    · intro b o z n hf hx
      rw [same b (off z)]
      exact un.slot b o (k b o z) (nn (off z) n) hf hx
    · intro b o z n hx
      rw [del_ne (off z)]
      exact un.free b o (k b o z) (nn (off z) n) hx
    · intro b o z hx
      rw [same b (off z)]
      exact un.there b o (k b o z) hx
    · intro b xs z
      have nb := ne_of_none z n1
      rw [del_ne nb]
      exact un.tups b xs (by rw [upd_ne nb]; exact z)
    · intro b o v z
      have nb := ne_of_none z n1
      rw [del_ne nb]
      exact un.frzs b o v (by rw [upd_ne nb]; exact z)
    · intro b ps z
      have nb := ne_of_none z n1
      rw [del_ne nb]
      exact un.tbls b ps (by rw [upd_ne nb]; exact z)
  have hok3 : HOk X.prog X.w (del H2 a) G := by
    intro b o z
    have nb : b ≠ a := by
      intro e
      rw [e, del_same] at z
      cases z
    rw [del_ne nb] at z
    have noa : ∀ {c : Addr}, H2 c = some (.own b) → c ≠ a := fun {c} hc => at_ne ea hc exo_own
    refine (hok b o z).stay ?_ ?_ ?_
    · intro c v hc y
      have nc : c ≠ a := by
        rcases hc with e | e
        · rw [e]
          exact nb
        · exact noa e
      rw [same c nc]
      exact y
    · intro c hc
      rw [del_ne (noa hc)]
      exact hc
    · intro c xs hc
      rw [del_ne (at_ne ea hc exo_tup)]
      exact hc
  have J : Inv X pins σ (del H2 a) ⟨G, g2, d2, t2, os2⟩ := I.call' (ch := []) ho U hok3 hb (fun b z => absurd z (by simp))
  refine ⟨a, _, _, ⟨G, g2, d2, t2, os2⟩, _, .ref C, none, rfl, J, ?_, gone, at2, ⟨rfl, rfl⟩, rfl, rfl, del_same, rfl, hb, T, q⟩
  intro b o z
  by_cases nb : b = a
  · rw [nb, gone] at z
    cases z
  · exact (same b nb).symm.trans z
theorem pmk_oex0 {x : Str} {C fI : Addr} {k : Nat} {fd : FuncData} {ps : List Str} {sp : Sp} {p pos : Pos} (T : OexC X.K C) (iC : PySem.W.findIn X.K (.ref C) "__init__" = some (some (.ref fI)))
    (tI : PySem.W.typeIn X.K (.ref fI) = some (.type "function")) (F1 : FnOk X.prog X.w X.K X.mg X.base CX0 k fI fd ps sp) (hr : Room (k + 1) X.A) (hb : Binds X.K fd ps []) (hg : Gl X x) (hm : X.mg x = some (.ref C))
    (hdb : (x == ("__debug__" : Str)) = false := by decide) : PMk X (.Call (.Name x p) [] [] pos) (tMk0 C sp) := by
  intro pins s σ H Q I h
  obtain ⟨nm, q, N, bs, bm, sn, sub, ab, col, dd, k0, k1, k2, k3, k5, hC, hbm⟩ := T.cls
  refine wpAny_Call_Name_kw (ld_glob I hg hm ?_ hdb)
  refine PySem.W.callWith_K0 I.kIn T.kC ?_
  show wpAny _ _ (call (.ref C) []) _ _ _
  obtain ⟨hp, g, dr, tk, os⟩ := s
  have up1 : hp.objs.size ≤ hp.objs.size + 1 := Nat.le_succ _
  have hq := h (hp.objs.size + 1) (I.hok.fresh up1)
  have kk : ∀ b o, hp.get? b = some o → ((hp.push (PySem.W.kdv_tup [])).push (PySem.HandSPX.excO C hp.objs.size)).get? b = some o := fun b o e => Heap.get?_push_of_some _ (Heap.get?_push_of_some _ e)
  have hget : ((hp.push (PySem.W.kdv_tup [])).push (PySem.HandSPX.excO C hp.objs.size)).get? (hp.objs.size + 1) = some (PySem.HandSPX.excO C hp.objs.size) := by heap_get
  have I2 : Inv X pins σ (upd H (hp.objs.size + 1) (exo (hp.objs.size + 1) C none)) ⟨(hp.push (PySem.W.kdv_tup [])).push (PySem.HandSPX.excO C hp.objs.size), g, dr, tk, os⟩ :=
    I.laid (t' := tk) (a := hp.objs.size + 1) (o := exo (hp.objs.size + 1) C none) kk up1 (exo_ok hget)
  have r2 : L2.Vals [V.ref (hp.objs.size + 1)] [Value.ref (hp.objs.size + 1)] := .cons (show L2.RelV (.ref _) (.ref _) from rfl) .nil
  have hl : ([Value.ref (hp.objs.size + 1)] ++ ([] : List Value)).length = ps.length := F1.len _ _ _ _ hq
  have bd := hb ⟨(hp.push (PySem.W.kdv_tup [])).push (PySem.HandSPX.excO C hp.objs.size), g, dr, tk, os⟩ [Value.ref (hp.objs.size + 1)] I2.kIn hl
  rw [List.append_nil] at bd
  have run := F1.run _ X.stack _ _ ⟨[Value.ref (hp.objs.size + 1)], []⟩ [Value.ref (hp.objs.size + 1)] [V.ref (hp.objs.size + 1)] _ E0 (hr.make C [] []) (I2.env0.make C [] []) bd r2 hq
  refine wpAny_call (PySem.HandSPX.call_own PySem.F.excBase_ValueError (fun Y => PySem.HandSPX.refsVE_contains Y bm hbm) (I.kIn _ _ hC) (PySem.W.looks_findIn I.kIn iC) (fun self => PySem.W.bind_fn I.kIn self tI) (by rw [sizeLine_eq]; decide)
    (codeAny_mono run ?_))
  intro r s' hq'
  match r, hq' with
  | .error er, z => exact z.elim
  | .ok (.ret u), z =>
    obtain ⟨v, H2, os2, bare2, un2, hok2, rv, ev, ea, q2⟩ := z
    subst ev
    obtain ⟨h2, g2, d2, t2, os'⟩ := s'
    exact ⟨rv, let_go (raises_own T.exC T.tyC) I up1 kk un2 hok2 os2 bare2 ea q2⟩
end
end Gd
end

section
set_option Elab.async false
set_option linter.all false
set_option maxRecDepth 100000
set_option maxHeartbeats 4000000
/-! The end of a law row with tables of code objects, for promises that hold where no repr is under way. -/
namespace Gd
open PySem PySem.Spec PyProof.Rows L2 LamX
theorem law_gT {P : Program} {w : World} {K : PySem.W.Frag} {mg mb : Str → Option Value} {CX : CXT} {k : Nat} {fa a : Addr} {cs : List (Addr × Addr)} {fd : FuncData} {x : Str} {sp : Sp} {s0 : Shared} {vs : List Value} {ns : List Int}
    (KX : K.In s0.heap) (hns : s0.heap.Ns mainGlobals mg) (hb : s0.heap.Ns builtinsNs mb) (hbb : ∀ x : Str, x ≠ "__name__" → mb x = bootBuiltins x) (hlim : s0.heap.NoLimit) (hg : s0.gens = #[])
    (hT : ∀ p ∈ cs, s0.heap.get? p.2 = some { cls := .none, data := .fields #[] }) (nT : ∀ p ∈ cs, K.lookup p.2 = none) (C : ∀ p ∈ cs, PySem.W.CodeHd s0.heap p.1 p.2)
    (hbm : ∃ (bm : Addr) (ob : Obj), mg "__builtins__" = some (.ref bm) ∧ bm ≠ builtinsNs ∧ s0.heap.get? bm = some ob ∧ ob.cls = .type "module" ∧ ob.dict = some builtinsNs ∧ ob.data = .plain)
    (ha : s0.heap.get? a = some { cls := .type "list", data := .seq vs.toArray }) (hi : IntsAre vs ns) (hl : ns.length ≤ sizeLine) (hr : Room k callerA)
    (F : ∀ base : Heap, K.In base → base.Ns mainGlobals mg → (∀ p ∈ cs, TabB base mg p.1 p.2) → FnG P w K mg base CX k fa fd [x] sp)
    (hbind : ∀ (s : Shared) (u : Value), BindsTo s fd ⟨[u], []⟩ [(x, u)])
    (hsp : ∀ H : Hp, (∀ p ∈ cs, H p.2 = some (.tbl #[])) → SqL K H a (ns.map V.int) → sp [.ref a] H (fun v _ => v = .bl true) fun _ _ _ => False)
    (hCX : ∀ H e s', CX [] H s0 (fun _ _ _ => False) e s' → False) :
    codeAny (model P w) callerA (.call (.ref fa) ⟨[.ref a], []⟩) (fun r s' => r = .ok (.ret (.bool true)) ∧ OldK s0.heap s'.heap ∧ s'.os = s0.os ∧ AllBare s'.gens) s0 := by
  have rv := vals_ints hi
  have vlen := hi.length
  let TT : List Addr := cs.map (·.2)
  have inT : ∀ p ∈ cs, p.2 ∈ TT := fun p hp => List.mem_map.mpr ⟨p, hp, rfl⟩
  have ofT : ∀ b, b ∈ TT → ∃ p ∈ cs, p.2 = b := fun b z => List.mem_map.mp z
  have tabAt : ∀ b, b ∈ TT → s0.heap.get? b = some { cls := .none, data := .fields #[] } := by
    intro b z
    obtain ⟨p, hp, e⟩ := ofT b z
    exact e ▸ hT p hp
  have aNot : a ∉ TT := by
    intro z
    have q := tabAt a z
    rw [ha] at q
    have d : Data.seq vs.toArray _ = Data.fields #[] := congrArg Obj.data (Option.some.inj q)
    cases d
  -- H tracks the tables, and the script if the written part has it not
  have main : ∀ H : Hp, (∀ b, b ∈ TT → H b = some (.tbl #[])) → (∀ b u, H b = some u → b ∈ TT ∨ (b = a ∧ u = .frz { cls := .type "list", data := .seq vs.toArray } (.lst (ns.map V.int)) ∧ K.lookup a = none)) →
      SqL K H a (ns.map V.int) →
      codeAny (model P w) callerA (.call (.ref fa) ⟨[.ref a], []⟩) (fun r s' => r = .ok (.ret (.bool true)) ∧ OldK s0.heap s'.heap ∧ s'.os = s0.os ∧ AllBare s'.gens) s0 := by
    intro H hH hO hS
    have hok : HOk P w H s0.heap := by
      intro b u z
      rcases hO b u z with t | ⟨e1, e2, _⟩
      · have e := (hH b t).symm.trans z
        cases Option.some.inj e
        exact tabAt b t
      · subst e1 e2
        exact ⟨ha, by rw [List.length_map]; exact hl, vs, _, rv, ha⟩
    have other : ∀ {b : Addr} {o : Obj}, s0.heap.get? b = some o → (∀ us n, o.data ≠ .seq us n) → o.data ≠ .fields #[] → H b = none := by
      intro b o e h1 h2
      match q : H b with
      | none => rfl
      | some u =>
        rcases hO b u q with t | ⟨e1, _, _⟩
        · rw [tabAt b t] at e
          cases Option.some.inj e
          exact (h2 rfl).elim
        · rw [e1, ha] at e
          cases Option.some.inj e
          exact (h1 _ _ rfl).elim
    have nsB : ∀ {b : Addr} {m : Str → Option Value}, s0.heap.Ns b m → (hidT s0.heap H).Ns b m := by
      intro b m z
      obtain ⟨o, es, ep, e, d, r⟩ := z
      refine ⟨o, es, ep, hidT_get e (other e ?_ ?_), d, r⟩
      · intro us n z
        rw [d] at z
        cases z
      · intro z
        rw [d] at z
        cases z
    have KB : K.In (hidT s0.heap H) := by
      intro b o e
      refine hidT_get (KX b o e) ?_
      match q : H b with
      | none => rfl
      | some u =>
        rcases hO b u q with t | ⟨e1, _, e3⟩
        · obtain ⟨p, hp, ep⟩ := ofT b t
          rw [← ep, nT p hp] at e
          cases e
        · rw [e1, e3] at e
          cases e
    obtain ⟨mc, l1, l2⟩ := hlim
    have M : L2.Mod K mg (hidT s0.heap H) := ⟨KB, nsB hns, ⟨mb, nsB hb, hbb⟩, ⟨mc, nsB l1, l2⟩⟩
    have TB : ∀ p ∈ cs, TabB (hidT s0.heap H) mg p.1 p.2 := by
      intro p hp
      have tp := hT p hp
      refine ⟨?_, ?_, ?_⟩
      · obtain ⟨o, us, file, tf, flags, tg, inF, text, tt, e1, r1, r2, r3, r4, r5, r6, r7, r8, nz⟩ := C p hp
        refine ⟨o, us, file, tf, flags, tg, inF, text, tt, hidT_get e1 (other e1 ?_ ?_), r1, r2, r3, r4, r5, r6, r7, r8, nz⟩
        · intro us n z
          rw [r2] at z
          cases z
        · intro z
          rw [r2] at z
          cases z
          simp at r3
      · obtain ⟨bm, ob, b1, b2, b3, b4, b5, b6⟩ := hbm
        have nG : bm ≠ mainGlobals := by
          intro q
          obtain ⟨o, es, ep, e, d, _⟩ := hns
          rw [q, e] at b3
          cases Option.some.inj b3
          rw [d] at b6
          cases b6
        have nP : bm ≠ p.2 := by
          intro q
          rw [q, tp] at b3
          cases Option.some.inj b3
          cases b6
        refine ⟨bm, ob, b1, b2, nG, nP, hidT_get b3 (other b3 ?_ ?_), b4, b5, b6⟩
        · intro us n z
          rw [b6] at z
          cases z
        · intro z
          rw [b6] at z
          cases z
      · intro z
        obtain ⟨o, es, ep, e, d, _⟩ := hns
        rw [z, tp] at e
        cases Option.some.inj e
        cases d
    have E0' : Env0 P w K mg (hidT s0.heap H) callerA [] s0 H := by
      refine ⟨rfl, M, fun b o e => of_hidT e, Nat.le_of_eq (hidT_size _ _), trivial, fun b z => ?_, hok, .of_eq hg⟩
      exact absurd (show b ∈ ([] : List Addr) from z) (by simp)
    have run := (F _ KB (nsB hns) TB).go callerA [] s0 H ⟨[.ref a], []⟩ [.ref a] [.ref a] _ _ rfl hr E0' (hbind s0 (.ref a)) (.cons rfl .nil) (hsp H (fun p hp => hH _ (inT p hp)) hS)
    refine codeAny_mono run ?_
    intro r s' h
    match r, h with
    | .error e, h => exact (hCX H e s' h).elim
    | .ok (.ret u), h =>
      obtain ⟨v, H', os, bare, un, hok', r', q⟩ := h
      have ev : v = .bl true := q
      subst ev
      have eu : u = Value.bool true := r'
      subst eu
      have stays : ∀ b o, b ∉ TT → s0.heap.get? b = some o → s'.heap.get? b = some o := by
        intro b o nb e
        match q : H b with
        | none => exact un.keep b o e q (by intro z; exact absurd (show b ∈ ([] : List Addr) from z) (by simp)) (by simp)
        | some u =>
          rcases hO b u q with t | ⟨_, e2, _⟩
          · exact absurd t nb
          · subst e2
            have e1 := (hok b _ q).1
            have e2 := (hok' b _ (un.frzs b _ _ q)).1
            rw [e] at e1
            cases Option.some.inj e1
            exact e2
      have grown : ∀ p ∈ cs, ∃ more : Array Value, s'.heap.get? p.2 = some { cls := .none, data := .fields more } := by
        intro p hp
        obtain ⟨more, z⟩ := un.tbls p.2 #[] (hH _ (inT p hp))
        exact ⟨_, hok' p.2 _ z⟩
      refine ⟨rfl, ⟨fun b o e => ?_, fun b o e => ?_⟩, os, bare⟩
      · by_cases t : b ∈ TT
        · obtain ⟨p, hp, ep⟩ := ofT b t
          obtain ⟨more, hm⟩ := grown p hp
          rw [← ep] at e ⊢
          rw [hT p hp] at e
          cases Option.some.inj e
          exact .inr (.inl ⟨((C p hp).tab (hT p hp)).isCodeTable, rfl, #[], more, rfl, by rw [Array.empty_append]; exact hm⟩)
        · exact .inl (stays b o t e)
      · by_cases t : b ∈ TT
        · obtain ⟨p, hp, ep⟩ := ofT b t
          obtain ⟨more, hm⟩ := grown p hp
          exact ⟨_, ep ▸ hm⟩
        · exact ⟨o, stays b o t e⟩
  match hk : K.lookup a with
  | some o =>
    have e := KX a o hk
    rw [ha] at e
    cases Option.some.inj e
    let Hs : Hp := fun b => if b ∈ TT then some (.tbl #[]) else none
    refine main Hs (fun b t => if_pos t) (fun b u z => ?_) (.inr ⟨_, vs.toArray, _, hk, rfl, rfl, rfl, by rw [List.size_toArray, vlen]; exact hl, by simpa using rv⟩)
    by_cases t : b ∈ TT
    · exact .inl t
    · exact absurd ((if_neg t : Hs b = none).symm.trans z) (by simp)
  | none =>
    let Hs : Hp := fun b => if b ∈ TT then some (.tbl #[]) else if b = a then some (.frz { cls := .type "list", data := .seq vs.toArray } (.lst (ns.map V.int))) else none
    have atA : Hs a = some (.frz { cls := .type "list", data := .seq vs.toArray } (.lst (ns.map V.int))) := (if_neg aNot : Hs a = _).trans (if_pos rfl)
    refine main Hs (fun b t => if_pos t) (fun b u z => ?_) (.inl (.inr ⟨_, atA⟩))
    by_cases t : b ∈ TT
    · exact .inl t
    · have z1 := (if_neg t : Hs b = _).symm.trans z
      by_cases e : b = a
      · subst e
        have z2 := (if_pos rfl).symm.trans z1
        exact .inr ⟨rfl, (Option.some.inj z2).symm, hk⟩
      · exact absurd ((if_neg e).symm.trans z1) (by simp)
/-- what is known of the law's promise behind the head, at h -/
def LawG (l : PySem.W.OpenLaw) (w : World) (K : PySem.W.Frag) (CX : CXT) (k n : Nat) (x : Str) (mg : Str → Option Value) (fa : Addr) (h : Heap) : Prop :=
  ∃ (fd : FuncData) (cs : List (Addr × Addr)) (sp : Sp), (∀ p ∈ cs, h.get? p.2 = some { cls := .none, data := .fields #[] }) ∧ (∀ p ∈ cs, K.lookup p.2 = none) ∧
    (∀ p ∈ cs, PySem.W.CodeHd h p.1 p.2) ∧ (∀ (s : Shared) (u : Value), BindsTo s fd ⟨[u], []⟩ [(x, u)]) ∧
    (∀ (H : Hp) (a : Addr) (ns : List Int), ns.length ≤ n → (∀ z ∈ ns, Builtin.Int.intBits z ≤ 1048576) → (∀ p ∈ cs, H p.2 = some (.tbl #[])) → SqL K H a (ns.map V.int) →
      sp [.ref a] H (fun v _ => v = .bl true) fun _ _ _ => False) ∧
    ∀ base : Heap, K.In base → base.Ns mainGlobals mg → (∀ p ∈ cs, TabB base mg p.1 p.2) → FnG l.prog w K mg base CX k fa fd [x] sp
theorem walk_gT {l : PySem.W.OpenLaw} {n k : Nat} {q : Program} {loose : List Str} {XP : (Str → Option Value) → Heap → Prop} {YP : World → Heap → Prop} {d : DefRec} {K : Params → PySem.W.Frag} {CX : World → CXT} {x : Str}
    (hn : l.most = some n) (hn2 : n ≤ sizeLine) (hdf : d.params.defaults = []) (hr : Room k callerA) (hY : ∀ (w : World) (h : Heap), YP w h → (K w.params).In h)
    (F : ∀ (w : World) (mg : Str → Option Value) (fa : Addr) (h : Heap), YP w h → (K w.params).In h → h.Ns mainGlobals mg → mg d.name = some (.ref fa) → LawG l w (K w.params) (CX w) k n x mg fa h)
    (hCX : ∀ (w : World) (H : Hp) (s : Shared) (e : Value) (s' : Shared), CX w [] H s (fun _ _ _ => False) e s' → False) : PySem.W.WalkO q loose XP YP l.row.toRowW d [] (fun f vs => PySem.call f vs) := by
  refine Att.attach_callB hn hdf ?_
  intro w sA sB mg mb fa o pm cd doc a vs ns G Y ho hd hcd hmg hobj hints hlen hbits hg
  have KX := hY w _ Y
  obtain ⟨fd, cs, sp, hT, nT, C, hb, hsp, hF⟩ := F w mg fa _ Y KX G.T.g hmg
  exact law_gT KX G.T.g G.T.b G.T.builtins G.T.nolimit hg hT nT C G.T.bmain hobj hints (Nat.le_trans hlen hn2) hr hF hb (fun H hH hS => hsp H a ns hlen hbits hH hS) (fun H e s' => hCX w H sB e s')
end Gd
end

section
set_option Elab.async false
set_option linter.all false
set_option maxRecDepth 100000
set_option maxHeartbeats 2000000
/-! A dict beside a text: not equal. Any drawn value beside texts. -/
namespace PySem
namespace SeqAt
open PySem PySem.Spec PyProof.Rows
theorem dict_eq_declines_str (l : Addr) (es : Array DictEntry) (n : Nat) (dd : Option Addr) (sl : Array (Option Value)) (b : Str) (u : Tok) :
    Meets (Builtin.«dict.__eq__» ⟨[.ref l, .str b u], []⟩) (fun _ R s => s.heap.get? l = some { cls := .type "dict", dict := dd, data := .dict es n, slots := sl } ∧ R (.ok (.ret .notImplemented)) s) :=
  .of_wp fun prog w A R s h => by obtain ⟨hp, g, d, tk, os⟩ := s; obtain ⟨hl, h⟩ := h; have f1 := F.sub_str_dict; wp_walk using wpAny_loadPart' hl, wpAny_load hl; exact ⟨_, rfl, h⟩
theorem str_eq_declines_dict (b : Str) (u : Tok) (l : Addr) (c : Value) (es : Array DictEntry) (n : Nat) (dd : Option Addr) (sl : Array (Option Value)) :
    Meets (Builtin.«str.__eq__» ⟨[.str b u, .ref l], []⟩) (fun _ R s => s.heap.get? l = some { cls := c, dict := dd, data := .dict es n, slots := sl } ∧ R (.ok (.ret .notImplemented)) s) :=
  .of_wp fun prog w A R s h => by obtain ⟨hp, g, d, tk, os⟩ := s; obtain ⟨hl, h⟩ := h; wp_walk using wpAny_loadPart' hl, wpAny_load hl; exact ⟨_, rfl, h⟩
open MeetsSeq
section
variable {A : Around} {s : Shared}
theorem RcAt.dict_str {l : Addr} {es : Array DictEntry} {n : Nat} {dd : Option Addr} {sl : Array (Option Value)} (b : Str) (u : Tok) (ho : s.heap.get? l = some { cls := .type "dict", dict := dd, data := .dict es n, slots := sl }) (hu : A.units < cLine) : RcAt A s (.ref l) (.str b u) false := fun prog w E Q h =>
  rc_eq_decline_or (k := false) ⟨_, ho, rfl⟩ (typeIs_str s b u) (by decide) F.sub_str_dict F.slot_dict_eq F.slot_str_eq_refl
    (fun _ hq => call_meets F.slot_dict_eq ⟨_, ho, rfl⟩ F.entry_dict_eq (F.args_dict_eq_2 _ _) (dict_eq_declines_str l es n dd sl b u) ⟨ho, hq⟩)
    (fun _ hq => call_meets F.slot_str_eq_refl (typeIs_str s b u) F.entry_str_eq (F.args_str_eq_2 _ _) (str_eq_declines_dict b u l (.type "dict") es n dd sl) ⟨ho, hq⟩)
    (fun _ hq => wpAny_of_eq (rfl : isSame (.ref l) (.str b u) = pure false) hq) (.inr hu) h
theorem EqAt.dict_str {l : Addr} {es : Array DictEntry} {n : Nat} {dd : Option Addr} {sl : Array (Option Value)} (b : Str) (u : Tok) (ho : s.heap.get? l = some { cls := .type "dict", dict := dd, data := .dict es n, slots := sl }) (hu : A.units < cLine) : EqAt A s (.ref l) (.str b u) false := fun prog w E Q h => by
  unfold eqBool
  refine wpAny_holding ?_
  refine wpAny_ite_split (fun hab => absurd (eq_of_beq hab) nofun) (fun _ => ?_)
  exact wpAny_bind (RcAt.dict_str b u ho hu prog w E _ (wpAny_truthy_bool h))
theorem RcAt.str_dict {l : Addr} {es : Array DictEntry} {n : Nat} {dd : Option Addr} {sl : Array (Option Value)} (b : Str) (u : Tok) (ho : s.heap.get? l = some { cls := .type "dict", dict := dd, data := .dict es n, slots := sl }) (hu : A.units < cLine) : RcAt A s (.str b u) (.ref l) false := fun prog w E Q h =>
  rc_eq_decline_or (k := false) (typeIs_str s b u) ⟨_, ho, rfl⟩ (by decide) F.sub_dict_str F.slot_str_eq F.slot_dict_eq_refl
    (fun _ hq => call_meets F.slot_str_eq (typeIs_str s b u) F.entry_str_eq (F.args_str_eq_2 _ _) (str_eq_declines_dict b u l (.type "dict") es n dd sl) ⟨ho, hq⟩)
    (fun _ hq => call_meets F.slot_dict_eq_refl ⟨_, ho, rfl⟩ F.entry_dict_eq (F.args_dict_eq_2 _ _) (dict_eq_declines_str l es n dd sl b u) ⟨ho, hq⟩)
    (fun _ hq => wpAny_of_eq (rfl : isSame (.str b u) (.ref l) = pure false) hq) (.inr hu) h
theorem EqAt.str_dict {l : Addr} {es : Array DictEntry} {n : Nat} {dd : Option Addr} {sl : Array (Option Value)} (b : Str) (u : Tok) (ho : s.heap.get? l = some { cls := .type "dict", dict := dd, data := .dict es n, slots := sl }) (hu : A.units < cLine) : EqAt A s (.str b u) (.ref l) false := fun prog w E Q h => by
  unfold eqBool
  refine wpAny_holding ?_
  refine wpAny_ite_split (fun hab => absurd (eq_of_beq hab) nofun) (fun _ => ?_)
  exact wpAny_bind (RcAt.str_dict b u ho hu prog w E _ (wpAny_truthy_bool h))
end
end SeqAt
end PySem
namespace Gd
open PySem PySem.Spec PyProof.Rows L2
section
variable {X : Cx} {pins : List (Addr × Obj)} {σ : L2.St} {H : Hp} {s : Shared} {A : Around}
structure AnyStr (A : Around) (s : Shared) (v : Value) (b : Str) (u : Tok) (c : Bool) : Prop where
  r1 : SeqAt.RcAt A s v (.str b u) c
  e1 : SeqAt.EqAt A s v (.str b u) c
  r2 : SeqAt.RcAt A s (.str b u) v c
  e2 : SeqAt.EqAt A s (.str b u) v c
theorem str_dec (a b : Str) : (a == b) = decide (V.str a = V.str b) := by
  by_cases h : a = b
  · subst h
    simp
  · rw [decide_eq_false (fun z => h (by cases z; rfl))]
    exact beq_eq_false_iff_ne.mpr h
theorem any_str (I : Inv X pins σ H s) {x : V} {v : Value} {d : PyData} (t : Th X.K H x d) (r : RelV x v) (b : Str) (u : Tok) (hu : A.units < cLine) : AnyStr A s v b u (decide (x = .str b)) := by
  cases t with
  | dp h nd =>
    cases h with
    | non =>
      cases r
      exact ⟨.none_str b u, .none_str b u, .str_none b u, .str_none b u⟩
    | bl k =>
      cases (show v = Value.bool k from r)
      exact ⟨.bool_str k b u, .bool_str k b u, .str_bool b u k, .str_bool b u k⟩
    | int i =>
      obtain ⟨t, rfl⟩ := (show ∃ t, v = Value.int i t from r)
      exact ⟨.int_str i t b u, .int_str i t b u, .str_int b u i t, .str_int b u i t⟩
    | str a =>
      obtain ⟨t, rfl⟩ := (show ∃ t, v = Value.str a t from r)
      rw [← str_dec]
      refine ⟨.str_str a t b u, .str_str a t b u, ?_, ?_⟩
      · have e : (a == b) = (b == a) := BEq.comm
        rw [e]
        exact .str_str b u a t
      · have e : (a == b) = (b == a) := BEq.comm
        rw [e]
        exact .str_str b u a t
    | @lst a xs ds h1 h2 =>
      cases (show v = Value.ref a from r)
      obtain ⟨its, _, pl, _⟩ := I.list h1
      exact ⟨.list_str b u pl.isList hu, .list_str b u pl.isList hu, .str_list b u pl.isList hu, .str_list b u pl.isList hu⟩
    | @tup a xs ds h1 h2 =>
      cases (show v = Value.ref a from r)
      obtain ⟨its, _, pl, _⟩ := I.tuple h1
      exact ⟨.tuple_str b u pl hu, .tuple_str b u pl hu, .str_tuple b u pl hu, .str_tuple b u pl hu⟩
  | @dk a kvs e =>
    cases (show v = Value.ref a from r)
    obtain ⟨_, hs, vs, kv, o, es, ep, h1, h2, h3, _⟩ := dk_of I.hok e
    obtain ⟨oc, od, dt, sl⟩ := o
    have hc : oc = .type "dict" := h2.1
    have hd : dt = .dict es ep := h3
    subst hc hd
    exact ⟨.dict_str b u h1 hu, .dict_str b u h1 hu, .str_dict b u h1 hu, .str_dict b u h1 hu⟩
end
/-- any drawn value == a text -/
def rEqAny (K : PySem.W.Frag) : R2 := fun x y H Q => ∃ d b, Th K H x d ∧ y = .str b ∧ Q (.bl (decide (x = .str b))) H
theorem op_eq_any {X : Cx} (hu : X.A.units < cLine) : OpR X (compareOp .Eq) (rEqAny X.K) := by
  intro pins s σ H x y v u Q I rx ry h
  obtain ⟨d, b, t, rfl, q⟩ := h
  obtain ⟨tk, rfl⟩ := (show ∃ tk, u = Value.str b tk from ry)
  exact (any_str I t rx b tk hu).r1 _ _ _ _ ⟨.bl _, H, I, rfl, q⟩
/-- a text == any drawn value -/
def rAnyEq (K : PySem.W.Frag) : R2 := fun x y H Q => ∃ d b, x = .str b ∧ Th K H y d ∧ Q (.bl (decide (y = .str b))) H
theorem op_any_eq {X : Cx} (hu : X.A.units < cLine) : OpR X (compareOp .Eq) (rAnyEq X.K) := by
  intro pins s σ H x y v u Q I rx ry h
  obtain ⟨d, b, rfl, t, q⟩ := h
  obtain ⟨tk, rfl⟩ := (show ∃ tk, v = Value.str b tk from rx)
  exact (any_str I t ry b tk hu).r2 _ _ _ _ ⟨.bl _, H, I, rfl, q⟩
/-- any drawn value in texts -/
def isX (x : V) (w : Value) : Bool := match w with
  | .str b _ => decide (x = .str b)
  | _ => false
theorem isX_all {X : Cx} {pins : List (Addr × Obj)} {σ : L2.St} {H : Hp} {s : Shared} {A : Around} (I : Inv X pins σ H s) {x : V} {v : Value} {d : PyData} (t : Th X.K H x d) (r : RelV x v) (hu : A.units < cLine) :
    ∀ {bs : List Str} {us : List Value}, Vals (bs.map V.str) us → (∀ w ∈ us, SeqAt.EqAt A s w v (isX x w)) ∧ us.any (isX x) = bs.any fun b => decide (x = .str b)
  | [], _, .nil => ⟨fun w hw => (by cases hw), rfl⟩
  | b :: bs, u :: us, .cons r1 rest => by
    obtain ⟨tk, rfl⟩ := (show ∃ tk, u = Value.str b tk from r1)
    obtain ⟨h1, h2⟩ := isX_all I t r hu rest
    refine ⟨fun w hw => ?_, ?_⟩
    · rcases List.mem_cons.mp hw with rfl | hw
      · exact (any_str I t r b tk hu).e2
      · exact h1 w hw
    · rw [List.any_cons, List.any_cons, h2]
      rfl
def rInAny (K : PySem.W.Frag) (neg : Bool) : R2 := fun x y H Q => ∃ p bs d, y = .ref p ∧ (SqL K H p (List.map V.str bs) ∨ SqT K H p (List.map V.str bs)) ∧ Th K H x d ∧ Q (.bl (if neg then !(bs.any fun b => decide (x = .str b)) else bs.any fun b => decide (x = .str b))) H
theorem op_in_any {X : Cx} (hu : X.A.units + 1 < cLine) : OpR X (compareOp .In) (rInAny X.K false) := by
  intro pins s σ H x y v u Q I rx ry h
  obtain ⟨p, bs, d, rfl, hq, t, q⟩ := h
  cases (show u = Value.ref p from ry)
  have hu1 : X.A.in1.units < cLine := hu
  rcases hq with hq | hq
  · obtain ⟨its, r, pl, hz⟩ := I.list hq
    obtain ⟨h1, h2⟩ := isX_all (A := X.A.in1) I t rx hu1 r
    refine SeqAt.in_listAt (isX x) pl.isList (fun w hw => h1 w (by simpa using hw)) ⟨.bl _, H, I, rfl, ?_⟩
    rw [show its.toArray.any (isX x) = its.any (isX x) by simp, h2]
    exact q
  · obtain ⟨its, r, pl, hz⟩ := I.tuple hq
    obtain ⟨h1, h2⟩ := isX_all (A := X.A.in1) I t rx hu1 r
    refine SeqAt.in_tupleAt (isX x) pl (fun w hw => h1 w (by simpa using hw)) ⟨.bl _, H, I, rfl, ?_⟩
    rw [show its.toArray.any (isX x) = its.any (isX x) by simp, h2]
    exact q
theorem op_notIn_any {X : Cx} (hu : X.A.units + 1 < cLine) : OpR X (compareOp .NotIn) (rInAny X.K true) := by
  intro pins s σ H x y v u Q I rx ry h
  obtain ⟨p, bs, d, rfl, hq, t, q⟩ := h
  cases (show u = Value.ref p from ry)
  have hu1 : X.A.in1.units < cLine := hu
  rcases hq with hq | hq
  · obtain ⟨its, r, pl, hz⟩ := I.list hq
    obtain ⟨h1, h2⟩ := isX_all (A := X.A.in1) I t rx hu1 r
    refine SeqAt.notIn_listAt (isX x) pl.isList (fun w hw => h1 w (by simpa using hw)) ⟨.bl _, H, I, rfl, ?_⟩
    rw [show its.toArray.any (isX x) = its.any (isX x) by simp, h2]
    exact q
  · obtain ⟨its, r, pl, hz⟩ := I.tuple hq
    obtain ⟨h1, h2⟩ := isX_all (A := X.A.in1) I t rx hu1 r
    refine SeqAt.notIn_tupleAt (isX x) pl (fun w hw => h1 w (by simpa using hw)) ⟨.bl _, H, I, rfl, ?_⟩
    rw [show its.toArray.any (isX x) = its.any (isX x) by simp, h2]
    exact q
end Gd
end

section
set_option Elab.async false
set_option maxRecDepth 100000
namespace Toy
open PySem L2
def top (i : Nat) : Stmt := PySem.Challenge.pw_solidnames_k13_planes_as_objects.main.body.getD i (.Pass ⟨0, 0, 0, 0⟩)
abbrev sDraw : Stmt := top 18
/-! the pen -/
abbrev kCells : Key := Sum.inr ("cells" : Str)
abbrev kBegun : Key := Sum.inr ("begun" : Str)
abbrev kRest : Key := Sum.inr ("rest" : Str)
theorem ks1 : ¬ (kCells = kBegun) := by decide +kernel
theorem ks2 : ¬ (kCells = kRest) := by decide +kernel
theorem ks3 : ¬ (kBegun = kRest) := by decide +kernel
theorem ks4 : ¬ (kRest = kBegun) := by decide +kernel
def penD (c : Addr) (n r : Int) : List (Key × V) := [(kCells, .ref c), (kBegun, .int n), (kRest, .int r)]
structure PenAt (H : Hp) (p c : Addr) (ns : List Int) (n r : Int) : Prop where
  d : H p = some (.dK (penD c n r))
  l : H c = some (.lst (ns.map V.int))
  n0 : 0 ≤ n
  nb : n ≤ 1000000
  r0 : 0 ≤ r
  len : ns.length ≤ 63
theorem pen_cells (c : Addr) (n r : Int) : valV (penD c n r) kCells = some (.ref c) := valV_pos rfl
theorem pen_begun (c : Addr) (n r : Int) : valV (penD c n r) kBegun = some (.int n) := by
  unfold penD
  rw [valV_neg ks1, valV_pos rfl]
theorem pen_rest (c : Addr) (n r : Int) : valV (penD c n r) kRest = some (.int r) := by
  unfold penD
  rw [valV_neg ks2, valV_neg ks3, valV_pos rfl]
theorem pen_put_rest (c : Addr) (n r r' : Int) : putK (penD c n r) kRest (.int r') = penD c n r' := by
  unfold putK penD
  rw [if_pos (by simp)]
  simp only [List.map_cons, List.map_nil, if_neg ks2, if_neg ks3, if_true]
theorem pen_put_begun (c : Addr) (n r n' : Int) : putK (penD c n r) kBegun (.int n') = penD c n' r := by
  unfold putK penD
  rw [if_pos (by simp)]
  simp only [List.map_cons, List.map_nil, if_neg ks1, if_neg ks4, if_true]
theorem PenAt.draw {H : Hp} {p c : Addr} {ns : List Int} {n r n' r' : Int} (P : PenAt H p c ns n r) (h0 : 0 ≤ n') (hb : n' ≤ 1000000) (h1 : 0 ≤ r') : PenAt (upd H p (.dK (penD c n' r'))) p c ns n' r' := by
  have npc : c ≠ p := ne_of P.l P.d (by intro z; cases z)
  exact ⟨upd_same, by rw [upd_ne npc]; exact P.l, h0, hb, h1, P.len⟩
/-- the levels: how great a range may be -/
def bnd : Nat → Int
  | 0 => 60000000
  | m + 1 => 60000000 * (bnd m - 1)
/-- all but the pen stands as it was -/
def Kept (p : Addr) (H H' : Hp) : Prop := ∀ b, b ≠ p → H' b = H b
def spD : Nat → Sp
  | 0 => fun _ _ _ _ => False
  | m + 1 => fun vs H Q _ => ∃ (p c : Addr) (ns : List Int) (n r many : Int), vs = [.ref p, .int many] ∧ PenAt H p c ns n r ∧ 1 ≤ many ∧ many ≤ bnd m ∧ n + m < 1000000 ∧
    ∀ (d n' r' : Int), 0 ≤ d → d < many → n ≤ n' → n' ≤ n + m + 1 → PenAt (upd H p (.dK (penD c n' r'))) p c ns n' r' → Q (.int d) (upd H p (.dK (penD c n' r')))
structure TxtD (K : PySem.W.Frag) (mg : Str → Option Value) : Prop where
  int : mg "int" = none
  len : mg "len" = none
  abs : mg "abs" = none
theorem pget_cells {H : Hp} {p c : Addr} {n r : Int} (h : H p = some (.dK (penD c n r))) : DGet H p (.str "cells") (some (.ref c)) := by
  have := DGet.k (k := kCells) h
  rwa [pen_cells] at this
theorem pget_begun {H : Hp} {p c : Addr} {n r : Int} (h : H p = some (.dK (penD c n r))) : DGet H p (.str "begun") (some (.int n)) := by
  have := DGet.k (k := kBegun) h
  rwa [pen_begun] at this
theorem pget_rest {H : Hp} {p c : Addr} {n r : Int} (h : H p = some (.dK (penD c n r))) : DGet H p (.str "rest") (some (.int r)) := by
  have := DGet.k (k := kRest) h
  rwa [pen_rest] at this
theorem pput_rest {H : Hp} {p c : Addr} {n r : Int} (h : H p = some (.dK (penD c n r))) (r' : Int) : DPut H p (.str "rest") (.int r') (upd H p (.dK (penD c n r'))) := by
  have := DPut.k (k := kRest) (v := .int r') h (by show 3 < sizeLine; decide)
  rwa [pen_put_rest] at this
theorem pput_begun {H : Hp} {p c : Addr} {n r : Int} (h : H p = some (.dK (penD c n r))) (n' : Int) : DPut H p (.str "begun") (.int n') (upd H p (.dK (penD c n' r))) := by
  have := DPut.k (k := kBegun) (v := .int n') h (by show 3 < sizeLine; decide)
  rwa [pen_put_begun] at this
theorem bnd_lt : ∀ m : Nat, m ≤ 6 → (bnd m).natAbs < 2 ^ 200 := by decide +kernel
section
variable {P : Program} {w : World} {K : PySem.W.Frag} {mg : Str → Option Value} {base : Heap}
theorem scD : FnScope ["_law_pen_here", "_law_many", "_law_digit", "_law_place", "_law_size", "_law_told", "_law_mixed"] ["_law_pen_here", "_law_many"] (defScope sDraw) := ⟨rfl, rfl, rfl, by decide +kernel, rfl, by decide +kernel, by decide +kernel⟩
theorem ok_draw {f : Addr} {fd : FuncData} (F : Fun K "_law_draw" "_law_draw" sDraw f fd) (T : TxtD K mg) (mgf : mg "_law_draw" = some (.ref f)) (b : Binds K fd ["_law_pen_here", "_law_many"] []) :
    ∀ m : Nat, m ≤ 6 → FnOk P w K mg base CX0 (m + 1) f fd ["_law_pen_here", "_law_many"] (spD m) := by
  intro m
  induction m with
  | zero => exact fun _ => F.ok scD (fun _ _ _ _ h => h.elim) (fun _ _ _ _ _ _ _ _ _ h => h.elim)
  | succ m ih =>
    intro hm
    have ih := ih (by omega)
    refine F.ok scD (fun vs H Q E h => ?_) (fun cdv A outer s H vs Q E hr h => ?_)
    · obtain ⟨p, c, ns, n, r, many, rfl, _⟩ := h
      rfl
    · obtain ⟨p, c, ns, n, r, many, rfl, S, h1, h2, h3, k⟩ := h
      have hu := hu_of hr
      have hwide : ∀ i : Int, CDivW i many := fun i => wide_div (b := 200) (by omega) (wide_le (by omega) h2 (bnd_lt m (by omega))) (by decide) (by decide)
      refine ⟨_, (pss_cons (ps_if (pt_cmpR op_gt (pe_dget hu (pv 0) pe_str (fun _ _ => rfl)) pe_int (nomark _))
 (pss_cons (ps_set (i := 2) scD.nd rfl (Or.inl rfl) (pe_op op_mod (pe_callTy call_int1 (by rfl) T.int (by decide +kernel) (pa_cons (pe_dget hu (pv 0) pe_str (fun _ _ => rfl)) pa_nil)) (pv 1)))
 (pss_cons (ps_dput hu (pv 0) pe_str (pe_op op_fdivW (pe_dget hu (pv 0) pe_str (fun _ _ => rfl)) (pv 1)) rfl)
 (pss_one (ps_ret (pv 2)))))
 pss_nil)
 (pss_cons (ps_par (i := 3) (j := 4) (by rfl) scD.nd rfl rfl (by decide) rfl rfl (pa_cons (pe_dget hu (pv 0) pe_str (fun _ _ => rfl)) (pa_cons (pe_callB call_len (by rfl) T.len PySem.boot_len (pa_cons (pe_dget hu (pv 0) pe_str (fun _ _ => rfl)) pa_nil)) pa_nil)) (by rfl))
 (pss_cons (ps_dput hu (pv 0) pe_str (pe_op op_add (pv 3) pe_int) rfl)
 (pss_cons (ps_set (i := 5) scD.nd rfl (Or.inl rfl) (pe_op op_add (pe_op op_mul pe_int (pv 3)) pe_int))
 (C8.pss_cut (ps_if (pt_cmpR op_gt (pv 4) pe_int (nomark _))
 (pss_one (ps_set (i := 5) scD.nd rfl (Or.inl rfl) (pe_ix ix_list (pe_dget hu (pv 0) pe_str (fun _ _ => rfl)) (pe_op op_mod (pe_callTy call_int1 (by rfl) T.int (by decide +kernel) (pa_cons (pv 3) pa_nil)) (pv 4)) (fun _ _ => rfl))))
 pss_nil)
 (C8.pss_cut (ps_if (PW.pt (pw_and (pt_cmpR op_lt (pv 3) (pv 4) (nomark _)) (pw_and1 (pt_cmpR op_ge (pe_callB call_abs (by rfl) T.abs (by decide +kernel) (pa_cons (pv 5) pa_nil)) (pe_op op_pow pe_int pe_int) (nomark _)))))
 (pss_cons (ps_dput hu (pv 0) pe_str (pe_op op_fdivW (pe_op op_sub (pe_callB call_abs (by rfl) T.abs (by decide +kernel) (pa_cons (pv 5) pa_nil)) (pe_op op_pow pe_int pe_int)) (pv 1)) rfl)
 (pss_one (ps_ret (pe_op op_mod (pe_op op_sub (pe_callB call_abs (by rfl) T.abs (by decide +kernel) (pa_cons (pv 5) pa_nil)) (pe_op op_pow pe_int pe_int)) (pv 1)))))
 pss_nil)
 (C8.pss_cut (ps_set (i := 6) scD.nd rfl (Or.inl rfl) (pe_op op_mod (pe_callTy call_int1 (by rfl) T.int (by decide +kernel) (pa_cons (pe_op op_add (pe_op op_add (pe_op op_mul (pe_op op_mod (pe_callTy call_int1 (by rfl) T.int (by decide +kernel) (pa_cons (pv 5) pa_nil)) pe_int) pe_int) (pe_op op_mul (pe_op op_mul pe_int (pv 3)) (pv 3))) pe_int) pa_nil)) pe_int))
 (C8.pss_cut (ps_set (i := 6) scD.nd rfl (Or.inl rfl) (pe_op op_mod (pe_callTy call_int1 (by rfl) T.int (by decide +kernel) (pa_cons (pe_op op_add (pe_op op_add (pe_op op_add (pe_op op_mul (pv 6) (pv 6)) (pe_op op_mul pe_int (pv 6))) (pe_op op_mul pe_int (pv 3))) pe_int) pa_nil)) pe_int))
 (C8.pss_cut (ps_set (i := 6) scD.nd rfl (Or.inl rfl) (pe_op op_fdiv (pe_op op_mod (pe_callTy call_int1 (by rfl) T.int (by decide +kernel) (pa_cons (pe_op op_mul (pv 6) (pe_op op_add (pv 6) pe_int)) pa_nil)) pe_int) pe_int))
 (C8.pss_cut (ps_if (pt_cmpR op_gt (pv 1) pe_int (nomark _))
 (pss_one (ps_set (i := 6) scD.nd rfl (Or.inl rfl) (pe_op op_add (pe_op op_mod (pe_callTy call_int1 (by rfl) T.int (by decide +kernel) (pa_cons (pv 6) pa_nil)) pe_int) (pe_op op_mul pe_int (pe_call ih hr rfl mgf F.kp b .nil pass0 (pa_cons (pv 0) (pa_cons (pe_op op_add (pe_op op_fdiv (pv 1) pe_int) pe_int) pa_nil)))))))
 pss_nil)
 (pss_one (ps_ret (pe_op op_mod (pe_callTy call_int1 (by rfl) T.int (by decide +kernel) (pa_cons (pv 6) pa_nil)) (pv 1)))))))))))))), ?_⟩
      refine ⟨_, rfl, p, _, rfl, pget_rest S.d, _, _, rfl, rfl, _, rfl, ?_⟩
      refine ite2 (fun c1 => ?_) (fun c1 => ?_)
      · -- a digit of a great cell
        refine ⟨_, rfl, p, _, rfl, pget_rest S.d, .inl ⟨_, rfl, _, rfl, _, _, rfl, rfl, (by show (0 : Int) < many; omega), ?_⟩⟩
        refine ⟨_, rfl, p, _, rfl, pget_rest S.d, _, rfl, _, _, rfl, rfl, hwide _, _, rfl, p, _, rfl, pput_rest S.d _, _, rfl, ?_⟩
        have q0 : 0 ≤ r / many := Int.ediv_nonneg S.r0 (by omega)
        exact k _ _ _ (Int.emod_nonneg _ (by omega)) (Int.emod_lt_of_pos _ (by omega)) (Int.le_refl _) (by omega) (S.draw S.n0 S.nb q0)
      · have er : r = 0 := by have := S.r0; have : ¬ (0 < r) := fun z => c1 (decide_eq_true z); omega
        subst er
        have lenN : ((ns.map V.int).length : Int) = (ns.length : Int) := by rw [List.length_map]
        -- place, size
        refine ⟨_, rfl, p, _, rfl, pget_begun S.d, _, rfl, p, _, rfl, pget_cells S.d, _, _, rfl, .inl ⟨_, SqL.of S.l, rfl⟩, _, _, rfl, ?_⟩
        -- begun
        refine ⟨_, rfl, _, _, rfl, rfl, _, rfl, p, _, rfl, pput_begun S.d _, ?_⟩
        have S1 : PenAt (upd H p (.dK (penD c (n + 1) 0))) p c ns (n + 1) 0 := S.draw (by have := S.n0; omega) (by omega) (Int.le_refl _)
        generalize hH1 : upd H p (.dK (penD c (n + 1) 0)) = H1 at S1 ⊢
        have up : ∀ o, upd H1 p o = upd H p o := fun o => by rw [← hH1, upd_upd]
        have nb := S.nb
        have n0 := S.n0
        -- told
        refine ⟨_, rfl, _, _, rfl, rfl, .inl ⟨by decide, by decide⟩, _, _, rfl, rfl, ?_⟩
        -- told, of the cells
        refine ⟨fun σ' H' => ∃ told : Int, H1 = H' ∧ σ' = [some (.ref p), some (.int many), none, some (.int n), some (.int (ns.length : Int)), some (.int told), none], ?_, ?_⟩
        · refine ⟨_, rfl, _, _, rfl, rfl, _, rfl, ?_⟩
          refine ite2 (fun c2 => ?_) (fun c2 => ⟨_, rfl, by rw [lenN] <;> rfl⟩)
          have hl : 0 < ns.length := by have := of_decide_eq_true c2; omega
          have hx : n % (ns.length : Int) = ((n.toNat % ns.length : Nat) : Int) := by rw [Int.natCast_emod, Int.toNat_of_nonneg n0]
          obtain ⟨z, hz⟩ : ∃ z, ns[n.toNat % ns.length]? = some z := ⟨_, List.getElem?_eq_getElem (Nat.mod_lt _ hl)⟩
          obtain ⟨z, hz⟩ : ∃ z, ns[n.toNat % ns.length]? = some z := ⟨_, List.getElem?_eq_getElem (Nat.mod_lt _ hl)⟩
          obtain ⟨z, hz⟩ : ∃ z, ns[n.toNat % ns.length]? = some z := ⟨_, List.getElem?_eq_getElem (Nat.mod_lt _ hl)⟩
          obtain ⟨z, hz⟩ : ∃ z, ns[n.toNat % ns.length]? = some z := ⟨_, List.getElem?_eq_getElem (Nat.mod_lt _ hl)⟩
          obtain ⟨z, hz⟩ : ∃ z, ns[n.toNat % ns.length]? = some z := ⟨_, List.getElem?_eq_getElem (Nat.mod_lt _ hl)⟩
          have hi : (ns.map V.int)[n.toNat % ns.length]? = some (.int z) := by
            rw [List.getElem?_map, hz] <;> rfl
          refine ⟨_, rfl, p, _, rfl, pget_cells S1.d, _, rfl, .inl ⟨_, rfl, _, rfl, _, _, rfl, rfl, (by show (0 : Int) < ((ns.map V.int).length : Int); rw [lenN]; omega), c, _, _, .int z, rfl, rfl, SqL.of S1.l, ?_, ⟨_, rfl, by rw [lenN] <;> rfl⟩⟩⟩
          rw [lenN, hx]
          exact atI_nat hi
        rintro σ' H' ⟨told, eH, rfl⟩
        subst eH
        have fin : ∀ (d n' r' : Int), 0 ≤ d → d < many → n + 1 ≤ n' → n' ≤ n + ((m + 1 : Nat) : Int) → 0 ≤ r' → Q (.int d) (upd H p (.dK (penD c n' r'))) := fun d n' r' g1 g2 g3 g4 g5 =>
          k d n' r' g1 g2 (by omega) (by omega) (S.draw (by omega) (by omega) g5)
        -- a great cell
        refine ⟨fun σ' H' => H1 = H' ∧ σ' = [some (.ref p), some (.int many), none, some (.int n), some (.int (ns.length : Int)), some (.int told), none], ?_, ?_⟩
        · refine ⟨_, rfl, _, rfl, _, _, rfl, rfl, _, rfl, ?_⟩
          refine ite2 (fun c3 => ?_) (fun _ => iteF ⟨rfl, rfl⟩)
          refine ⟨_, rfl, _, rfl, _, _, rfl, rfl, ⟨by decide, by decide, by decide⟩, _, _, rfl, rfl, _, rfl, ?_⟩
          refine ite2 (fun c4 => ?_) (fun _ => ⟨rfl, rfl⟩)
          have h18 : (0 : Int) ≤ (if told < 0 then -told else told) - 10 ^ (18 : Int).toNat := by have := of_decide_eq_true c4; omega
          refine ⟨_, rfl, _, rfl, _, _, rfl, rfl, ⟨by decide, by decide, by decide⟩, _, _, rfl, rfl, _, rfl, _, _, rfl, rfl, hwide _, _, rfl, p, _, rfl, pput_rest S1.d _,
            _, rfl, _, rfl, _, _, rfl, rfl, ⟨by decide, by decide, by decide⟩, _, _, rfl, rfl, _, rfl, _, _, rfl, rfl, (show (0 : Int) < many by omega), ?_⟩
          rw [up]
          exact fin _ _ _ (Int.emod_nonneg _ (by omega)) (Int.emod_lt_of_pos _ (by omega)) (Int.le_refl _) (by omega) (Int.ediv_nonneg h18 (by omega))
        rintro σ' H' ⟨eH, rfl⟩
        subst eH
        -- mixed
        have nlt : -(2 ^ 64) < n ∧ n < 2 ^ 64 := ⟨by omega, by omega⟩
        refine ⟨fun σ' H' => ∃ x : Int, 0 ≤ x ∧ x < 4294967279 ∧ H1 = H' ∧ σ' = [some (.ref p), some (.int many), none, some (.int n), some (.int (ns.length : Int)), some (.int told), some (.int x)], ?_, ?_⟩
        · refine ⟨_, rfl, .inl ⟨_, rfl, _, _, rfl, rfl, (show (0 : Int) < 4294967231 by decide), _, _, rfl, rfl, .inr ⟨by decide, by decide⟩, _, rfl, _, _, rfl, rfl, .inl ⟨by decide, by decide⟩, _, rfl, _, _, rfl, rfl, .inr nlt, _, _, rfl, rfl, _, _, rfl, rfl,
            .inl ⟨_, rfl, _, _, rfl, rfl, (show (0 : Int) < 4294967279 by decide), ?_⟩⟩⟩
          exact ⟨_, Int.emod_nonneg _ (by decide), Int.emod_lt_of_pos _ (by decide), rfl, rfl⟩
        rintro σ' H' ⟨x, x0, x1, eH, rfl⟩
        subst eH
        have bx : ∀ y : Int, 0 ≤ y → y < 4294967291 → -(2 ^ 64) < y ∧ y < 2 ^ 64 := fun y _ _ => ⟨by omega, by omega⟩
        refine ⟨fun σ' H' => ∃ x : Int, 0 ≤ x ∧ x < 4294967291 ∧ H1 = H' ∧ σ' = [some (.ref p), some (.int many), none, some (.int n), some (.int (ns.length : Int)), some (.int told), some (.int x)], ?_, ?_⟩
        · refine ⟨_, rfl, _, rfl, _, _, rfl, rfl, .inr (bx x x0 (by omega)), _, rfl, _, _, rfl, rfl, .inl ⟨by decide, by decide⟩, _, _, rfl, rfl, _, rfl, _, _, rfl, rfl, .inl ⟨by decide, by decide⟩, _, _, rfl, rfl, _, _, rfl, rfl,
            .inl ⟨_, rfl, _, _, rfl, rfl, (show (0 : Int) < 4294967291 by decide), ?_⟩⟩
          exact ⟨_, Int.emod_nonneg _ (by decide), Int.emod_lt_of_pos _ (by decide), rfl, rfl⟩
        clear x0 x1 x
        rintro σ' H' ⟨x, x0, x1, eH, rfl⟩
        subst eH
        refine ⟨fun σ' H' => ∃ x : Int, 0 ≤ x ∧ H1 = H' ∧ σ' = [some (.ref p), some (.int many), none, some (.int n), some (.int (ns.length : Int)), some (.int told), some (.int x)], ?_, ?_⟩
        · refine ⟨_, rfl, _, rfl, _, _, rfl, rfl, _, _, rfl, rfl, .inl (bx x x0 x1), .inl ⟨_, rfl, _, _, rfl, rfl, (show (0 : Int) < 4294967197 by decide), _, _, rfl, rfl, ⟨by decide, by decide⟩, ?_⟩⟩
          exact ⟨_, Int.ediv_nonneg (Int.emod_nonneg _ (by decide)) (by decide), rfl, rfl⟩
        clear x0 x1 x
        rintro σ' H' ⟨x, x0, eH, rfl⟩
        subst eH
        refine ⟨fun σ' H' => ∃ x n' r' : Int, 0 ≤ x ∧ n + 1 ≤ n' ∧ n' ≤ n + ((m + 1 : Nat) : Int) ∧ 0 ≤ r' ∧ H' = upd H p (.dK (penD c n' r')) ∧
          σ' = [some (.ref p), some (.int many), none, some (.int n), some (.int (ns.length : Int)), some (.int told), some (.int x)], ?_, ?_⟩
        · refine ⟨_, rfl, _, _, rfl, rfl, _, rfl, ?_⟩
          refine ite2 (fun c5 => ?_) (fun _ => ⟨x, n + 1, 0, x0, Int.le_refl _, by omega, Int.le_refl _, hH1.symm, rfl⟩)
          have hm6 : (60000000 : Int) < many := of_decide_eq_true c5
          refine ⟨_, rfl, .inl ⟨_, rfl, _, _, rfl, rfl, (show (0 : Int) < 60000000 by decide), _, rfl, _, rfl, _, _, rfl, rfl, ⟨by decide, by decide⟩, _, _, rfl, rfl, ?_⟩⟩
          cases m with
          | zero => exact absurd h2 (by show ¬ many ≤ 60000000; omega)
          | succ m =>
            have h2' : many ≤ 60000000 * (bnd m - 1) := h2
            refine ⟨p, c, ns, n + 1, 0, many / 60000000 + 1, rfl, S1, by omega, by omega, by omega, fun d n' r' d0 d1 g1 g2 P' => ?_⟩
            refine ⟨_, _, rfl, rfl, .inl ⟨by decide, by decide⟩, _, _, rfl, rfl, ?_⟩
            exact ⟨x % 60000000 + 60000000 * d, n', r', by have := Int.emod_nonneg x (show (60000000 : Int) ≠ 0 by decide); omega, g1, by omega, P'.r0, up _, rfl⟩
        rintro σ' H' ⟨x, n', r', x0, g3, g4, g5, rfl, rfl⟩
        refine ⟨_, rfl, .inl ⟨_, rfl, _, rfl, _, _, rfl, rfl, (show (0 : Int) < many by omega), ?_⟩⟩
        exact fin _ _ _ (Int.emod_nonneg _ (by omega)) (Int.emod_lt_of_pos _ (by omega)) g3 g4 g5
end
end Toy
end

section
set_option Elab.async false
set_option linter.all false
set_option maxRecDepth 100000
namespace Toy
open PySem L2
structure Dn (K : PySem.W.Frag) (mg : Str → Option Value) (x : Str) (f : Addr) (fd : FuncData) (ps : List Str) : Prop where
  m : mg x = some (.ref f)
  k : PySem.W.keepIn K (.ref f) = true
  b : Binds K fd ps []
/-- all tracked objects but that at p stand as they were -/
def Ext (p : Addr) (H H' : Hp) : Prop := ∀ b o, b ≠ p → H b = some o → H' b = some o
theorem Ext.refl (p : Addr) (H : Hp) : Ext p H H := fun _ _ _ h => h
theorem Ext.trans {p : Addr} {H H1 H2 : Hp} (a : Ext p H H1) (b : Ext p H1 H2) : Ext p H H2 := fun c o n h => b c o n (a c o n h)
theorem Ext.upd (p : Addr) (H : Hp) (o : HO) : Ext p H (L2.upd H p o) := fun b u n h => by rw [upd_ne n]; exact h
theorem Ext.new {p l : Addr} {H : Hp} {o : HO} (h : H l = none) : Ext p H (L2.upd H l o) := fun b u _ e => by rw [upd_ne (ne_of_none e h)]; exact e
theorem PenAt.grow {H H' : Hp} {p c : Addr} {ns : List Int} {n r : Int} (P : PenAt H p c ns n r) (e : Same H H') : PenAt H' p c ns n r := ⟨e _ _ P.d, e _ _ P.l, P.n0, P.nb, P.r0, P.len⟩
theorem same_new {l : Addr} {H : Hp} {o : HO} (h : H l = none) : Same H (L2.upd H l o) := fun b u e => by rw [upd_ne (ne_of_none e h)]; exact e
theorem PenAt.ne {H : Hp} {p c l : Addr} {ns : List Int} {n r : Int} (P : PenAt H p c ns n r) {xs : List V} (h : H l = some (.lst xs)) : l ≠ p := ne_of h P.d (by intro z; cases z)
def spDr (B u : Int) : Sp := fun vs H Q _ => ∃ (p c : Addr) (ns : List Int) (n r many : Int), vs = [.ref p, .int many] ∧ PenAt H p c ns n r ∧ 1 ≤ many ∧ many ≤ B ∧ n + u < 1000000 ∧
    ∀ (d n' r' : Int), 0 ≤ d → d < many → n ≤ n' → n' ≤ n + u + 1 → PenAt (upd H p (.dK (penD c n' r'))) p c ns n' r' → Q (.int d) (upd H p (.dK (penD c n' r')))
abbrev spLo : Sp := spDr 60000000 0
abbrev spHi : Sp := spDr 10000000000000000000000000000000 3
theorem bnd3 : (10000000000000000000000000000000 : Int) ≤ bnd 3 := by decide +kernel
theorem draw_lo {P : Program} {w : World} {K : PySem.W.Frag} {mg : Str → Option Value} {base : Heap} {f : Addr} {fd : FuncData} {ps : List Str} (G : FnOk P w K mg base CX0 2 f fd ps (spD 1)) : FnOk P w K mg base CX0 2 f fd ps spLo :=
  G.imp fun vs H Q E ⟨p, c, ns, n, r, many, e, S, h1, h2, h3, k⟩ => ⟨p, c, ns, n, r, many, e, S, h1, h2, h3, fun d n' r' g1 g2 g3 g4 => k d n' r' g1 g2 g3 g4⟩
theorem draw_hi {P : Program} {w : World} {K : PySem.W.Frag} {mg : Str → Option Value} {base : Heap} {f : Addr} {fd : FuncData} {ps : List Str} (G : FnOk P w K mg base CX0 5 f fd ps (spD 4)) : FnOk P w K mg base CX0 5 f fd ps spHi :=
  G.imp fun vs H Q E ⟨p, c, ns, n, r, many, e, S, h1, h2, h3, k⟩ => ⟨p, c, ns, n, r, many, e, S, h1, Int.le_trans h2 bnd3, h3, fun d n' r' g1 g2 g3 g4 => k d n' r' g1 g2 g3 g4⟩
abbrev sPen : Stmt := top 17
abbrev sPick : Stmt := top 19
abbrev sAround : Stmt := top 20
abbrev sGreat : Stmt := top 21
def spPick : Sp := fun vs H Q _ => ∃ (p c : Addr) (ns : List Int) (n r : Int) (l : Addr) (xs : List V), vs = [.ref p, .ref l] ∧ PenAt H p c ns n r ∧ n < 900000 ∧ H l = some (.lst xs) ∧ 0 < xs.length ∧ xs.length ≤ 60000000 ∧
  ∀ (v : V) (n' r' : Int), v ∈ xs → n ≤ n' → n' ≤ n + 1 → PenAt (upd H p (.dK (penD c n' r'))) p c ns n' r' → Q v (upd H p (.dK (penD c n' r')))
def spAround : Sp := fun vs H Q _ => ∃ (p c : Addr) (ns : List Int) (n r most : Int), vs = [.ref p, .int most] ∧ PenAt H p c ns n r ∧ n < 900000 ∧ 0 ≤ most ∧ 2 * most + 1 ≤ 10000000000000000000000000000000 ∧
  ∀ (k n' r' : Int), -most ≤ k → k ≤ most → n ≤ n' → n' ≤ n + 4 → PenAt (upd H p (.dK (penD c n' r'))) p c ns n' r' → Q (.int k) (upd H p (.dK (penD c n' r')))
def spGreat : Sp := fun vs H Q _ => ∃ (p c : Addr) (ns : List Int) (n r most : Int), vs = [.ref p, .int most] ∧ PenAt H p c ns n r ∧ n < 900000 - 20 ∧ 0 ≤ most ∧ 2 * most + 1 ≤ 10000000000000000000000000000000 ∧
  ∀ (k n' r' : Int) (H' : Hp), -most ≤ k → k ≤ most → n ≤ n' → n' ≤ n + 11 → Ext p H H' → PenAt H' p c ns n' r' → Q (.int k) H'
structure TxtB (K : PySem.W.Frag) (mg : Str → Option Value) : Prop extends TxtD K mg where
  max : mg "max" = none
  min : mg "min" = none
  list : mg "list" = none
section
variable {P : Program} {w : World} {K : PySem.W.Frag} {mg : Str → Option Value} {base : Heap}
theorem scPick : FnScope ["_law_pen_here", "_law_options"] ["_law_pen_here", "_law_options"] (defScope sPick) := ⟨rfl, rfl, rfl, by decide +kernel, rfl, by decide +kernel, by decide +kernel⟩
theorem ok_pick {f : Addr} {fd : FuncData} (F : Fun K "_law_pick" "_law_pick" sPick f fd) (T : TxtB K mg) {fdraw : Addr} {fddraw : FuncData} (Ddraw : Dn K mg "_law_draw" fdraw fddraw ["_law_pen_here", "_law_many"]) (Gdraw : FnOk P w K mg base CX0 2 fdraw fddraw ["_law_pen_here", "_law_many"] spLo) :
    FnOk P w K mg base CX0 3 f fd ["_law_pen_here", "_law_options"] spPick := by
  refine F.ok scPick (fun vs H Q E h => ?_) (fun cdv A outer s H vs Q E hr h => ?_)
  · obtain ⟨p, c, ns, n, r, l, xs, rfl, _⟩ := h
    rfl
  · obtain ⟨p, c, ns, n, r, l, xs, rfl, S, hn, hl, h0, h1, k⟩ := h
    have hu := hu_of hr
    refine ⟨_, (pss_one (ps_ret (pe_ix ix_list (pv 1) (pe_call Gdraw hr rfl Ddraw.m Ddraw.k Ddraw.b .nil pass0 (pa_cons (pv 0) (pa_cons (pe_callB call_len (by rfl) T.len PySem.boot_len (pa_cons (pv 1) pa_nil)) pa_nil))) (fun _ _ => rfl)))), ?_⟩
    refine ⟨_, rfl, _, rfl, _, rfl, _, _, rfl, .inl ⟨_, SqL.of hl, rfl⟩, ?_⟩
    refine ⟨p, c, ns, n, r, xs.length, rfl, S, by omega, by omega, by omega, fun d n' r' d0 d1 g1 g2 P' => ?_⟩
    have hx : d.toNat < xs.length := by omega
    refine ⟨l, xs, d, xs[d.toNat], rfl, rfl, SqL.of (by rw [upd_ne (S.ne hl)]; exact hl), ?_, ?_⟩
    · have := atI_nat (List.getElem?_eq_getElem hx)
      rwa [Int.toNat_of_nonneg d0] at this
    · exact k _ n' r' (List.getElem_mem hx) g1 (by omega) P'
theorem scAr : FnScope ["_law_pen_here", "_law_most"] ["_law_pen_here", "_law_most"] (defScope sAround) := ⟨rfl, rfl, rfl, by decide +kernel, rfl, by decide +kernel, by decide +kernel⟩
theorem ok_around {f : Addr} {fd : FuncData} (F : Fun K "_law_around" "_law_around" sAround f fd) (T : TxtB K mg) {fdraw : Addr} {fddraw : FuncData} (Ddraw : Dn K mg "_law_draw" fdraw fddraw ["_law_pen_here", "_law_many"]) (Gdraw : FnOk P w K mg base CX0 5 fdraw fddraw ["_law_pen_here", "_law_many"] spHi) :
    FnOk P w K mg base CX0 6 f fd ["_law_pen_here", "_law_most"] spAround := by
  refine F.ok scAr (fun vs H Q E h => ?_) (fun cdv A outer s H vs Q E hr h => ?_)
  · obtain ⟨p, c, ns, n, r, most, rfl, _⟩ := h
    rfl
  · obtain ⟨p, c, ns, n, r, most, rfl, S, hn, h0, hb, k⟩ := h
    have hu := hu_of hr
    refine ⟨_, (pss_one (ps_ret (pe_op op_sub (pe_call Gdraw hr rfl Ddraw.m Ddraw.k Ddraw.b .nil pass0 (pa_cons (pv 0) (pa_cons (pe_op op_add (pe_op op_mul pe_int (pv 1)) pe_int) pa_nil))) (pv 1)))), ?_⟩
    refine ⟨_, rfl, _, rfl, _, _, rfl, rfl, .inl ⟨by decide, by decide⟩, _, _, rfl, rfl, ?_⟩
    refine ⟨p, c, ns, n, r, 2 * most + 1, rfl, S, by omega, hb, by omega, fun d n' r' d0 d1 g1 g2 P' => ?_⟩
    refine ⟨_, rfl, _, _, rfl, rfl, ?_⟩
    exact k _ n' r' (by omega) (by omega) g1 (by omega) P'
theorem scGr : FnScope ["_law_pen_here", "_law_most", "_law_some"] ["_law_pen_here", "_law_most"] (defScope sGreat) := ⟨rfl, rfl, rfl, by decide +kernel, rfl, by decide +kernel, by decide +kernel⟩
theorem ok_great {f : Addr} {fd : FuncData} (F : Fun K "_law_great" "_law_great" sGreat f fd) (T : TxtB K mg) {fdraw : Addr} {fddraw : FuncData} (Ddraw : Dn K mg "_law_draw" fdraw fddraw ["_law_pen_here", "_law_many"]) (Gdraw : FnOk P w K mg base CX0 2 fdraw fddraw ["_law_pen_here", "_law_many"] spLo) {faround : Addr} {fdaround : FuncData} (Daround : Dn K mg "_law_around" faround fdaround ["_law_pen_here", "_law_most"]) (Garound : FnOk P w K mg base CX0 6 faround fdaround ["_law_pen_here", "_law_most"] spAround) {fpick : Addr} {fdpick : FuncData} (Dpick : Dn K mg "_law_pick" fpick fdpick ["_law_pen_here", "_law_options"]) (Gpick : FnOk P w K mg base CX0 3 fpick fdpick ["_law_pen_here", "_law_options"] spPick) :
    FnOk P w K mg base CX0 7 f fd ["_law_pen_here", "_law_most"] spGreat := by
  refine F.ok scGr (fun vs H Q E h => ?_) (fun cdv A outer s H vs Q E hr h => ?_)
  · obtain ⟨p, c, ns, n, r, most, rfl, _⟩ := h
    rfl
  · obtain ⟨p, c, ns, n, r, most, rfl, S, hn, h0, hb, k⟩ := h
    have hu := hu_of hr
    refine ⟨_, (pss_cons (ps_set (i := 2) scGr.nd rfl (Or.inl rfl) (pe_lst (pa_cons (pe_call Garound hr rfl Daround.m Daround.k Daround.b .nil pass0 (pa_cons (pv 0) (pa_cons pe_int pa_nil))) (pa_cons (pe_call Garound hr rfl Daround.m Daround.k Daround.b .nil pass0 (pa_cons (pv 0) (pa_cons (pv 1) pa_nil))) (pa_cons (pe_op op_sub (pv 1) (pe_call Gdraw (hr.mono (by decide)) rfl Ddraw.m Ddraw.k Ddraw.b .nil pass0 (pa_cons (pv 0) (pa_cons pe_int pa_nil)))) (pa_cons (pe_op op_sub (pe_call Gdraw (hr.mono (by decide)) rfl Ddraw.m Ddraw.k Ddraw.b .nil pass0 (pa_cons (pv 0) (pa_cons pe_int pa_nil))) (pv 1)) pa_nil))))))
 (pss_one (ps_ret (pe_callB (call_max2 rfl) (by rfl) T.max (by decide +kernel) (pa_cons (pe_op op_sub pe_int (pv 1)) (pa_cons (pe_callB (call_min2 rfl) (by rfl) T.min (by decide +kernel) (pa_cons (pv 1) (pa_cons (pe_call Gpick (hr.mono (by decide)) rfl Dpick.m Dpick.k Dpick.b .nil pass0 (pa_cons (pv 0) (pa_cons (pv 2) pa_nil))) pa_nil))) pa_nil)))))), ?_⟩
    refine ⟨_, rfl, p, c, ns, n, r, 9, rfl, S, by omega, by decide, by decide, fun k1 n1 r1 a1 a2 a3 a4 P1 => ?_⟩
    refine ⟨_, rfl, _, rfl, p, c, ns, n1, r1, most, rfl, P1, by omega, h0, hb, fun k2 n2 r2 b1 b2 b3 b4 P2 => ?_⟩
    rw [upd_upd] at P2 ⊢
    refine ⟨_, rfl, _, rfl, p, c, ns, n2, r2, 4, rfl, P2, by decide, by decide, by omega, fun k3 n3 r3 c1 c2 c3 c4 P3 => ?_⟩
    rw [upd_upd] at P3 ⊢
    refine ⟨_, _, rfl, rfl, _, rfl, p, c, ns, n3, r3, 4, rfl, P3, by decide, by decide, by omega, fun k4 n4 r4 d1 d2 d3 d4 P4 => ?_⟩
    rw [upd_upd] at P4 ⊢
    refine ⟨_, rfl, _, _, rfl, rfl, by show 4 ≤ sizeLine; decide, fun l hl => ?_⟩
    have P5 := P4.grow (same_new (o := .lst [.int k1, .int k2, .int (most - k3), .int (k4 - most)]) hl)
    refine ⟨_, rfl, _, _, rfl, rfl, _, rfl, _, rfl, _, rfl, p, c, ns, n4, r4, l, _, rfl, P5, by omega, upd_same, (by show 0 < 4; decide), (by show 4 ≤ 60000000; decide), fun v n6 r6 hv e1 e2 P6 => ?_⟩
    obtain ⟨z, rfl⟩ : ∃ z : Int, v = .int z := by
      simp only [List.mem_cons, List.not_mem_nil, or_false] at hv
      rcases hv with rfl | rfl | rfl | rfl <;> exact ⟨_, rfl⟩
    refine ⟨_, _, rfl, _, _, rfl, ?_⟩
    refine k _ n6 r6 _ ?_ ?_ (by omega) (by omega) (((Ext.upd _ _ _).trans (Ext.new hl)).trans (Ext.upd _ _ _)) P6
    · split <;> split <;> omega
    · split <;> split <;> omega
end
end Toy
end

section
set_option Elab.async false
set_option linter.all false
set_option maxRecDepth 100000
namespace Toy
open PySem L2 Gd
/-! ### own errors with one field, and one with none -/
abbrev sInitAxis : Stmt := inClass (top 1) 0
abbrev sInitNumber : Stmt := inClass (top 2) 0
abbrev sInitBounds : Stmt := inClass (top 3) 0
abbrev sInitFront : Stmt := inClass (top 4) 0
/-- what the written part says of an error class -/
structure ErrT (K : PySem.W.Frag) (mg : Str → Option Value) (x : Str) (C fI : Addr) (fd : FuncData) (ps : List Str) : Prop where
  ox : OexC K C
  m : mg x = some (.ref C)
  iC : PySem.W.findIn K (.ref C) "__init__" = some (some (.ref fI))
  tI : PySem.W.typeIn K (.ref fI) = some (.type "function")
  b : Binds K fd ps []
structure TxtV (K : PySem.W.Frag) (mg : Str → Option Value) : Prop where
  ve : mg "ValueError" = none
  vV : PySem.W.findCls K (.type "ValueError") (.type "type") "__init__" = some (.val (.builtin "ValueError.__init__"))
abbrev kv : Str := "value"
def spExc (C : Addr) : Sp := fun vs H Q _ => ∃ a v, vs = [.ref a, v] ∧ H a = some (exo a C none) ∧ ∀ dx, H dx = none → dx ≠ a → Q .non (upd (upd H dx (exd dx [(kv, v)])) a (exo a C (some dx)))
def spExc0 (C : Addr) : Sp := fun vs H Q _ => ∃ a, vs = [.ref a] ∧ H a = some (exo a C none) ∧ Q .non H
/-- an error of the class at C, its value v, leaves; all that was tracked stands -/
def Rz (H : Hp) (E : XK) (C : Addr) (v : V) : Prop := ∀ d H', H d = none → Same H H' → H' d = some (.xd [(kv, v)]) → E (.ref C) (some d) H'
def Rz0 (H : Hp) (E : XK) (C : Addr) : Prop := ∀ H', Same H H' → E (.ref C) none H'
theorem rz_made {H : Hp} {E : XK} {C : Addr} {v : V} (h : Rz H E C v) : ∀ a, H a = none → spExc C (.ref a :: ([v] ++ [])) (upd H a (exo a C none))
    (fun u H2 => u = .non ∧ ∃ (d : Addr) (fs : List (Str × V)), H2 a = some (exo a C (some d)) ∧ H2 d = some (exd d fs) ∧ H d = none ∧ E (.ref C) (some d) (upd (del H2 a) d (.xd fs))) (fun _ _ _ => False) := by
  intro a na
  refine ⟨a, v, rfl, upd_same, fun dx hd ne => ⟨rfl, dx, [(kv, v)], upd_same, by rw [upd_ne ne, upd_same], ?_, ?_⟩⟩
  · rw [upd_ne ne] at hd
    exact hd
  · rw [upd_ne ne] at hd
    refine h dx _ hd (fun b o e => ?_) upd_same
    have ba := ne_of_none e na
    have bd := ne_of_none e hd
    rw [upd_ne bd, del_ne ba, upd_ne ba, upd_ne bd, upd_ne ba]
    exact e
theorem rz_made0 {H : Hp} {E : XK} {C : Addr} (h : Rz0 H E C) : ∀ a, H a = none → spExc0 C [.ref a] (upd H a (exo a C none)) (fun v H2 => v = .non ∧ H2 a = some (exo a C none) ∧ E (.ref C) none (del H2 a)) E0 := by
  intro a na
  refine ⟨a, rfl, upd_same, rfl, upd_same, h _ fun b o e => ?_⟩
  have ba := ne_of_none e na
  rw [del_ne ba, upd_ne ba]
  exact e
section
variable {P : Program} {w : World} {K : PySem.W.Frag} {mg : Str → Option Value} {base : Heap} {C f : Addr} {fd : FuncData}
theorem scIA : FnScope ["self", "value"] ["self", "value"] (defScope sInitAxis) := ⟨rfl, rfl, rfl, by decide +kernel, rfl, by decide +kernel, by decide +kernel⟩
theorem scIN : FnScope ["self", "value"] ["self", "value"] (defScope sInitNumber) := ⟨rfl, rfl, rfl, by decide +kernel, rfl, by decide +kernel, by decide +kernel⟩
theorem scIF : FnScope ["self", "value"] ["self", "value"] (defScope sInitFront) := ⟨rfl, rfl, rfl, by decide +kernel, rfl, by decide +kernel, by decide +kernel⟩
theorem scIB : FnScope ["self"] ["self"] (defScope sInitBounds) := ⟨rfl, rfl, rfl, by decide +kernel, rfl, by decide +kernel, by decide +kernel⟩
theorem ok_initA (F : Fun K "__init__" "InvalidAxis.__init__" sInitAxis f fd) (T : TxtV K mg) (O : OexC K C) (nv : PySem.W.findIn K (.ref C) kv = some none) : FnOk P w K mg base CX0 1 f fd ["self", "value"] (spExc C) := by
  refine F.ok scIA (fun vs H Q E h => ?_) (fun cdv A outer s H vs Q E hr h => ?_)
  · obtain ⟨a, v, rfl, _⟩ := h
    rfl
  · obtain ⟨a, v, rfl, ha, k⟩ := h
    refine ⟨_, pss_cons (ps_expr (pe_veinit (by rfl) T.ve T.vV (pa_cons (pv 0) (pa_cons pe_str pa_nil)))) (pss_one (ps_ost (pv 0) (pv 1))), ?_⟩
    exact ⟨_, rfl, a, C, _, rfl, (by decide), O, ha, _, rfl, _, rfl, a, C, rfl, O, nv, .inl ⟨ha, k⟩⟩
theorem ok_initN (F : Fun K "__init__" "InvalidNumber.__init__" sInitNumber f fd) (T : TxtV K mg) (O : OexC K C) (nv : PySem.W.findIn K (.ref C) kv = some none) : FnOk P w K mg base CX0 1 f fd ["self", "value"] (spExc C) := by
  refine F.ok scIN (fun vs H Q E h => ?_) (fun cdv A outer s H vs Q E hr h => ?_)
  · obtain ⟨a, v, rfl, _⟩ := h
    rfl
  · obtain ⟨a, v, rfl, ha, k⟩ := h
    refine ⟨_, pss_cons (ps_expr (pe_veinit (by rfl) T.ve T.vV (pa_cons (pv 0) (pa_cons pe_str pa_nil)))) (pss_one (ps_ost (pv 0) (pv 1))), ?_⟩
    exact ⟨_, rfl, a, C, _, rfl, (by decide), O, ha, _, rfl, _, rfl, a, C, rfl, O, nv, .inl ⟨ha, k⟩⟩
theorem ok_initF (F : Fun K "__init__" "InvalidFront.__init__" sInitFront f fd) (T : TxtV K mg) (O : OexC K C) (nv : PySem.W.findIn K (.ref C) kv = some none) : FnOk P w K mg base CX0 1 f fd ["self", "value"] (spExc C) := by
  refine F.ok scIF (fun vs H Q E h => ?_) (fun cdv A outer s H vs Q E hr h => ?_)
  · obtain ⟨a, v, rfl, _⟩ := h
    rfl
  · obtain ⟨a, v, rfl, ha, k⟩ := h
    refine ⟨_, pss_cons (ps_expr (pe_veinit (by rfl) T.ve T.vV (pa_cons (pv 0) (pa_cons pe_str pa_nil)))) (pss_one (ps_ost (pv 0) (pv 1))), ?_⟩
    exact ⟨_, rfl, a, C, _, rfl, (by decide), O, ha, _, rfl, _, rfl, a, C, rfl, O, nv, .inl ⟨ha, k⟩⟩
theorem ok_initB (F : Fun K "__init__" "OutOfBounds.__init__" sInitBounds f fd) (T : TxtV K mg) (O : OexC K C) : FnOk P w K mg base CX0 1 f fd ["self"] (spExc0 C) := by
  refine F.ok scIB (fun vs H Q E h => ?_) (fun cdv A outer s H vs Q E hr h => ?_)
  · obtain ⟨a, rfl, _⟩ := h
    rfl
  · obtain ⟨a, rfl, ha, k⟩ := h
    refine ⟨_, pss_one (ps_expr (pe_veinit (by rfl) T.ve T.vV (pa_cons (pv 0) (pa_cons pe_str pa_nil)))), ?_⟩
    exact ⟨_, rfl, a, C, _, rfl, (by decide), O, ha, k⟩
end
/-! ### is_integer, is_within -/
abbrev sIsInt : Stmt := top 7
abbrev sWithin : Stmt := top 8
/-- the kinds of values: whether an int, whether a bool, whether a text -/
structure Kd (T : String) (i b s : Bool) : Prop where
  i : kitB T "int" = some i
  b : kitB T "bool" = some b
  s : kitB T "str" = some s
theorem kd_none : Kd "NoneType" false false false := ⟨by decide +kernel, by decide +kernel, by decide +kernel⟩
theorem kd_bool : Kd "bool" true true false := ⟨by decide +kernel, by decide +kernel, by decide +kernel⟩
theorem kd_int : Kd "int" true false false := ⟨by decide +kernel, by decide +kernel, by decide +kernel⟩
theorem kd_str : Kd "str" false false true := ⟨by decide +kernel, by decide +kernel, by decide +kernel⟩
theorem kd_list : Kd "list" false false false := ⟨by decide +kernel, by decide +kernel, by decide +kernel⟩
theorem kd_tuple : Kd "tuple" false false false := ⟨by decide +kernel, by decide +kernel, by decide +kernel⟩
theorem kd_dict : Kd "dict" false false false := ⟨by decide +kernel, by decide +kernel, by decide +kernel⟩
def spIsInt (K : PySem.W.Frag) : Sp := fun vs H Q _ => ∃ v T i b s, vs = [v] ∧ TyX K H v (.type T) ∧ Kd T i b s ∧ Q (.bl (i && !b)) H
def spWithin : Sp := fun vs H Q _ => ∃ n : Int, vs = [.int n] ∧ Q (.bl (decide (-1000000000000000000000000000000 ≤ n ∧ n ≤ 1000000000000000000000000000000))) H
structure TxtI (K : PySem.W.Frag) (mg : Str → Option Value) : Prop where
  isi : mg "isinstance" = none
  int : mg "int" = none
  bool : mg "bool" = none
  str : mg "str" = none
  lim : ∃ t, mg "LIMIT" = some (.int 1000000000000000000000000000000 t)
section
variable {P : Program} {w : World} {K : PySem.W.Frag} {mg : Str → Option Value} {base : Heap} {f : Addr} {fd : FuncData}
theorem scII : FnScope ["value"] ["value"] (defScope sIsInt) := ⟨rfl, rfl, rfl, by decide +kernel, rfl, by decide +kernel, by decide +kernel⟩
theorem ok_isInt (F : Fun K "is_integer" "is_integer" sIsInt f fd) (T : TxtI K mg) : FnOk P w K mg base CX0 1 f fd ["value"] (spIsInt K) := by
  refine F.ok scII (fun vs H Q E h => ?_) (fun cdv A outer s H vs Q E hr h => ?_)
  · obtain ⟨v, t, i, b, s, rfl, _⟩ := h
    rfl
  · obtain ⟨v, t, i, b, s, rfl, ty, kd, k⟩ := h
    refine ⟨_, pss_one (ps_ret (pe_and (pe_callB call_isi (by rfl) T.isi (by decide +kernel) (pa_cons (pv 0) (pa_cons (pe_bltn (by rfl) T.int (by decide +kernel) (v := .ty "int") rfl) pa_nil)))
      (pe_one (pe_not (pe_callB call_isi (by rfl) T.isi (by decide +kernel) (pa_cons (pv 0) (pa_cons (pe_bltn (by rfl) T.bool (by decide +kernel) (v := .ty "bool") rfl) pa_nil))))))), ?_⟩
    refine ⟨_, rfl, v, _, _, _, i, rfl, .ty "int", ty, kit_ty kd.i, i, rfl, ?_⟩
    cases i with
    | false => exact iteF k
    | true => exact iteT ⟨_, rfl, v, _, _, _, b, rfl, .ty "bool", ty, kit_ty kd.b, b, rfl, k⟩
theorem scWi : FnScope ["number"] ["number"] (defScope sWithin) := ⟨rfl, rfl, rfl, by decide +kernel, rfl, by decide +kernel, by decide +kernel⟩
theorem ok_within (F : Fun K "is_within" "is_within" sWithin f fd) (T : TxtI K mg) : FnOk P w K mg base CX0 1 f fd ["number"] spWithin := by
  refine F.ok scWi (fun vs H Q E h => ?_) (fun cdv A outer s H vs Q E hr h => ?_)
  · obtain ⟨n, rfl, _⟩ := h
    rfl
  · obtain ⟨n, rfl, k⟩ := h
    obtain ⟨t, hL⟩ := T.lim
    refine ⟨_, pss_one (ps_ret (pe_chain op_le op_le (pe_un un_neg (pe_glob (v := .int 1000000000000000000000000000000) (by rfl) hL ⟨_, rfl⟩)) (pv 0) (pe_glob (v := .int 1000000000000000000000000000000) (by rfl) hL ⟨_, rfl⟩))), ?_⟩
    refine ⟨_, rfl, _, rfl, _, _, rfl, rfl, _, rfl, ?_⟩
    by_cases c1 : (-1000000000000000000000000000000 : Int) ≤ n
    · rw [if_pos (decide_eq_true c1)]
      refine ⟨_, _, rfl, rfl, ?_⟩
      rw [show decide (-1000000000000000000000000000000 ≤ n ∧ n ≤ 1000000000000000000000000000000) = decide (n ≤ 1000000000000000000000000000000) from by simp [c1]] at k
      exact k
    · rw [if_neg (by simpa using c1)]
      rw [show decide (-1000000000000000000000000000000 ≤ n ∧ n ≤ 1000000000000000000000000000000) = false from by simp [c1]] at k
      exact k
end
end Toy
end

section
set_option Elab.async false
set_option linter.all false
set_option maxRecDepth 100000
namespace Toy
open PySem L2 Gd
/-! ### kinds of drawn values -/
def isI : V → Bool
  | .int _ => true
  | _ => false
theorem Th.kd {K : PySem.W.Frag} {H : Hp} {v : V} {d : PyData} (t : Th K H v d) : ∃ T i b s, TyX K H v (.type T) ∧ Kd T i b s ∧ (i && !b) = isI v := by
  cases t with
  | dp h nd =>
    cases h with
    | non => exact ⟨_, _, _, _, .base .non, kd_none, rfl⟩
    | bl b => exact ⟨_, _, _, _, .base (.bl b), kd_bool, rfl⟩
    | int i => exact ⟨_, _, _, _, .base (.int i), kd_int, rfl⟩
    | str x => exact ⟨_, _, _, _, .base (.str x), kd_str, rfl⟩
    | lst h1 h2 =>
      rcases h1 with (h1 | ⟨o, h1⟩) | ⟨o, _, _, h1, h3, _⟩
      · exact ⟨_, _, _, _, .base (.lst h1), kd_list, rfl⟩
      · exact ⟨_, _, _, _, .base (.frz h1), kd_list, rfl⟩
      · exact ⟨_, _, _, _, .kList h1 h3, kd_list, rfl⟩
    | tup h1 h2 =>
      rcases h1 with (h1 | ⟨o, h1⟩) | ⟨o, _, _, h1, h3, _⟩
      · exact ⟨_, _, _, _, .base (.tup h1), kd_tuple, rfl⟩
      · exact ⟨_, _, _, _, .fTuple h1, kd_tuple, rfl⟩
      · exact ⟨_, _, _, _, .kTuple h1 h3, kd_tuple, rfl⟩
  | dk e => exact ⟨_, _, _, _, .base (.dK e), kd_dict, rfl⟩
theorem isI_int {v : V} (h : isI v = true) : ∃ n, v = .int n := by
  cases v <;> first | exact ⟨_, rfl⟩ | cases h
abbrev BIG : Int := 1000000000000000000000000000000
def within (n : Int) : Bool := decide (-BIG ≤ n ∧ n ≤ BIG)
/-! ### the class Plane -/
abbrev sPInit : Stmt := inClass (top 14) 0
abbrev sPAxis : Stmt := inClass (top 14) 1
abbrev sPAt : Stmt := inClass (top 14) 2
abbrev sPFront : Stmt := inClass (top 14) 3
abbrev sPDirs : Stmt := inClass (top 14) 4
abbrev sPEq : Stmt := inClass (top 14) 5
abbrev sPNeg : Stmt := inClass (top 14) 6
abbrev sPAdd : Stmt := inClass (top 14) 7
abbrev sPPoint : Stmt := inClass (top 14) 8
abbrev fA : Str := "_axis"
abbrev fT : Str := "_at"
abbrev fF : Str := "_front"
theorem fne1 : ¬ (fA = fT) := by decide +kernel
theorem fne2 : ¬ (fA = fF) := by decide +kernel
theorem fne3 : ¬ (fT = fF) := by decide +kernel
def flds (a : Str) (t f : Int) : List (Str × V) := putF fF (.int f) (putF fT (.int t) (putF fA (.str a) []))
theorem flds_a (a : Str) (t f : Int) : (flds a t f).lookup fA = some (.str a) := by
  unfold flds
  rw [lookup_putF, if_neg fne2, lookup_putF, if_neg fne1, lookup_putF, if_pos rfl]
theorem flds_t (a : Str) (t f : Int) : (flds a t f).lookup fT = some (.int t) := by
  unfold flds
  rw [lookup_putF, if_neg fne3, lookup_putF, if_pos rfl]
theorem flds_f (a : Str) (t f : Int) : (flds a t f).lookup fF = some (.int f) := by
  unfold flds
  rw [lookup_putF, if_pos rfl]
theorem flds_no {m : Str} (h1 : ¬ m = fA) (h2 : ¬ m = fT) (h3 : ¬ m = fF) (a : Str) (t f : Int) : (flds a t f).lookup m = none := by
  unfold flds
  rw [lookup_putF, if_neg h3, lookup_putF, if_neg h2, lookup_putF, if_neg h1]
  all_goals rfl
/-- a plane stands at p -/
def PlAt (C : Addr) (H : Hp) (p : Addr) (a : Str) (t f : Int) : Prop := ∃ dx, H p = some (.ins C dx (flds a t f))
abbrev axX : V := .str "x"
abbrev axY : V := .str "y"
abbrev axZ : V := .str "z"
def axV (v : V) : Option Int := if v = axX then some 0 else if v = axY then some 1 else if v = axZ then some 2 else none
/-- the place of an axis, or the error -/
def spAxis (K : PySem.W.Frag) (CA : Addr) : Sp := fun vs H Q E => ∃ v d, vs = [v] ∧ Th K H v d ∧ (∀ i, axV v = some i → ∀ H', Same H H' → Q (.int i) H') ∧ (axV v = none → Rz H E CA v)
theorem axV_str {v : V} {i : Int} (h : axV v = some i) : ∃ a, v = .str a := by
  unfold axV at h
  split at h
  · exact ⟨_, by assumption⟩
  · split at h
    · exact ⟨_, by assumption⟩
    · split at h
      · exact ⟨_, by assumption⟩
      · cases h
def isFront (v : V) : Bool := decide (v = .int 1) || decide (v = .int (-1))
/-- a plane is made, or the first error leaves -/
def spPInit (K : PySem.W.Frag) (C CA CN CF : Addr) : Sp := fun vs H Q E => ∃ (p dx : Addr) (a t f : V) (da dt df : PyData), vs = [.ref p, a, t, f] ∧ H p = some (.ins C dx []) ∧ Th K H a da ∧ Th K H t dt ∧ Th K H f df ∧
  (axV a = none → Rz H E CA a) ∧
  ((axV a).isSome = true → (∀ n, t = .int n → within n = false) → Rz H E CN t) ∧
  (∀ n, (axV a).isSome = true → t = .int n → within n = true → isFront f = false → Rz H E CF f) ∧
  ∀ (x : Str) (n m : Int) (H' : Hp), a = .str x → t = .int n → within n = true → f = .int m → (m = 1 ∨ m = -1) → (axV a).isSome = true → PlAt C H' p x n m → (∀ b o, b ≠ p → H b = some o → H' b = some o) → Q .non H'
theorem same_tup {K : PySem.W.Frag} {H H' : Hp} {a : Addr} {xs : List V} (e : Same H H') (h : SqT K H a xs) : SqT K H' a xs := by
  rcases h with (h | ⟨o, h⟩) | h
  · exact .inl (.inl (e _ _ h))
  · exact .inl (.inr ⟨o, e _ _ h⟩)
  · exact .inr h
mutual
theorem dp_grow {K : PySem.W.Frag} {H H' : Hp} (e : Same H H') {v : V} {d : PyData} (h : Dp K H v d) : Dp K H' v d :=
  match h with
  | .non => .non
  | .bl b => .bl b
  | .int i => .int i
  | .str x => .str x
  | .lst h1 h2 => .lst (e.seq h1) (dps_grow e h2)
  | .tup h1 h2 => .tup (same_tup e h1) (dps_grow e h2)
theorem dps_grow {K : PySem.W.Frag} {H H' : Hp} (e : Same H H') {vs : List V} {ds : List PyData} (h : DpAll K H vs ds) : DpAll K H' vs ds :=
  match h with
  | .nil => .nil
  | .cons h1 h2 => .cons (dp_grow e h1) (dps_grow e h2)
end
theorem Th.grow {K : PySem.W.Frag} {H H' : Hp} (e : Same H H') {v : V} {d : PyData} (t : Th K H v d) : Th K H' v d := by
  cases t with
  | dp h nd => exact .dp (dp_grow e h) nd
  | dk h => exact .dk (e _ _ h)
section
variable {P : Program} {w : World} {K : PySem.W.Frag} {mg : Str → Option Value} {base : Heap} {f C CA CN CF : Addr} {fd : FuncData}
/-- what the written part says of the class -/
structure PlT (K : PySem.W.Frag) (C : Addr) : Prop where
  cl : Cls K C
  nA : NoAttr K C fA
  nT : NoAttr K C fT
  nF : NoAttr K C fF
/-- of the errors that a plane raises -/
structure ErrsT (P : Program) (w : World) (K : PySem.W.Frag) (mg : Str → Option Value) (base : Heap) (x : Str) (C : Addr) : Prop where
  ex : ∃ fI fd, ErrT K mg x C fI fd ["self", "value"] ∧ FnOk P w K mg base CX0 1 fI fd ["self", "value"] (spExc C)
theorem Rz.grow {H H1 : Hp} {E : XK} {C : Addr} {v : V} (e : Same H H1) (h : Rz H E C v) : Rz H1 E C v := fun d H' n s => h d H' (e.free n) (e.trans s)
theorem Rz0.grow {H H1 : Hp} {E : XK} {C : Addr} (e : Same H H1) (h : Rz0 H E C) : Rz0 H1 E C := fun H' s => h H' (e.trans s)
theorem front_in {m : Int} : inV (.int m) [.int 1, .int (-1)] = isFront (.int m) := by
  unfold isFront
  have e1 : decide (V.int m = V.int 1) = (m == 1) := dec_int
  have e2 : decide (V.int m = V.int (-1)) = (m == -1) := dec_int
  rw [e1, e2]
  simp [inV, eqV]
  rw [show ((1 : Int) == m) = (m == 1) from BEq.comm, show ((-1 : Int) == m) = (m == -1) from BEq.comm]
theorem front_of {m : Int} (h : isFront (.int m) = true) : m = 1 ∨ m = -1 := by
  unfold isFront at h
  have e1 : decide (V.int m = V.int 1) = (m == 1) := dec_int
  have e2 : decide (V.int m = V.int (-1)) = (m == -1) := dec_int
  rw [e1, e2] at h
  simpa using h
theorem isI_front {v : V} (h : isI v = false) : isFront v = false := by
  cases v <;> first | rfl | cases h
theorem scPI : FnScope ["self", "axis", "at", "front"] ["self", "axis", "at", "front"] (defScope sPInit) := ⟨rfl, rfl, rfl, by decide +kernel, rfl, by decide +kernel, by decide +kernel⟩
theorem ok_pinit {fI fW fX : Addr} {fdI fdW fdX : FuncData} (F : FunD K "__init__" "Plane.__init__" (defArgs sPInit) (defBody sPInit) (defScope sPInit) [.int 1] [] f fd) (T : PlT K C)
    (DI : Dn K mg "is_integer" fI fdI ["value"]) (GI : FnOk P w K mg base CX0 1 fI fdI ["value"] (spIsInt K))
    (DW : Dn K mg "is_within" fW fdW ["number"]) (GW : FnOk P w K mg base CX0 1 fW fdW ["number"] spWithin)
    (DX : Dn K mg "axis_index" fX fdX ["axis"]) (GX : FnOk P w K mg base (L2.CX P w) 3 fX fdX ["axis"] (spAxis K CA))
    (EN : ErrsT P w K mg base "InvalidNumber" CN) (EF : ErrsT P w K mg base "InvalidFront" CF) :
    FnOk P w K mg base (L2.CX P w) 4 f fd ["self", "axis", "at", "front"] (spPInit K C CA CN CF) := by
  obtain ⟨fN, fdN, TN, GN⟩ := EN.ex
  obtain ⟨fR, fdR, TR, GR⟩ := EF.ex
  refine F.ok scPI (fun vs H Q E h => ?_) (fun cdv A outer s H vs Q E hr h => ?_)
  · obtain ⟨p, dx, a, t, fv, da, dt, df, rfl, _⟩ := h
    rfl
  · obtain ⟨p, dx, a, t, fv, da, dt, df, rfl, hp, ta, tt, tf, eA, eN, eF, k⟩ := h
    have hr1 : Room 1 _ := hr.mono (by decide)
    have hr2 : Room (1 + 1) _ := hr.mono (by decide)
    refine ⟨_, pss_cons (ps_expr (pe_call GX hr (by rfl) DX.m DX.k DX.b .nil (passes_call (E := E) (W := fun cls d _ H => E cls d H) (takes_of rfl rfl rfl rfl) (fun _ _ _ _ h => h)) (pa_cons (pv 1) pa_nil)))
      (pss_cons (ps_if (PW.pt (pw_or (pt_not (pt_val (pe_call GI hr1 (by rfl) DI.m DI.k DI.b .nil pass0 (pa_cons (pv 2) pa_nil)))) (pw_or1 (pt_not (pt_val (pe_call GW hr1 (by rfl) DW.m DW.k DW.b .nil pass0 (pa_cons (pv 2) pa_nil)))))))
        (pss_one (ps_raise rfl (takes_of rfl rfl rfl rfl) (pmk_oex TN.ox TN.iC TN.tI GN hr2 TN.b .nil pass0 (by rfl) TN.m (pa_cons (pv 2) pa_nil)))) pss_nil)
      (pss_cons (ps_if (PW.pt (pw_or (pt_not (pt_val (pe_call GI hr1 (by rfl) DI.m DI.k DI.b .nil pass0 (pa_cons (pv 3) pa_nil)))) (pw_or1 (pt_cmpR op_notIn_seq (pv 3) (pe_tup (pa_cons pe_int (pa_cons (pe_un un_neg pe_int) pa_nil))) (by rfl)))))
        (pss_one (ps_raise rfl (takes_of rfl rfl rfl rfl) (pmk_oex TR.ox TR.iC TR.tI GR hr2 TR.b .nil pass0 (by rfl) TR.m (pa_cons (pv 3) pa_nil)))) pss_nil)
      (pss_cons (ps_fld (pv 0) (pv 1) rfl) (pss_cons (ps_fld (pv 0) (pv 2) rfl) (pss_one (ps_fld (pv 0) (pv 3) rfl)))))), ?_⟩
    refine ⟨_, rfl, a, da, rfl, ta, fun i hi H1 s1 => ?_, eA⟩
    have ax : (axV a).isSome = true := by
      rw [hi] <;> rfl
    have hp1 := s1 _ _ hp
    obtain ⟨T2, i2, b2, z2, ty2, kd2, e2⟩ := Th.kd (Th.grow s1 tt)
    -- at
    refine ⟨_, rfl, t, T2, i2, b2, z2, rfl, ty2, kd2, _, rfl, ?_⟩
    rw [e2]
    cases hI : isI t with
    | false =>
      refine iteT (iteT ⟨_, rfl, (by show 1 ≤ 1000; decide), rz_made (Rz.grow s1 (eN ax fun n z => ?_))⟩)
      rw [z] at hI
      cases hI
    | true =>
      obtain ⟨n, rfl⟩ := isI_int hI
      refine iteF ⟨_, rfl, n, rfl, _, rfl, ?_⟩
      show (if (!(within n)) = true then _ else _)
      cases hW : within n with
      | false =>
        refine iteT ⟨_, rfl, (by show 1 ≤ 1000; decide), rz_made (Rz.grow s1 (eN ax fun n' z => ?_))⟩
        cases z
        exact hW
      | true =>
        refine iteF ?_
        -- front
        obtain ⟨T3, i3, b3, z3, ty3, kd3, e3⟩ := Th.kd (Th.grow s1 tf)
        refine ⟨_, rfl, fv, T3, i3, b3, z3, rfl, ty3, kd3, _, rfl, ?_⟩
        rw [e3]
        cases hJ : isI fv with
        | false => exact iteT (iteT ⟨_, rfl, (by show 1 ≤ 1000; decide), rz_made (Rz.grow s1 (eF n ax rfl hW (isI_front hJ)))⟩)
        | true =>
          obtain ⟨m, rfl⟩ := isI_int hJ
          refine iteF ⟨_, rfl, _, rfl, by show 2 ≤ sizeLine; decide, fun tp htp => ⟨tp, _, rfl, .inr (SqT.of upd_same), rfl, rfl, _, rfl, ?_⟩⟩
          have s2 : Same H (upd H1 tp (.tup [.int 1, .int (-1)])) := s1.trans (same_new htp)
          rw [show inV (V.int m) [V.int 1, V.int (-1)] = isFront (.int m) from front_in]
          cases hF : isFront (.int m) with
          | false => exact iteT ⟨_, rfl, (by show 1 ≤ 1000; decide), rz_made (Rz.grow s2 (eF n ax rfl hW hF))⟩
          | true =>
            refine iteF ?_
            obtain ⟨x, rfl⟩ := axV_str hi
            have hp2 := s2 _ _ hp
            refine ⟨_, rfl, _, rfl, p, C, dx, _, rfl, hp2, T.cl, T.nA, (by show 0 < 1000; decide), ?_⟩
            refine ⟨_, rfl, _, rfl, p, C, dx, _, rfl, upd_same, T.cl, T.nT, (by show (putF fA _ []).length < 1000; exact Nat.lt_of_le_of_lt (length_putF _ _ _) (by decide)), ?_⟩
            refine ⟨_, rfl, _, rfl, p, C, dx, _, rfl, upd_same, T.cl, T.nF, Nat.lt_of_le_of_lt (length_putF _ _ _) (Nat.lt_of_le_of_lt (Nat.succ_le_succ (length_putF _ _ _)) (by decide)), ?_⟩
            refine k x n m _ rfl rfl hW rfl (front_of hF) ax ⟨dx, upd_same⟩ fun b o nb e => ?_
            rw [upd_ne nb, upd_ne nb, upd_ne nb]
            exact s2 b o e
end
end Toy
end

section
set_option Elab.async false
set_option linter.all false
set_option maxRecDepth 100000
namespace Toy
open PySem L2 Gd
/-- what isinstance(.., Plane) asks of the class -/
structure InsT (K : PySem.W.Frag) (mg : Str → Option Value) (C : Addr) : Prop where
  m : mg "Plane" = some (.ref C)
  ha : PySem.W.findIn K (.ref C) "__class__" = some (some (.builtin "object.__class__"))
  hn : PySem.W.specialIn K (.builtin "object.__class__") "__get__" = some (some (.builtin "getset_descriptor.__get__"))
  ht : PySem.W.takesIn K (.builtin "object.__class__") = some true
  hm : PySem.W.mroIn K C (.type "object") = some true
  own : PySem.W.kitOne K (.ref C) (.ref C) = some true
def plEq (a b : Str) (t u f g : Int) : Bool := decide (a = b) && (decide (t = u) && decide (f = g))
def spPEq (K : PySem.W.Frag) (C : Addr) : Sp := fun vs H Q _ => ∃ (p : Addr) (y : V) (a : Str) (t f : Int), vs = [.ref p, y] ∧ PlAt C H p a t f ∧
  ((∃ q b u g, y = .ref q ∧ PlAt C H q b u g ∧ Q (.bl (plEq a b t u f g)) H) ∨ (∃ T, TyX K H y (.type T) ∧ PySem.W.kitOne K (.type T) (.ref C) = some false ∧ Q (.bl false) H))
theorem dstr (a b : Str) : decide (V.str a = V.str b) = decide (a = b) := by
  by_cases h : a = b
  · subst h
    simp
  · rw [decide_eq_false h]
    exact decide_eq_false fun z => h (by cases z; rfl)
theorem dint (a b : Int) : decide (V.int a = V.int b) = decide (a = b) := by
  by_cases h : a = b
  · subst h
    simp
  · rw [decide_eq_false h]
    exact decide_eq_false fun z => h (by cases z; rfl)
section
variable {P : Program} {w : World} {K : PySem.W.Frag} {mg : Str → Option Value} {base : Heap} {f C CA CN CF CB : Addr} {fd : FuncData}
theorem scPE : FnScope ["self", "other"] ["self", "other"] (defScope sPEq) := ⟨rfl, rfl, rfl, by decide +kernel, rfl, by decide +kernel, by decide +kernel⟩
theorem ok_peq (F : Fun K "__eq__" "Plane.__eq__" sPEq f fd) (T : PlT K C) (TI : TxtI K mg) (N : InsT K mg C) : FnOk P w K mg base CX0 1 f fd ["self", "other"] (spPEq K C) := by
  refine F.ok scPE (fun vs H Q E h => ?_) (fun cdv A outer s H vs Q E hr h => ?_)
  · obtain ⟨p, y, a, t, f, rfl, _⟩ := h
    rfl
  · obtain ⟨p, y, a, t, f, rfl, ⟨dx, hp⟩, k⟩ := h
    refine ⟨_, pss_one (ps_ret (pe_and (pe_callB call_isi (by rfl) TI.isi (by decide +kernel) (pa_cons (pv 1) (pa_cons (pe_glob (v := .ref C) (by rfl) N.m rfl) pa_nil)))
      (pe_and (pe_cmpR op_eq (pe_fld (pv 0) rfl) (pe_fld (pv 1) rfl) (nomark _)) (pe_and (pe_cmpR op_eq (pe_fld (pv 0) rfl) (pe_fld (pv 1) rfl) (nomark _))
        (pe_one (pe_cmpR op_eq (pe_fld (pv 0) rfl) (pe_fld (pv 1) rfl) (nomark _))))))), ?_⟩
    rcases k with ⟨q, b, u, g, rfl, ⟨dq, hq⟩, k⟩ | ⟨S, ty, no, k⟩
    · refine ⟨_, rfl, .ref q, _, .ref C, .ref C, true, rfl, .own C, .base (.ins hq T.cl N.ha N.hn N.ht N.hm), N.own, _, rfl, iteT ?_⟩
      refine ⟨_, rfl, p, C, dx, _, _, rfl, hp, T.cl, T.nA, flds_a _ _ _, _, rfl, q, C, dq, _, _, rfl, hq, T.cl, T.nA, flds_a _ _ _, rfl, _, rfl, ?_⟩
      unfold plEq at k
      rw [dstr]
      cases h1 : decide (a = b) with
      | false =>
        rw [h1] at k
        exact iteF k
      | true =>
        rw [h1] at k
        refine iteT ?_
        refine ⟨_, rfl, p, C, dx, _, _, rfl, hp, T.cl, T.nT, flds_t _ _ _, _, rfl, q, C, dq, _, _, rfl, hq, T.cl, T.nT, flds_t _ _ _, rfl, _, rfl, ?_⟩
        rw [dint]
        cases h2 : decide (t = u) with
        | false =>
          rw [h2] at k
          exact iteF k
        | true =>
          rw [h2] at k
          refine iteT ?_
          refine ⟨_, rfl, p, C, dx, _, _, rfl, hp, T.cl, T.nF, flds_f _ _ _, _, rfl, q, C, dq, _, _, rfl, hq, T.cl, T.nF, flds_f _ _ _, rfl, ?_⟩
          rw [dint]
          exact k
    · exact ⟨_, rfl, y, _, _, .ref C, false, rfl, .own C, ty, no, _, rfl, iteF k⟩
/-! ### -p, p + n -/
/-- what calling the class asks -/
structure MkT (K : PySem.W.Frag) (C fI : Addr) (fdI : FuncData) : Prop where
  made : Mk K C fI
  b0 : Binds K fdI ["self", "axis", "at", "front"] []
theorem passE0 {X : Cx} : Passes (L2.CX X.prog X.w) X E0 := passes_call (W := fun _ _ _ _ => False) LamX.takes0 fun _ _ _ _ h => h
/-- from a plane's numbers: the init of the new one runs through -/
theorem init_ok {Q : VK} {E : XK} {H : Hp} {p dx : Addr} {a : Str} {n m : Int} (hp : H p = some (.ins C dx [])) (ax : (axV (.str a)).isSome = true) (hn : within n = true) (hm : m = 1 ∨ m = -1)
    (k : ∀ H', PlAt C H' p a n m → (∀ b o, b ≠ p → H b = some o → H' b = some o) → Q .non H') : spPInit K C CA CN CF [.ref p, .str a, .int n, .int m] H Q E := by
  refine ⟨p, dx, _, _, _, .str a, .int n, .int m, rfl, hp, .dp (.str a) rfl, .dp (.int n) rfl, .dp (.int m) rfl, fun z => ?_, fun _ z => ?_, fun n' _ e _ z => ?_, fun x n' m' H' e1 e2 _ e4 _ _ pl st => ?_⟩
  · rw [z] at ax
    cases ax
  · have := z n rfl
    rw [hn] at this
    cases this
  · rcases hm with rfl | rfl <;> exact absurd z (by decide +kernel)
  · cases e1
    cases e2
    cases e4
    exact k H' pl st
def spPNeg (C : Addr) : Sp := fun vs H Q _ => ∃ (p : Addr) (a : Str) (t f : Int), vs = [.ref p] ∧ PlAt C H p a t f ∧ (axV (.str a)).isSome = true ∧ within t = true ∧ (f = 1 ∨ f = -1) ∧
  ∀ q H', H q = none → Same H H' → PlAt C H' q a t (-f) → Q (.ref q) H'
theorem scPN : FnScope ["self"] ["self"] (defScope sPNeg) := ⟨rfl, rfl, rfl, by decide +kernel, rfl, by decide +kernel, by decide +kernel⟩
theorem ok_pneg {fI : Addr} {fdI : FuncData} (F : Fun K "__neg__" "Plane.__neg__" sPNeg f fd) (T : PlT K C) (N : InsT K mg C) (M : MkT K C fI fdI)
    (GI : FnOk P w K mg base (L2.CX P w) 4 fI fdI ["self", "axis", "at", "front"] (spPInit K C CA CN CF)) : FnOk P w K mg base CX0 6 f fd ["self"] (spPNeg C) := by
  refine F.ok scPN (fun vs H Q E h => ?_) (fun cdv A outer s H vs Q E hr h => ?_)
  · obtain ⟨p, a, t, f, rfl, _⟩ := h
    rfl
  · obtain ⟨p, a, t, fr, rfl, ⟨dx, hp⟩, ax, hw, hf, k⟩ := h
    refine ⟨_, pss_one (ps_ret (pe_make M.made GI hr (by rfl) N.m M.b0 .nil passE0 (pa_cons (pe_fld (pv 0) rfl) (pa_cons (pe_fld (pv 0) rfl) (pa_cons (pe_un un_neg (pe_fld (pv 0) rfl)) pa_nil))))), ?_⟩
    refine ⟨_, rfl, p, C, dx, _, _, rfl, hp, T.cl, T.nA, flds_a _ _ _, _, rfl, p, C, dx, _, _, rfl, hp, T.cl, T.nT, flds_t _ _ _, _, rfl, p, C, dx, _, _, rfl, hp, T.cl, T.nF, flds_f _ _ _, _, rfl, ?_⟩
    intro x dx2 nx nd ne
    have s0 : Same H (upd (upd H dx2 (.own x)) x (.ins C dx2 [])) := fun b o e => by
      rw [upd_ne (ne_of_none e nx), upd_ne (ne_of_none e nd)]
      exact e
    refine init_ok upd_same ax hw (by omega) fun H' pl st => ⟨rfl, k x H' nx (fun b o e => ?_) pl⟩
    exact st b o (ne_of_none e nx) (s0 b o e)
def spPAdd (K : PySem.W.Frag) (C CN CB : Addr) : Sp := fun vs H Q E => ∃ (p : Addr) (a : Str) (t f : Int) (y : V) (d : PyData), vs = [.ref p, y] ∧ PlAt C H p a t f ∧ (axV (.str a)).isSome = true ∧ (f = 1 ∨ f = -1) ∧ Th K H y d ∧
  (isI y = false → Rz H E CN y) ∧ (∀ n, y = .int n → within (t + f * n) = false → Rz0 H E CB) ∧
  ∀ n q H', y = .int n → within (t + f * n) = true → H q = none → Same H H' → PlAt C H' q a (t + f * n) f → Q (.ref q) H'
theorem scPA : FnScope ["self", "number", "at"] ["self", "number"] (defScope sPAdd) := ⟨rfl, rfl, rfl, by decide +kernel, rfl, by decide +kernel, by decide +kernel⟩
theorem ok_padd {fI fJ fW : Addr} {fdI fdJ fdW : FuncData} (F : Fun K "__add__" "Plane.__add__" sPAdd f fd) (T : PlT K C) (N : InsT K mg C) (M : MkT K C fI fdI)
    (GP : FnOk P w K mg base (L2.CX P w) 4 fI fdI ["self", "axis", "at", "front"] (spPInit K C CA CN CF))
    (DI : Dn K mg "is_integer" fJ fdJ ["value"]) (GI : FnOk P w K mg base CX0 1 fJ fdJ ["value"] (spIsInt K))
    (DW : Dn K mg "is_within" fW fdW ["number"]) (GW : FnOk P w K mg base CX0 1 fW fdW ["number"] spWithin)
    (EN : ErrsT P w K mg base "InvalidNumber" CN) {fB : Addr} {fdB : FuncData} (TB : ErrT K mg "OutOfBounds" CB fB fdB ["self"]) (GB : FnOk P w K mg base CX0 1 fB fdB ["self"] (spExc0 CB)) :
    FnOk P w K mg base (L2.CX P w) 6 f fd ["self", "number"] (spPAdd K C CN CB) := by
  obtain ⟨fN, fdN, TN, GN⟩ := EN.ex
  refine F.okX scPA (fun vs H Q E h => ?_) (fun cdv A outer s H vs Q E hr h => ?_)
  · obtain ⟨p, a, t, f, y, d, rfl, _⟩ := h
    rfl
  · obtain ⟨p, a, t, fr, y, d, rfl, ⟨dx, hp⟩, ax, hf, ty, eN, eB, k⟩ := h
    have hr1 : Room 1 _ := hr.mono (by decide)
    have hr2 : Room (1 + 1) _ := hr.mono (by decide)
    refine ⟨_, pss_cons (ps_if (pt_not (pt_val (pe_call GI hr1 (by rfl) DI.m DI.k DI.b .nil pass0 (pa_cons (pv 1) pa_nil))))
        (pss_one (ps_raise rfl (takes_of rfl rfl rfl rfl) (pmk_oex TN.ox TN.iC TN.tI GN hr2 TN.b .nil pass0 (by rfl) TN.m (pa_cons (pv 1) pa_nil)))) pss_nil)
      (pss_cons (ps_set (i := 2) scPA.nd rfl (Or.inl rfl) (pe_op op_add (pe_fld (pv 0) rfl) (pe_op op_mul (pe_fld (pv 0) rfl) (pv 1))))
      (pss_cons (ps_if (pt_not (pt_val (pe_call GW hr1 (by rfl) DW.m DW.k DW.b .nil pass0 (pa_cons (pv 2) pa_nil))))
        (pss_one (ps_raise rfl (takes_of rfl rfl rfl rfl) (pmk_oex0 TB.ox TB.iC TB.tI GB hr2 TB.b (by rfl) TB.m))) pss_nil)
      (pss_one (ps_ret (pe_make M.made GP hr (by rfl) N.m M.b0 .nil (passes_call (E := E) (W := fun cls d _ H => E cls d H) (takes_of rfl rfl rfl rfl) (fun _ _ _ _ h => h))
        (pa_cons (pe_fld (pv 0) rfl) (pa_cons (pv 2) (pa_cons (pe_fld (pv 0) rfl) pa_nil)))))))), ?_⟩
    obtain ⟨T2, i2, b2, z2, ty2, kd2, e2⟩ := Th.kd ty
    refine ⟨_, rfl, y, T2, i2, b2, z2, rfl, ty2, kd2, _, rfl, ?_⟩
    rw [e2]
    cases hI : isI y with
    | false => exact iteT ⟨_, rfl, (by show 1 ≤ 1000; decide), rz_made (eN hI)⟩
    | true =>
      obtain ⟨n, rfl⟩ := isI_int hI
      refine iteF ?_
      refine ⟨_, rfl, p, C, dx, _, _, rfl, hp, T.cl, T.nT, flds_t _ _ _, _, rfl, p, C, dx, _, _, rfl, hp, T.cl, T.nF, flds_f _ _ _, _, rfl, _, _, rfl, rfl, .inl ⟨by omega, by omega⟩, _, _, rfl, rfl, ?_⟩
      refine ⟨_, rfl, _, rfl, _, rfl, ?_⟩
      show (if (!(within (t + fr * n))) = true then _ else _)
      cases hW : within (t + fr * n) with
      | false => exact iteT (rz_made0 (eB n rfl hW))
      | true =>
        refine iteF ?_
        refine ⟨_, rfl, p, C, dx, _, _, rfl, hp, T.cl, T.nA, flds_a _ _ _, _, rfl, _, rfl, p, C, dx, _, _, rfl, hp, T.cl, T.nF, flds_f _ _ _, ?_⟩
        intro x dx2 nx nd ne
        have s0 : Same H (upd (upd H dx2 (.own x)) x (.ins C dx2 [])) := fun b o e => by
          rw [upd_ne (ne_of_none e nx), upd_ne (ne_of_none e nd)]
          exact e
        refine init_ok upd_same ax hW hf fun H' pl st => ⟨rfl, k n x H' rfl hW nx (fun b o e => ?_) pl⟩
        exact st b o (ne_of_none e nx) (s0 b o e)
end
end Toy
end

section
set_option Elab.async false
set_option linter.all false
set_option maxRecDepth 100000
namespace Toy
open PySem L2 Gd
abbrev sDirs : Stmt := top 15
abbrev sx : Str := "x"
abbrev sy : Str := "y"
abbrev sz : Str := "z"
theorem ax_cases {a : Str} (h : (axV (.str a)).isSome = true) : a = sx ∨ a = sy ∨ a = sz := by
  unfold axV at h
  split at h
  · rename_i e
    cases e
    exact .inl rfl
  · split at h
    · rename_i e
      cases e
      exact .inr (.inl rfl)
    · split at h
      · rename_i e
        cases e
        exact .inr (.inr rfl)
      · cases h
theorem ax_x : axV (.str sx) = some 0 := by decide +kernel
theorem ax_y : axV (.str sy) = some 1 := by decide +kernel
theorem ax_z : axV (.str sz) = some 2 := by decide +kernel
/-- the places of the directions -/
def dirs (a : Str) : Int × Int := if a = sx then (1, 2) else if a = sy then (2, 0) else (0, 1)
theorem dirs_x : dirs sx = (1, 2) := by decide +kernel
theorem dirs_y : dirs sy = (2, 0) := by decide +kernel
theorem dirs_z : dirs sz = (0, 1) := by decide +kernel
def spDirs : Sp := fun vs H Q _ => ∃ a : Str, vs = [.str a] ∧ (axV (.str a)).isSome = true ∧ ∀ tp H', Same H H' → H tp = none → H' tp = some (.tup [.int (dirs a).1, .int (dirs a).2]) → Q (.ref tp) H'
structure AxT (K : PySem.W.Frag) (mg : Str → Option Value) : Prop where
  ex : ∃ aX, mg "AXES" = some (.ref aX) ∧ ∀ H, SqT K H aX [axX, axY, axZ]
section
variable {P : Program} {w : World} {K : PySem.W.Frag} {mg : Str → Option Value} {base : Heap} {f C CA CN CF CB : Addr} {fd : FuncData}
theorem scDi : FnScope ["axis", "index"] ["axis"] (defScope sDirs) := ⟨rfl, rfl, rfl, by decide +kernel, rfl, by decide +kernel, by decide +kernel⟩
theorem ok_dirs {fX : Addr} {fdX : FuncData} (F : Fun K "direction_indexes" "direction_indexes" sDirs f fd) (DX : Dn K mg "axis_index" fX fdX ["axis"])
    (GX : FnOk P w K mg base (L2.CX P w) 3 fX fdX ["axis"] (spAxis K CA)) : FnOk P w K mg base CX0 4 f fd ["axis"] spDirs := by
  refine F.ok scDi (fun vs H Q E h => ?_) (fun cdv A outer s H vs Q E hr h => ?_)
  · obtain ⟨a, rfl, _⟩ := h
    rfl
  · obtain ⟨a, rfl, ax, k⟩ := h
    refine ⟨_, pss_cons (ps_set (i := 1) scDi.nd rfl (Or.inl rfl) (pe_call GX hr (by rfl) DX.m DX.k DX.b .nil passE0 (pa_cons (pv 0) pa_nil)))
      (pss_one (ps_ret (pe_tup (pa_cons (pe_op op_mod (pe_op op_add (pv 1) pe_int) pe_int) (pa_cons (pe_op op_mod (pe_op op_add (pv 1) pe_int) pe_int) pa_nil))))), ?_⟩
    refine ⟨_, rfl, .str a, .str a, rfl, .dp (.str a) rfl, fun i hi H1 s1 => ?_, fun z => by rw [z] at ax; cases ax⟩
    refine ⟨_, rfl, _, _, rfl, rfl, _, _, rfl, rfl, (show (0 : Int) < 3 by decide), _, rfl, _, _, rfl, rfl, _, _, rfl, rfl, (show (0 : Int) < 3 by decide), by show 2 ≤ sizeLine; decide, fun tp htp => ?_⟩
    refine k tp _ (s1.trans (same_new htp)) (s1.free htp) ?_
    rw [upd_same]
    rcases ax_cases ax with rfl | rfl | rfl
    · cases ax_x.symm.trans hi
      rw [dirs_x] <;> rfl
    · cases ax_y.symm.trans hi
      rw [dirs_y] <;> rfl
    · cases ax_z.symm.trans hi
      rw [dirs_z] <;> rfl
/-! ### directions, point_at -/
def dirV (a : Str) : List V := if a = sx then [axY, axZ] else if a = sy then [axZ, axX] else [axX, axY]
theorem dirV_x : dirV sx = [axY, axZ] := by decide +kernel
theorem dirV_y : dirV sy = [axZ, axX] := by decide +kernel
theorem dirV_z : dirV sz = [axX, axY] := by decide +kernel
def spPDirs (C : Addr) : Sp := fun vs H Q _ => ∃ (p : Addr) (a : Str) (t f : Int), vs = [.ref p] ∧ PlAt C H p a t f ∧ (axV (.str a)).isSome = true ∧ ∀ tp H', Same H H' → H' tp = some (.tup (dirV a)) → Q (.ref tp) H'
theorem scPD : FnScope ["self", "first", "second"] ["self"] (defScope sPDirs) := ⟨rfl, rfl, rfl, by decide +kernel, rfl, by decide +kernel, by decide +kernel⟩
theorem ok_pdirs {fX : Addr} {fdX : FuncData} (F : Fun K "directions" "Plane.directions" sPDirs f fd) (T : PlT K C) (DD : Dn K mg "direction_indexes" fX fdX ["axis"])
    (GD : FnOk P w K mg base CX0 4 fX fdX ["axis"] spDirs) (AX : AxT K mg) : FnOk P w K mg base CX0 5 f fd ["self"] (spPDirs C) := by
  obtain ⟨aX, mX, hX⟩ := AX.ex
  refine F.ok scPD (fun vs H Q E h => ?_) (fun cdv A outer s H vs Q E hr h => ?_)
  · obtain ⟨p, a, t, f, rfl, _⟩ := h
    rfl
  · obtain ⟨p, a, t, fr, rfl, ⟨dx, hp⟩, ax, k⟩ := h
    refine ⟨_, pss_cons (ps_asg (pe_call GD hr (by rfl) DD.m DD.k DD.b .nil pass0 (pa_cons (pe_fld (pv 0) rfl) pa_nil)) (pg_tup (by rfl) (pgs_cons (pg_name (i := 1) scPD.nd rfl (Or.inl rfl)) (pgs_cons (pg_name (i := 2) scPD.nd rfl (Or.inl rfl)) pgs_nil))))
      (pss_one (ps_ret (pe_tup (pa_cons (pe_ix ix_tup (pe_glob (v := .ref aX) (by rfl) mX rfl) (pv 1) (fun _ _ => rfl)) (pa_cons (pe_ix ix_tup (pe_glob (v := .ref aX) (by rfl) mX rfl) (pv 2) (fun _ _ => rfl)) pa_nil))))), ?_⟩
    refine ⟨_, rfl, p, C, dx, _, _, rfl, hp, T.cl, T.nA, flds_a _ _ _, a, rfl, ax, fun tp H1 s1 htp h1 => ?_⟩
    refine ⟨tp, _, rfl, SqT.of h1, rfl, _, _, rfl, _, _, rfl, rfl, ?_⟩
    rcases ax_cases ax with rfl | rfl | rfl
    · rw [dirs_x]
      refine ⟨_, rfl, aX, _, _, axY, rfl, rfl, hX _, atI_nat (j := 1) rfl, _, rfl, aX, _, _, axZ, rfl, rfl, hX _, atI_nat (j := 2) rfl, by show 2 ≤ sizeLine; decide, fun tq htq => ?_⟩
      exact k tq _ (s1.trans (same_new htq)) (by rw [upd_same, dirV_x])
    · rw [dirs_y]
      refine ⟨_, rfl, aX, _, _, axZ, rfl, rfl, hX _, atI_nat (j := 2) rfl, _, rfl, aX, _, _, axX, rfl, rfl, hX _, atI_nat (j := 0) rfl, by show 2 ≤ sizeLine; decide, fun tq htq => ?_⟩
      exact k tq _ (s1.trans (same_new htq)) (by rw [upd_same, dirV_y])
    · rw [dirs_z]
      refine ⟨_, rfl, aX, _, _, axX, rfl, rfl, hX _, atI_nat (j := 0) rfl, _, rfl, aX, _, _, axY, rfl, rfl, hX _, atI_nat (j := 1) rfl, by show 2 ≤ sizeLine; decide, fun tq htq => ?_⟩
      exact k tq _ (s1.trans (same_new htq)) (by rw [upd_same, dirV_z])
def ptV (a : Str) (t u v : Int) : List V := if a = sx then [.int t, .int u, .int v] else if a = sy then [.int v, .int t, .int u] else [.int u, .int v, .int t]
theorem nyx : ¬ (sy = sx) := by decide +kernel
theorem nzx : ¬ (sz = sx) := by decide +kernel
theorem nzy : ¬ (sz = sy) := by decide +kernel
theorem ptV_x (t u v : Int) : ptV sx t u v = [.int t, .int u, .int v] := if_pos rfl
theorem ptV_y (t u v : Int) : ptV sy t u v = [.int v, .int t, .int u] := (if_neg nyx).trans (if_pos rfl)
theorem ptV_z (t u v : Int) : ptV sz t u v = [.int u, .int v, .int t] := (if_neg nzx).trans (if_neg nzy)
def spPPoint (C : Addr) : Sp := fun vs H Q _ => ∃ (p : Addr) (a : Str) (t f u v : Int), vs = [.ref p, .int u, .int v] ∧ PlAt C H p a t f ∧ (axV (.str a)).isSome = true ∧ ∀ tp H', Same H H' → H' tp = some (.tup (ptV a t u v)) → Q (.ref tp) H'
structure TxtT (mg : Str → Option Value) : Prop where
  tuple : mg "tuple" = none
theorem scPP : FnScope ["self", "u", "v", "first", "second", "point"] ["self", "u", "v"] (defScope sPPoint) := ⟨rfl, rfl, rfl, by decide +kernel, rfl, by decide +kernel, by decide +kernel⟩
theorem ok_ppoint {fX : Addr} {fdX : FuncData} (F : Fun K "point_at" "Plane.point_at" sPPoint f fd) (T : PlT K C) (DD : Dn K mg "direction_indexes" fX fdX ["axis"])
    (GD : FnOk P w K mg base CX0 4 fX fdX ["axis"] spDirs) (TT : TxtT mg) : FnOk P w K mg base CX0 5 f fd ["self", "u", "v"] (spPPoint C) := by
  refine F.ok scPP (fun vs H Q E h => ?_) (fun cdv A outer s H vs Q E hr h => ?_)
  · obtain ⟨p, a, t, f, u, v, rfl, _⟩ := h
    rfl
  · obtain ⟨p, a, t, fr, u, v, rfl, ⟨dx, hp⟩, ax, k⟩ := h
    refine ⟨_, pss_cons (ps_asg (pe_call GD hr (by rfl) DD.m DD.k DD.b .nil pass0 (pa_cons (pe_fld (pv 0) rfl) pa_nil)) (pg_tup (by rfl) (pgs_cons (pg_name (i := 3) scPP.nd rfl (Or.inl rfl)) (pgs_cons (pg_name (i := 4) scPP.nd rfl (Or.inl rfl)) pgs_nil))))
      (pss_cons (ps_set (i := 5) scPP.nd rfl (Or.inl rfl) (pe_lst (pa_cons (pe_fld (pv 0) rfl) (pa_cons (pe_fld (pv 0) rfl) (pa_cons (pe_fld (pv 0) rfl) pa_nil)))))
      (pss_cons (ps_asg (pe_tup (pa_cons (pv 1) (pa_cons (pv 2) pa_nil))) (pg_tup (by rfl) (pgs_cons (pg_sub (pv 5) (pv 3) set_list) (pgs_cons (pg_sub (pv 5) (pv 4) set_list) pgs_nil))))
      (pss_one (ps_ret (pe_callTy call_tuple_of (by rfl) TT.tuple (by decide +kernel) (pa_cons (pv 5) pa_nil)))))), ?_⟩
    refine ⟨_, rfl, p, C, dx, _, _, rfl, hp, T.cl, T.nA, flds_a _ _ _, a, rfl, ax, fun tp H1 s1 htp h1 => ?_⟩
    refine ⟨tp, _, rfl, SqT.of h1, rfl, _, _, rfl, _, _, rfl, rfl, ?_⟩
    have hp1 := s1 _ _ hp
    refine ⟨_, rfl, p, C, dx, _, _, rfl, hp1, T.cl, T.nT, flds_t _ _ _, _, rfl, p, C, dx, _, _, rfl, hp1, T.cl, T.nT, flds_t _ _ _, _, rfl, p, C, dx, _, _, rfl, hp1, T.cl, T.nT, flds_t _ _ _, by show 3 ≤ sizeLine; decide, fun l hl => ?_⟩
    refine ⟨_, rfl, _, rfl, by show 2 ≤ sizeLine; decide, fun tq htq => ⟨tq, _, rfl, SqT.of upd_same, rfl, ?_⟩⟩
    have nl : l ≠ tq := ne_of_none (upd_same (o := .lst [.int t, .int t, .int t])) htq
    have st : ∀ (o1 o2 o3 o4 : HO), Same H (upd (upd (upd (upd H1 l o1) tq o2) l o3) l o4) := fun o1 o2 o3 o4 b o e => by
      have e1 := s1 b o e
      have n1 : b ≠ l := ne_of_none e1 hl
      have n2 : b ≠ tq := fun z => by
        have q := htq
        rw [← z, upd_ne n1, e1] at q
        cases q
      rw [upd_ne n1, upd_ne n1, upd_ne n2, upd_ne n1]
      exact e1
    rcases ax_cases ax with rfl | rfl | rfl
    · rw [dirs_x]
      refine ⟨_, _, rfl, _, rfl, _, rfl, l, _, _, 1, rfl, rfl, (upd_ne nl).trans upd_same, rfl, _, _, rfl, _, rfl, _, rfl, l, _, _, 2, rfl, rfl, upd_same, rfl, rfl, ?_⟩
      refine ⟨_, rfl, l, _, rfl, .inl ⟨SqL.of upd_same, fun tz htz => ?_⟩⟩
      refine k tz _ (Same.trans (st _ _ _ _) (same_new htz)) (by rw [upd_same, ptV_x] <;> rfl)
    · rw [dirs_y]
      refine ⟨_, _, rfl, _, rfl, _, rfl, l, _, _, 2, rfl, rfl, (upd_ne nl).trans upd_same, rfl, _, _, rfl, _, rfl, _, rfl, l, _, _, 0, rfl, rfl, upd_same, rfl, rfl, ?_⟩
      refine ⟨_, rfl, l, _, rfl, .inl ⟨SqL.of upd_same, fun tz htz => ?_⟩⟩
      refine k tz _ (Same.trans (st _ _ _ _) (same_new htz)) (by rw [upd_same, ptV_y] <;> rfl)
    · rw [dirs_z]
      refine ⟨_, _, rfl, _, rfl, _, rfl, l, _, _, 0, rfl, rfl, (upd_ne nl).trans upd_same, rfl, _, _, rfl, _, rfl, _, rfl, l, _, _, 1, rfl, rfl, upd_same, rfl, rfl, ?_⟩
      refine ⟨_, rfl, l, _, rfl, .inl ⟨SqL.of upd_same, fun tz htz => ?_⟩⟩
      refine k tz _ (Same.trans (st _ _ _ _) (same_new htz)) (by rw [upd_same, ptV_z] <;> rfl)
end
end Toy
end

section
set_option Elab.async false
set_option linter.all false
set_option maxRecDepth 100000
namespace Toy
open PySem L2 Gd
/-! ### the law's own helpers -/
def spPen (K : PySem.W.Frag) : Sp := fun vs H Q _ => ∃ (a : Addr) (ns : List Int), vs = [.ref a] ∧ SqL K H a (ns.map V.int) ∧ ns.length ≤ 63 ∧ ∀ p c ns' H', H p = none → Same H H' → PenAt H' p c ns' 0 0 → Q (.ref p) H'
theorem pen_merge (l : Addr) : mergeK [] [(kCells, V.ref l), (kBegun, V.int 0), (kRest, V.int 0)] = penD l 0 0 := by
  unfold mergeK penD
  simp only [List.foldl]
  rw [putK_new (kvs := []) (k := kCells) _ rfl, putK_new (k := kBegun) _ (by rw [List.nil_append, valV_neg ks1] <;> rfl), putK_new (k := kRest) _ (by rw [List.nil_append]; show valV [(kCells, V.ref l), (kBegun, V.int 0)] kRest = none; rw [valV_neg ks2, valV_neg ks3] <;> rfl)]
  rfl
section
variable {P : Program} {w : World} {K : PySem.W.Frag} {mg : Str → Option Value} {base : Heap} {f C CA CN CF CB : Addr} {fd : FuncData}
theorem scPen : FnScope ["_law_script"] ["_law_script"] (defScope sPen) := ⟨rfl, rfl, rfl, by decide +kernel, rfl, by decide +kernel, by decide +kernel⟩
theorem ok_pen (F : Fun K "_law_pen" "_law_pen" sPen f fd) (T : TxtB K mg) : FnOk P w K mg base CX0 1 f fd ["_law_script"] (spPen K) := by
  refine F.ok scPen (fun vs H Q E h => ?_) (fun cdv A outer s H vs Q E hr h => ?_)
  · obtain ⟨a, ns, rfl, _⟩ := h
    rfl
  · obtain ⟨a, ns, rfl, hS, hl, k⟩ := h
    refine ⟨_, pss_one (ps_ret (pe_disp (pps_cons pe_str (pe_callTy call_list_of (by rfl) T.list (by decide +kernel) (pa_cons (pe_slice sl_list (pv 0) po_none (po_some pe_int)) pa_nil))
      (pps_cons pe_str pe_int (pps_cons pe_str pe_int pps_nil))) (by rfl) (by rfl) (fun z => by cases z) (by decide))), ?_⟩
    intro p hp
    have s1 : Same H (upd H p (.dK [])) := same_new hp
    obtain ⟨ns', e1, e2⟩ : ∃ ns' : List Int, cutV (ns.map V.int) none (some 63) = ns'.map V.int ∧ ns'.length ≤ 63 := by
      unfold cutV
      rw [← List.map_drop, ← List.map_take]
      refine ⟨_, rfl, ?_⟩
      rw [List.length_take, List.length_drop]
      omega
    refine ⟨_, rfl, _, rfl, a, _, rfl, s1.seq hS, fun q hq => ?_⟩
    have npq : p ≠ q := ne_of_none upd_same hq
    refine ⟨q, _, rfl, .inl (SqL.of upd_same), fun l hl' => ?_⟩
    have npl : p ≠ l := fun z => by
      rw [← z, upd_ne npq, upd_same] at hl'
      cases hl'
    refine ⟨by rw [upd_ne npl, upd_ne npq, upd_same], [(kCells, .ref l), (kBegun, .int 0), (kRest, .int 0)], rfl, (by show 3 ≤ 15; decide), ?_⟩
    rw [pen_merge]
    have nlp : l ≠ p := Ne.symm npl
    refine k p l ns' _ hp (fun b o e => ?_) ⟨upd_same, ?_, Int.le_refl _, by decide, Int.le_refl _, e2⟩
    · have n1 := ne_of_none e hp
      have e3 := s1 b o e
      have n2 := ne_of_none e3 hq
      have n3 : b ≠ l := fun z => by
        rw [← z, upd_ne n2, e3] at hl'
        cases hl'
      rw [upd_ne n1, upd_ne n3, upd_ne n2]
      exact e3
    · rw [upd_ne nlp, upd_same, e1]
/-! is_int, due -/
abbrev sLInt : Stmt := top 24
abbrev sDue : Stmt := top 25
theorem scLI : FnScope ["_law_value"] ["_law_value"] (defScope sLInt) := ⟨rfl, rfl, rfl, by decide +kernel, rfl, by decide +kernel, by decide +kernel⟩
theorem ok_lint (F : Fun K "_law_is_int" "_law_is_int" sLInt f fd) (T : TxtI K mg) : FnOk P w K mg base CX0 1 f fd ["_law_value"] (spIsInt K) := by
  refine F.ok scLI (fun vs H Q E h => ?_) (fun cdv A outer s H vs Q E hr h => ?_)
  · obtain ⟨v, t, i, b, s, rfl, _⟩ := h
    rfl
  · obtain ⟨v, t, i, b, s, rfl, ty, kd, k⟩ := h
    refine ⟨_, pss_one (ps_ret (pe_and (pe_callB call_isi (by rfl) T.isi (by decide +kernel) (pa_cons (pv 0) (pa_cons (pe_bltn (by rfl) T.int (by decide +kernel) (v := .ty "int") rfl) pa_nil)))
      (pe_one (pe_not (pe_callB call_isi (by rfl) T.isi (by decide +kernel) (pa_cons (pv 0) (pa_cons (pe_bltn (by rfl) T.bool (by decide +kernel) (v := .ty "bool") rfl) pa_nil))))))), ?_⟩
    refine ⟨_, rfl, v, _, _, _, i, rfl, .ty "int", ty, kit_ty kd.i, i, rfl, ?_⟩
    cases i with
    | false => exact iteF k
    | true => exact iteT ⟨_, rfl, v, _, _, _, b, rfl, .ty "bool", ty, kit_ty kd.b, b, rfl, k⟩
end
def isS : V → Bool
  | .str _ => true
  | _ => false
theorem Th.kd2 {K : PySem.W.Frag} {H : Hp} {v : V} {d : PyData} (t : Th K H v d) : ∃ T i b, TyX K H v (.type T) ∧ Kd T i b (isS v) ∧ (i && !b) = isI v := by
  cases t with
  | dp h nd =>
    cases h with
    | non => exact ⟨_, _, _, .base .non, kd_none, rfl⟩
    | bl b => exact ⟨_, _, _, .base (.bl b), kd_bool, rfl⟩
    | int i => exact ⟨_, _, _, .base (.int i), kd_int, rfl⟩
    | str x => exact ⟨_, _, _, .base (.str x), kd_str, rfl⟩
    | lst h1 h2 =>
      rcases h1 with (h1 | ⟨o, h1⟩) | ⟨o, _, _, h1, h3, _⟩
      · exact ⟨_, _, _, .base (.lst h1), kd_list, rfl⟩
      · exact ⟨_, _, _, .base (.frz h1), kd_list, rfl⟩
      · exact ⟨_, _, _, .kList h1 h3, kd_list, rfl⟩
    | tup h1 h2 =>
      rcases h1 with (h1 | ⟨o, h1⟩) | ⟨o, _, _, h1, h3, _⟩
      · exact ⟨_, _, _, .base (.tup h1), kd_tuple, rfl⟩
      · exact ⟨_, _, _, .fTuple h1, kd_tuple, rfl⟩
      · exact ⟨_, _, _, .kTuple h1 h3, kd_tuple, rfl⟩
  | dk e => exact ⟨_, _, _, .base (.dK e), kd_dict, rfl⟩
theorem isS_str {v : V} (h : isS v = true) : ∃ a, v = .str a := by
  cases v <;> first | exact ⟨_, rfl⟩ | cases h
theorem isS_ax {v : V} (h : isS v = false) : axV v = none := by
  unfold axV
  rw [if_neg (fun z => by rw [z] at h; cases h), if_neg (fun z => by rw [z] at h; cases h), if_neg (fun z => by rw [z] at h; cases h)]
theorem ax_in {a : Str} : inV (.str a) [axX, axY, axZ] = (axV (.str a)).isSome := by
  by_cases h : (axV (.str a)).isSome = true
  · rw [h]
    rcases ax_cases h with rfl | rfl | rfl <;> decide +kernel
  · have h' := Bool.eq_false_iff.mpr h
    rw [h']
    have n1 : ¬ a = sx := fun z => h (by rw [z]; decide +kernel)
    have n2 : ¬ a = sy := fun z => h (by rw [z]; decide +kernel)
    have n3 : ¬ a = sz := fun z => h (by rw [z]; decide +kernel)
    simp [inV, eqV, n1, n2, n3, Ne.symm n1, Ne.symm n2, Ne.symm n3]
/-- what can be shown -/
structure Shw (d : PyData) : Prop where
  sh : d.showable = true
  dep : d.depth ≤ 60
  sz : d.shown.length ≤ sizeLine ∨ ∃ i, d = .int i
def okInt : V → Bool
  | .int n => within n
  | _ => false
abbrev wA : Str := "axis"
abbrev wN : Str := "number"
abbrev wF : Str := "front"
abbrev wB : Str := "bounds"
def due (a t f : V) (da dt df : PyData) : Option (Str × Str) :=
  if axV a = none then some (wA, da.shown) else if okInt t = false then some (wN, dt.shown) else if isFront f = false then some (wF, df.shown) else none
/-- what is answered: None, or a list of the word, the value's text, True -/
def Told (H : Hp) (v : V) : Option (Str × Str) → Prop
  | none => v = .non
  | some (x, y) => ∃ l, v = .ref l ∧ H l = some (.lst [.str x, .str y, .bl true])
def spDue (K : PySem.W.Frag) : Sp := fun vs H Q _ => ∃ (a t f : V) (da dt df : PyData), vs = [a, t, f] ∧ Th K H a da ∧ Th K H t dt ∧ Th K H f df ∧ Shw da ∧ Shw dt ∧ Shw df ∧ ∀ v H', Same H H' → Told H' v (due a t f da dt df) → Q v H'
theorem ten30 : (10 : Int) ^ (30 : Int).toNat = BIG := by decide +kernel
theorem abs_big {n : Int} : decide ((10 : Int) ^ (30 : Int).toNat < (if n < 0 then -n else n)) = !(within n) := by
  rw [ten30]
  unfold within
  by_cases h : -BIG ≤ n ∧ n ≤ BIG
  · rw [decide_eq_true h]
    refine decide_eq_false ?_
    split <;> omega
  · rw [decide_eq_false h]
    refine decide_eq_true ?_
    split <;> omega
theorem abs_one {n : Int} : decide (V.int (if n < 0 then -n else n) = V.int 1) = isFront (.int n) := by
  rw [dint]
  unfold isFront
  rw [dint, dint]
  by_cases h1 : n = 1
  · subst h1
    decide
  · by_cases h2 : n = -1
    · subst h2
      decide
    · rw [decide_eq_false h1, decide_eq_false h2]
      refine decide_eq_false ?_
      split <;> omega
structure TxtR (K : PySem.W.Frag) (mg : Str → Option Value) : Prop extends TxtB K mg, TxtI K mg where
  repr : mg "repr" = none
section
variable {P : Program} {w : World} {K : PySem.W.Frag} {mg : Str → Option Value} {base : Heap} {f C CA CN CF CB : Addr} {fd : FuncData}
theorem scDue : FnScope ["_law_axis", "_law_place", "_law_front"] ["_law_axis", "_law_place", "_law_front"] (defScope sDue) := ⟨rfl, rfl, rfl, by decide +kernel, rfl, by decide +kernel, by decide +kernel⟩
theorem ok_due {fJ : Addr} {fdJ : FuncData} (F : Fun K "_law_due" "_law_due" sDue f fd) (T : TxtR K mg) (DJ : Dn K mg "_law_is_int" fJ fdJ ["_law_value"]) (GJ : FnOk P w K mg base CX0 1 fJ fdJ ["_law_value"] (spIsInt K)) :
    FnG P w K mg base CX0 2 f fd ["_law_axis", "_law_place", "_law_front"] (spDue K) := by
  refine okG F scDue (fun vs H Q E h => ?_) (fun cdv A outer s H vs Q E ng hr h => ?_)
  · obtain ⟨a, t, f, da, dt, df, rfl, _⟩ := h
    rfl
  · obtain ⟨a, t, f, da, dt, df, rfl, ta, tt, tf, ha, ht, hf, k⟩ := h
    have rp : ∀ {σ : L2.St} {H : Hp} {v : V} {d : PyData} {Q : VK}, Th K H v d → Shw d → Q (.str d.shown) H → ∃ v' d', [v] = [v'] ∧ Th K H v' d' ∧ d'.showable = true ∧ d'.depth ≤ 60 ∧ (d'.shown.length ≤ sizeLine ∨ ∃ i, d' = .int i) ∧ Q (.str d'.shown) H :=
      fun {σ H v d Q} t h q => ⟨v, d, rfl, t, h.sh, h.dep, h.sz, q⟩
    refine ⟨_, pss_cons (ps_if (PW.pt (pw_or (pt_not (pt_val (pe_callB call_isi (by rfl) T.isi (by decide +kernel) (pa_cons (pv 0) (pa_cons (pe_bltn (by rfl) T.str (by decide +kernel) (v := .ty "str") rfl) pa_nil)))))
        (pw_or1 (pt_cmpR op_notIn_seq (pv 0) (pe_tup (pa_cons pe_str (pa_cons pe_str (pa_cons pe_str pa_nil)))) (by rfl)))))
        (pss_one (ps_ret (pe_lst (pa_cons pe_str (pa_cons (pe_callB (call_reprD ng hr.units) (by rfl) T.repr (by decide +kernel) (pa_cons (pv 0) pa_nil)) (pa_cons pe_bl pa_nil)))))) pss_nil)
      (pss_cons (ps_if (PW.pt (pw_or (pt_not (pt_val (pe_call GJ hr (by rfl) DJ.m DJ.k DJ.b .nil pass0 (pa_cons (pv 1) pa_nil))))
        (pw_or1 (pt_cmpR op_gt (pe_callB call_abs (by rfl) T.abs (by decide +kernel) (pa_cons (pv 1) pa_nil)) (pe_op op_pow pe_int pe_int) (nomark _)))))
        (pss_one (ps_ret (pe_lst (pa_cons pe_str (pa_cons (pe_callB (call_reprD ng hr.units) (by rfl) T.repr (by decide +kernel) (pa_cons (pv 1) pa_nil)) (pa_cons pe_bl pa_nil)))))) pss_nil)
      (pss_one (ps_ret (pe_ifExp (PW.pt (pw_and (pt_val (pe_call GJ hr (by rfl) DJ.m DJ.k DJ.b .nil pass0 (pa_cons (pv 2) pa_nil)))
        (pw_and1 (pt_cmpR op_eq (pe_callB call_abs (by rfl) T.abs (by decide +kernel) (pa_cons (pv 2) pa_nil)) pe_int (nomark _)))))
        pe_non (pe_lst (pa_cons pe_str (pa_cons (pe_callB (call_reprD ng hr.units) (by rfl) T.repr (by decide +kernel) (pa_cons (pv 2) pa_nil)) (pa_cons pe_bl pa_nil)))))))), ?_⟩
    obtain ⟨T1, i1, b1, ty1, kd1, e1⟩ := Th.kd2 ta
    refine ⟨_, rfl, a, _, _, _, isS a, rfl, .ty "str", ty1, kit_ty kd1.s, _, rfl, ?_⟩
    cases hS : isS a with
    | false =>
      have e := isS_ax hS
      refine iteT (iteT ⟨_, rfl, a, da, rfl, ta, ha.sh, ha.dep, ha.sz, by show 3 ≤ sizeLine; decide, fun l hl => k _ _ (same_new hl) ?_⟩)
      unfold due
      rw [if_pos e]
      exact ⟨l, rfl, upd_same⟩
    | true =>
      obtain ⟨x, rfl⟩ := isS_str hS
      refine iteF ⟨_, rfl, by show 3 ≤ sizeLine; decide, fun tp htp => ⟨tp, _, rfl, .inr (SqT.of upd_same), rfl, rfl, _, rfl, ?_⟩⟩
      rw [show inV (V.str x) [V.str "x", V.str "y", V.str "z"] = (axV (.str x)).isSome from ax_in]
      have s1 : Same H (upd H tp (.tup [axX, axY, axZ])) := same_new htp
      cases hA : (axV (.str x)).isSome with
      | false =>
        have e : axV (.str x) = none := by
          cases q : axV (.str x) with
          | none => rfl
          | some i => rw [q] at hA; cases hA
        refine iteT ⟨_, rfl, _, _, rfl, Th.grow s1 ta, ha.sh, ha.dep, ha.sz, by show 3 ≤ sizeLine; decide, fun l hl => k _ _ (s1.trans (same_new hl)) ?_⟩
        unfold due
        rw [if_pos e]
        exact ⟨l, rfl, upd_same⟩
      | true =>
        have nA : ¬ axV (.str x) = none := fun z => by rw [z] at hA; cases hA
        refine iteF ?_
        obtain ⟨T2, i2, b2, ty2, kd2, e2⟩ := Th.kd2 (Th.grow s1 tt)
        refine ⟨_, rfl, t, T2, i2, b2, isS t, rfl, ty2, kd2, _, rfl, ?_⟩
        rw [e2]
        have bad : ∀ {H1 : Hp}, Same H H1 → okInt t = false → ∀ l, H1 l = none → Q (.ref l) (upd H1 l (.lst [.str "number", .str dt.shown, .bl true])) := fun {H1} s z l hl => by
          refine k _ _ (s.trans (same_new hl)) ?_
          unfold due
          rw [if_neg nA, if_pos z]
          exact ⟨l, rfl, upd_same⟩
        cases hI : isI t with
        | false =>
          have z : okInt t = false := by cases t <;> first | rfl | cases hI
          exact iteT (iteT ⟨_, rfl, _, _, rfl, Th.grow s1 tt, ht.sh, ht.dep, ht.sz, by show 3 ≤ sizeLine; decide, fun l hl => bad s1 z l hl⟩)
        | true =>
          obtain ⟨n, rfl⟩ := isI_int hI
          refine iteF ⟨_, rfl, _, rfl, _, _, rfl, rfl, ⟨by decide, by decide, by decide⟩, _, _, rfl, rfl, _, rfl, ?_⟩
          rw [abs_big]
          cases hW : within n with
          | false => exact iteT ⟨_, rfl, _, _, rfl, Th.grow s1 tt, ht.sh, ht.dep, ht.sz, by show 3 ≤ sizeLine; decide, fun l hl => bad s1 hW l hl⟩
          | true =>
            refine iteF ?_
            have okT : ¬ okInt (.int n) = false := fun z => by
              have z' : within n = false := z
              rw [hW] at z'
              cases z'
            obtain ⟨T3, i3, b3, ty3, kd3, e3⟩ := Th.kd2 (Th.grow s1 tf)
            refine ⟨_, rfl, f, T3, i3, b3, isS f, rfl, ty3, kd3, _, rfl, ?_⟩
            rw [e3]
            have badF : isFront f = false → ∀ l, (upd H tp (.tup [axX, axY, axZ])) l = none → Q (.ref l) (upd (upd H tp (.tup [axX, axY, axZ])) l (.lst [.str "front", .str df.shown, .bl true])) := fun z l hl => by
              refine k _ _ (s1.trans (same_new hl)) ?_
              unfold due
              rw [if_neg nA, if_neg okT, if_pos z]
              exact ⟨l, rfl, upd_same⟩
            cases hJ : isI f with
            | false => exact iteF (iteF ⟨_, rfl, _, _, rfl, Th.grow s1 tf, hf.sh, hf.dep, hf.sz, by show 3 ≤ sizeLine; decide, fun l hl => badF (isI_front hJ) l hl⟩)
            | true =>
              obtain ⟨m, rfl⟩ := isI_int hJ
              refine iteT ⟨_, rfl, _, rfl, rfl, _, rfl, ?_⟩
              rw [abs_one]
              cases hF : isFront (.int m) with
              | false => exact iteF ⟨_, rfl, _, _, rfl, Th.grow s1 tf, hf.sh, hf.dep, hf.sz, by show 3 ≤ sizeLine; decide, fun l hl => badF hF l hl⟩
              | true =>
                refine iteT (k _ _ s1 ?_)
                unfold due
                rw [if_neg nA, if_neg okT, if_neg (by rw [hF]; decide)]
                exact rfl
end
end Toy
end

section
set_option Elab.async false
set_option linter.all false
set_option maxRecDepth 100000
namespace Toy
open PySem L2 Gd
/-! ### a value of any kind -/
abbrev sOdd : Stmt := top 22
theorem Ext.of_same {p : Addr} {H H' : Hp} (e : Same H H') : Ext p H H' := fun b o _ h => e b o h
theorem seq_pen {K : PySem.W.Frag} {H : Hp} {p a : Addr} {kvs : List (Key × V)} {o : HO} {xs : List V} (hp : H p = some (.dK kvs)) (h : SqL K H a xs) : SqL K (upd H p o) a xs := by
  rcases h with (h | ⟨ob, h⟩) | h
  · exact .inl (.inl (by rw [upd_ne (ne_of h hp (by intro z; cases z))]; exact h))
  · exact .inl (.inr ⟨ob, by rw [upd_ne (ne_of h hp (by intro z; cases z))]; exact h⟩)
  · exact .inr h
theorem tup_pen {K : PySem.W.Frag} {H : Hp} {p a : Addr} {kvs : List (Key × V)} {o : HO} {xs : List V} (hp : H p = some (.dK kvs)) (h : SqT K H a xs) : SqT K (upd H p o) a xs := by
  rcases h with (h | ⟨ob, h⟩) | h
  · exact .inl (.inl (by rw [upd_ne (ne_of h hp (by intro z; cases z))]; exact h))
  · exact .inl (.inr ⟨ob, by rw [upd_ne (ne_of h hp (by intro z; cases z))]; exact h⟩)
  · exact .inr h
mutual
theorem dp_pen {K : PySem.W.Frag} {H : Hp} {p : Addr} {kvs : List (Key × V)} {o : HO} (hp : H p = some (.dK kvs)) {v : V} {d : PyData} (h : Dp K H v d) : Dp K (upd H p o) v d :=
  match h with
  | .non => .non
  | .bl b => .bl b
  | .int i => .int i
  | .str x => .str x
  | .lst h1 h2 => .lst (seq_pen hp h1) (dps_pen hp h2)
  | .tup h1 h2 => .tup (tup_pen hp h1) (dps_pen hp h2)
theorem dps_pen {K : PySem.W.Frag} {H : Hp} {p : Addr} {kvs : List (Key × V)} {o : HO} (hp : H p = some (.dK kvs)) {vs : List V} {ds : List PyData} (h : DpAll K H vs ds) : DpAll K (upd H p o) vs ds :=
  match h with
  | .nil => .nil
  | .cons h1 h2 => .cons (dp_pen hp h1) (dps_pen hp h2)
end
theorem Th.pen {K : PySem.W.Frag} {H : Hp} {p c : Addr} {n r : Int} {o : HO} (hp : H p = some (.dK (penD c n r))) {v : V} {d : PyData} (t : Th K H v d) : Th K (upd H p o) v d := by
  cases t with
  | dp h nd => exact .dp (dp_pen hp h) nd
  | @dk a kvs e =>
    refine .dk ?_
    have ne : a ≠ p := by
      intro z
      rw [z, hp] at e
      have e2 := Option.some.inj e
      injection e2 with e3
      match kvs, e3 with
      | [], e3 => cases e3
      | kv :: _, e3 =>
        have e4 := congrArg (fun l => l.head?.map (·.2)) e3
        simp [penD] at e4
    rw [upd_ne ne]
    exact e
/-- what is tracked now and was not -/
def newOf (H H' : Hp) : Hp := fun b => if (H b).isSome = true then none else H' b
theorem newOf_at {H H' : Hp} {b : Addr} {o : HO} (h : H b = none) (e : H' b = some o) : newOf H H' b = some o := by
  unfold newOf
  rw [h]
  exact e
theorem newOf_same (H H' : Hp) : Same (newOf H H') H' := fun b o e => by
  unfold newOf at e
  split at e
  · cases e
  · exact e
theorem newOf_pen {H H' : Hp} {p : Addr} {u o : HO} (h : H p = some u) : Same (newOf H H') (newOf H (upd H' p o)) := fun b x e => by
  unfold newOf at e ⊢
  split at e
  · cases e
  · rename_i n
    rw [if_neg n, upd_ne (fun z => n (by rw [z, h]; rfl))]
    exact e
/-- what can be shown, and its text is a text -/
structure ShO (d : PyData) : Prop extends Shw d where
  ok : PyData.strOk d.shown = true
theorem int_ok (i : Int) : PyData.strOk (PyData.shown (.int i)) = true := by
  unfold PyData.strOk
  rw [← Array.all_toList, List.all_eq_true]
  intro c hc
  refine decide_eq_true ?_
  by_cases h : c < 0x110000
  · exact h
  · exact absurd hc (PyProof.Rows.shown_int_free' (by omega) i)
def spOdd (K : PySem.W.Frag) : Sp := fun vs H Q _ => ∃ (p c : Addr) (ns : List Int) (n r : Int), vs = [.ref p] ∧ PenAt H p c ns n r ∧ n < 900000 ∧
  ∀ v d n' r' H', Th K (newOf H H') v d → ShO d → Ext p H H' → PenAt H' p c ns n' r' → n ≤ n' → n' ≤ n + 1 → Q v H'
section
variable {P : Program} {w : World} {K : PySem.W.Frag} {mg : Str → Option Value} {base : Heap} {f C CA CN CF CB : Addr} {fd : FuncData}
theorem scOdd : FnScope ["_law_pen_here", "_law_some"] ["_law_pen_here"] (defScope sOdd) := ⟨rfl, rfl, rfl, by decide +kernel, rfl, by decide +kernel, by decide +kernel⟩
set_option maxHeartbeats 2000000 in
theorem ok_odd {fpick : Addr} {fdpick : FuncData} (F : Fun K "_law_odd" "_law_odd" sOdd f fd) (Dpick : Dn K mg "_law_pick" fpick fdpick ["_law_pen_here", "_law_options"])
    (Gpick : FnOk P w K mg base CX0 3 fpick fdpick ["_law_pen_here", "_law_options"] spPick) : FnOk P w K mg base CX0 4 f fd ["_law_pen_here"] (spOdd K) := by
  refine F.ok scOdd (fun vs H Q E h => ?_) (fun cdv A outer s H vs Q E hr h => ?_)
  · obtain ⟨p, c, ns, n, r, rfl, _⟩ := h
    rfl
  · obtain ⟨p, c, ns, n, r, rfl, S, hn, k⟩ := h
    refine ⟨_, (pss_cons (ps_set (i := 1) scOdd.nd rfl (Or.inl rfl) (pe_lst (pa_cons pe_non (pa_cons pe_bl (pa_cons pe_bl (pa_cons pe_int (pa_cons pe_int (pa_cons (pe_un un_neg pe_int) (pa_cons pe_int (pa_cons pe_int (pa_cons (pe_op op_pow pe_int pe_int) (pa_cons (pe_op op_add (pe_op op_pow pe_int pe_int) pe_int) (pa_cons (pe_op op_sub (pe_un un_neg (pe_op op_pow pe_int pe_int)) pe_int) (pa_cons (pe_op op_mulW (pe_op op_pow pe_int pe_int) (pe_op op_pow pe_int pe_int)) pa_nil))))))))))))))
 (pss_cons (ps_set (i := 1) scOdd.nd rfl (Or.inl rfl) (pe_op op_cat (pv 1) (pe_lst (pa_cons pe_str (pa_cons pe_str (pa_cons pe_str (pa_cons pe_str (pa_cons pe_str (pa_cons pe_str (pa_cons pe_str (pa_cons pe_str (pa_cons pe_str (pa_cons pe_str (pa_cons pe_str (pa_cons pe_str (pa_cons (pe_tup pa_nil) (pa_cons (pe_lst pa_nil) (pa_cons pe_dnewK (pa_cons (pe_tup (pa_cons pe_str pa_nil)) pa_nil)))))))))))))))))))
 (pss_one (ps_ret (pe_call Gpick hr rfl Dpick.m Dpick.k Dpick.b .nil pass0 (pa_cons (pv 0) (pa_cons (pe_op op_cat (pv 1) (pe_lst (pa_cons (pe_lst (pa_cons pe_str pa_nil)) (pa_cons (pe_tup (pa_cons pe_int (pa_cons pe_int pa_nil))) (pa_cons (pe_tup (pa_cons pe_int (pa_cons pe_int (pa_cons pe_int pa_nil)))) (pa_cons (pe_disp (pps_cons pe_str pe_int pps_nil) (by rfl) (by rfl) (fun z => by cases z) (by decide)) (pa_cons (pe_lst (pa_cons pe_non pa_nil)) (pa_cons (pe_tup (pa_cons pe_non (pa_cons pe_str pa_nil))) (pa_cons (pe_tup (pa_cons (pe_tup (pa_cons pe_int (pa_cons pe_int (pa_cons pe_int pa_nil)))) (pa_cons (pe_tup (pa_cons pe_int (pa_cons pe_int (pa_cons pe_int pa_nil)))) pa_nil))) pa_nil))))))))) pa_nil))))))), ?_⟩
    refine ⟨_, rfl, _, _, rfl, rfl, ⟨by decide, by decide, by decide⟩, _, _, rfl, rfl, ⟨by decide, by decide, by decide⟩, _, _, rfl, rfl, _, _, rfl, rfl, ⟨by decide, by decide, by decide⟩, _, rfl, _, _, rfl, rfl, _, _, rfl, rfl, ⟨by decide, by decide, by decide⟩, _, _, rfl, rfl, ⟨by decide, by decide, by decide⟩, _, _, rfl, rfl, (show L2.CMulW _ _ by unfold L2.CMulW; decide +kernel), by show 12 ≤ sizeLine; decide, fun p1 hp1 => ?_⟩
    have s1 : Same H (upd H p1 (.lst [.non, .bl true, .bl false, .int 0, .int 1, .int (-1), .int 2, .int 7, .int (10 ^ (30 : Int).toNat), .int (10 ^ (30 : Int).toNat + 1), .int (-(10 ^ (30 : Int).toNat) - 1), .int (10 ^ (50 : Int).toNat * 10 ^ (40 : Int).toNat)])) := same_new hp1
    have a1 : upd H p1 (.lst [.non, .bl true, .bl false, .int 0, .int 1, .int (-1), .int 2, .int 7, .int (10 ^ (30 : Int).toNat), .int (10 ^ (30 : Int).toNat + 1), .int (-(10 ^ (30 : Int).toNat) - 1), .int (10 ^ (50 : Int).toNat * 10 ^ (40 : Int).toNat)]) p1 = some (.lst [.non, .bl true, .bl false, .int 0, .int 1, .int (-1), .int 2, .int 7, .int (10 ^ (30 : Int).toNat), .int (10 ^ (30 : Int).toNat + 1), .int (-(10 ^ (30 : Int).toNat) - 1), .int (10 ^ (50 : Int).toNat * 10 ^ (40 : Int).toNat)]) := upd_same
    generalize upd H p1 (.lst [.non, .bl true, .bl false, .int 0, .int 1, .int (-1), .int 2, .int 7, .int (10 ^ (30 : Int).toNat), .int (10 ^ (30 : Int).toNat + 1), .int (-(10 ^ (30 : Int).toNat) - 1), .int (10 ^ (50 : Int).toNat * 10 ^ (40 : Int).toNat)]) = H1 at s1 a1 ⊢
    refine ⟨_, rfl, by show 0 ≤ sizeLine; decide, fun p2 hp2 => ?_⟩
    have s2 : Same H1 (upd H1 p2 (.tup [])) := same_new hp2
    have a2 : upd H1 p2 (.tup []) p2 = some (.tup []) := upd_same
    generalize upd H1 p2 (.tup []) = H2 at s2 a2 ⊢
    refine ⟨by show 0 ≤ sizeLine; decide, fun p3 hp3 => ?_⟩
    have s3 : Same H2 (upd H2 p3 (.lst [])) := same_new hp3
    have a3 : upd H2 p3 (.lst []) p3 = some (.lst []) := upd_same
    generalize upd H2 p3 (.lst []) = H3 at s3 a3 ⊢
    intro p4 hp4
    have s4 : Same H3 (upd H3 p4 (.dK [])) := same_new hp4
    have a4 : upd H3 p4 (.dK []) p4 = some (.dK []) := upd_same
    generalize upd H3 p4 (.dK []) = H4 at s4 a4 ⊢
    refine ⟨by show 1 ≤ sizeLine; decide, fun p5 hp5 => ?_⟩
    have s5 : Same H4 (upd H4 p5 (.tup [.str "a"])) := same_new hp5
    have a5 : upd H4 p5 (.tup [.str "a"]) p5 = some (.tup [.str "a"]) := upd_same
    generalize upd H4 p5 (.tup [.str "a"]) = H5 at s5 a5 ⊢
    refine ⟨by show 16 ≤ sizeLine; decide, fun p6 hp6 => ?_⟩
    have s6 : Same H5 (upd H5 p6 (.lst [.str "", .str "a", .str "0", .str "ab cd", .str "A", .str "abcdefghi", .str "min", .str "self", .str "x", .str "y", .str "z", .str "+x", .ref p2, .ref p3, .ref p4, .ref p5])) := same_new hp6
    have a6 : upd H5 p6 (.lst [.str "", .str "a", .str "0", .str "ab cd", .str "A", .str "abcdefghi", .str "min", .str "self", .str "x", .str "y", .str "z", .str "+x", .ref p2, .ref p3, .ref p4, .ref p5]) p6 = some (.lst [.str "", .str "a", .str "0", .str "ab cd", .str "A", .str "abcdefghi", .str "min", .str "self", .str "x", .str "y", .str "z", .str "+x", .ref p2, .ref p3, .ref p4, .ref p5]) := upd_same
    generalize upd H5 p6 (.lst [.str "", .str "a", .str "0", .str "ab cd", .str "A", .str "abcdefghi", .str "min", .str "self", .str "x", .str "y", .str "z", .str "+x", .ref p2, .ref p3, .ref p4, .ref p5]) = H6 at s6 a6 ⊢
    refine ⟨_, _, _, _, rfl, rfl, (s6 _ _ (s5 _ _ (s4 _ _ (s3 _ _ (s2 _ _ a1))))), a6, by show 28 ≤ sizeLine; decide, fun p7 hp7 => ?_⟩
    have s7 : Same H6 (upd H6 p7 (.lst ([.non, .bl true, .bl false, .int 0, .int 1, .int (-1), .int 2, .int 7, .int (10 ^ (30 : Int).toNat), .int (10 ^ (30 : Int).toNat + 1), .int (-(10 ^ (30 : Int).toNat) - 1), .int (10 ^ (50 : Int).toNat * 10 ^ (40 : Int).toNat)] ++ [.str "", .str "a", .str "0", .str "ab cd", .str "A", .str "abcdefghi", .str "min", .str "self", .str "x", .str "y", .str "z", .str "+x", .ref p2, .ref p3, .ref p4, .ref p5]))) := same_new hp7
    have a7 : upd H6 p7 (.lst ([.non, .bl true, .bl false, .int 0, .int 1, .int (-1), .int 2, .int 7, .int (10 ^ (30 : Int).toNat), .int (10 ^ (30 : Int).toNat + 1), .int (-(10 ^ (30 : Int).toNat) - 1), .int (10 ^ (50 : Int).toNat * 10 ^ (40 : Int).toNat)] ++ [.str "", .str "a", .str "0", .str "ab cd", .str "A", .str "abcdefghi", .str "min", .str "self", .str "x", .str "y", .str "z", .str "+x", .ref p2, .ref p3, .ref p4, .ref p5])) p7 = some (.lst ([.non, .bl true, .bl false, .int 0, .int 1, .int (-1), .int 2, .int 7, .int (10 ^ (30 : Int).toNat), .int (10 ^ (30 : Int).toNat + 1), .int (-(10 ^ (30 : Int).toNat) - 1), .int (10 ^ (50 : Int).toNat * 10 ^ (40 : Int).toNat)] ++ [.str "", .str "a", .str "0", .str "ab cd", .str "A", .str "abcdefghi", .str "min", .str "self", .str "x", .str "y", .str "z", .str "+x", .ref p2, .ref p3, .ref p4, .ref p5])) := upd_same
    generalize upd H6 p7 (.lst ([.non, .bl true, .bl false, .int 0, .int 1, .int (-1), .int 2, .int 7, .int (10 ^ (30 : Int).toNat), .int (10 ^ (30 : Int).toNat + 1), .int (-(10 ^ (30 : Int).toNat) - 1), .int (10 ^ (50 : Int).toNat * 10 ^ (40 : Int).toNat)] ++ [.str "", .str "a", .str "0", .str "ab cd", .str "A", .str "abcdefghi", .str "min", .str "self", .str "x", .str "y", .str "z", .str "+x", .ref p2, .ref p3, .ref p4, .ref p5])) = H7 at s7 a7 ⊢
    refine ⟨_, rfl, _, rfl, by show 1 ≤ sizeLine; decide, fun p8 hp8 => ?_⟩
    have s8 : Same H7 (upd H7 p8 (.lst [.str "a"])) := same_new hp8
    have a8 : upd H7 p8 (.lst [.str "a"]) p8 = some (.lst [.str "a"]) := upd_same
    generalize upd H7 p8 (.lst [.str "a"]) = H8 at s8 a8 ⊢
    refine ⟨by show 2 ≤ sizeLine; decide, fun p9 hp9 => ?_⟩
    have s9 : Same H8 (upd H8 p9 (.tup [.int 0, .int 1])) := same_new hp9
    have a9 : upd H8 p9 (.tup [.int 0, .int 1]) p9 = some (.tup [.int 0, .int 1]) := upd_same
    generalize upd H8 p9 (.tup [.int 0, .int 1]) = H9 at s9 a9 ⊢
    refine ⟨by show 3 ≤ sizeLine; decide, fun p10 hp10 => ?_⟩
    have s10 : Same H9 (upd H9 p10 (.tup [.int 0, .int 0, .int 0])) := same_new hp10
    have a10 : upd H9 p10 (.tup [.int 0, .int 0, .int 0]) p10 = some (.tup [.int 0, .int 0, .int 0]) := upd_same
    generalize upd H9 p10 (.tup [.int 0, .int 0, .int 0]) = H10 at s10 a10 ⊢
    intro p11 hp11
    refine ⟨upd_same, [(Sum.inr ("a" : Str), .int 1)], rfl, (by show 1 ≤ 15; decide), ?_⟩
    rw [upd_upd, show mergeK [] [((Sum.inr ("a" : Str) : Key), V.int 1)] = [(Sum.inr ("a" : Str), V.int 1)] from rfl]
    have s11 : Same H10 (upd H10 p11 (.dK [(Sum.inr ("a" : Str), .int 1)])) := same_new hp11
    have a11 : upd H10 p11 (.dK [(Sum.inr ("a" : Str), .int 1)]) p11 = some (.dK [(Sum.inr ("a" : Str), .int 1)]) := upd_same
    generalize upd H10 p11 (.dK [(Sum.inr ("a" : Str), .int 1)]) = H11 at s11 a11 ⊢
    refine ⟨by show 1 ≤ sizeLine; decide, fun p12 hp12 => ?_⟩
    have s12 : Same H11 (upd H11 p12 (.lst [.non])) := same_new hp12
    have a12 : upd H11 p12 (.lst [.non]) p12 = some (.lst [.non]) := upd_same
    generalize upd H11 p12 (.lst [.non]) = H12 at s12 a12 ⊢
    refine ⟨by show 2 ≤ sizeLine; decide, fun p13 hp13 => ?_⟩
    have s13 : Same H12 (upd H12 p13 (.tup [.non, .str "a"])) := same_new hp13
    have a13 : upd H12 p13 (.tup [.non, .str "a"]) p13 = some (.tup [.non, .str "a"]) := upd_same
    generalize upd H12 p13 (.tup [.non, .str "a"]) = H13 at s13 a13 ⊢
    refine ⟨by show 3 ≤ sizeLine; decide, fun p14 hp14 => ?_⟩
    have s14 : Same H13 (upd H13 p14 (.tup [.int 0, .int 0, .int 0])) := same_new hp14
    have a14 : upd H13 p14 (.tup [.int 0, .int 0, .int 0]) p14 = some (.tup [.int 0, .int 0, .int 0]) := upd_same
    generalize upd H13 p14 (.tup [.int 0, .int 0, .int 0]) = H14 at s14 a14 ⊢
    refine ⟨by show 3 ≤ sizeLine; decide, fun p15 hp15 => ?_⟩
    have s15 : Same H14 (upd H14 p15 (.tup [.int 1, .int 1, .int 1])) := same_new hp15
    have a15 : upd H14 p15 (.tup [.int 1, .int 1, .int 1]) p15 = some (.tup [.int 1, .int 1, .int 1]) := upd_same
    generalize upd H14 p15 (.tup [.int 1, .int 1, .int 1]) = H15 at s15 a15 ⊢
    refine ⟨by show 2 ≤ sizeLine; decide, fun p16 hp16 => ?_⟩
    have s16 : Same H15 (upd H15 p16 (.tup [.ref p14, .ref p15])) := same_new hp16
    have a16 : upd H15 p16 (.tup [.ref p14, .ref p15]) p16 = some (.tup [.ref p14, .ref p15]) := upd_same
    generalize upd H15 p16 (.tup [.ref p14, .ref p15]) = H16 at s16 a16 ⊢
    refine ⟨by show 7 ≤ sizeLine; decide, fun p17 hp17 => ?_⟩
    have s17 : Same H16 (upd H16 p17 (.lst [.ref p8, .ref p9, .ref p10, .ref p11, .ref p12, .ref p13, .ref p16])) := same_new hp17
    have a17 : upd H16 p17 (.lst [.ref p8, .ref p9, .ref p10, .ref p11, .ref p12, .ref p13, .ref p16]) p17 = some (.lst [.ref p8, .ref p9, .ref p10, .ref p11, .ref p12, .ref p13, .ref p16]) := upd_same
    generalize upd H16 p17 (.lst [.ref p8, .ref p9, .ref p10, .ref p11, .ref p12, .ref p13, .ref p16]) = H17 at s17 a17 ⊢
    refine ⟨_, _, _, _, rfl, rfl, (s17 _ _ (s16 _ _ (s15 _ _ (s14 _ _ (s13 _ _ (s12 _ _ (s11 _ _ (s10 _ _ (s9 _ _ (s8 _ _ a7)))))))))), a17, by show 35 ≤ sizeLine; decide, fun p18 hp18 => ?_⟩
    have s18 : Same H17 (upd H17 p18 (.lst (([.non, .bl true, .bl false, .int 0, .int 1, .int (-1), .int 2, .int 7, .int (10 ^ (30 : Int).toNat), .int (10 ^ (30 : Int).toNat + 1), .int (-(10 ^ (30 : Int).toNat) - 1), .int (10 ^ (50 : Int).toNat * 10 ^ (40 : Int).toNat)] ++ [.str "", .str "a", .str "0", .str "ab cd", .str "A", .str "abcdefghi", .str "min", .str "self", .str "x", .str "y", .str "z", .str "+x", .ref p2, .ref p3, .ref p4, .ref p5]) ++ [.ref p8, .ref p9, .ref p10, .ref p11, .ref p12, .ref p13, .ref p16]))) := same_new hp18
    have a18 : upd H17 p18 (.lst (([.non, .bl true, .bl false, .int 0, .int 1, .int (-1), .int 2, .int 7, .int (10 ^ (30 : Int).toNat), .int (10 ^ (30 : Int).toNat + 1), .int (-(10 ^ (30 : Int).toNat) - 1), .int (10 ^ (50 : Int).toNat * 10 ^ (40 : Int).toNat)] ++ [.str "", .str "a", .str "0", .str "ab cd", .str "A", .str "abcdefghi", .str "min", .str "self", .str "x", .str "y", .str "z", .str "+x", .ref p2, .ref p3, .ref p4, .ref p5]) ++ [.ref p8, .ref p9, .ref p10, .ref p11, .ref p12, .ref p13, .ref p16])) p18 = some (.lst (([.non, .bl true, .bl false, .int 0, .int 1, .int (-1), .int 2, .int 7, .int (10 ^ (30 : Int).toNat), .int (10 ^ (30 : Int).toNat + 1), .int (-(10 ^ (30 : Int).toNat) - 1), .int (10 ^ (50 : Int).toNat * 10 ^ (40 : Int).toNat)] ++ [.str "", .str "a", .str "0", .str "ab cd", .str "A", .str "abcdefghi", .str "min", .str "self", .str "x", .str "y", .str "z", .str "+x", .ref p2, .ref p3, .ref p4, .ref p5]) ++ [.ref p8, .ref p9, .ref p10, .ref p11, .ref p12, .ref p13, .ref p16])) := upd_same
    generalize upd H17 p18 (.lst (([.non, .bl true, .bl false, .int 0, .int 1, .int (-1), .int 2, .int 7, .int (10 ^ (30 : Int).toNat), .int (10 ^ (30 : Int).toNat + 1), .int (-(10 ^ (30 : Int).toNat) - 1), .int (10 ^ (50 : Int).toNat * 10 ^ (40 : Int).toNat)] ++ [.str "", .str "a", .str "0", .str "ab cd", .str "A", .str "abcdefghi", .str "min", .str "self", .str "x", .str "y", .str "z", .str "+x", .ref p2, .ref p3, .ref p4, .ref p5]) ++ [.ref p8, .ref p9, .ref p10, .ref p11, .ref p12, .ref p13, .ref p16])) = H18 at s18 a18 ⊢
    have all : Same H H18 := (Same.trans (Same.trans (Same.trans (Same.trans (Same.trans (Same.trans (Same.trans (Same.trans (Same.trans (Same.trans (Same.trans (Same.trans (Same.trans (Same.trans (Same.trans (Same.trans (Same.trans s1 s2) s3) s4) s5) s6) s7) s8) s9) s10) s11) s12) s13) s14) s15) s16) s17) s18)
    refine ⟨p, c, ns, n, r, p18, _, rfl, S.grow all, hn, a18, (by show 0 < 35; decide), (by show 35 ≤ 60000000; decide), fun v n2 r2 hv g1 g2 P2 => ?_⟩
    have o2 : newOf H H18 p2 = _ := newOf_at (Same.free s1 hp2) (s18 _ _ (s17 _ _ (s16 _ _ (s15 _ _ (s14 _ _ (s13 _ _ (s12 _ _ (s11 _ _ (s10 _ _ (s9 _ _ (s8 _ _ (s7 _ _ (s6 _ _ (s5 _ _ (s4 _ _ (s3 _ _ a2))))))))))))))))
    have o3 : newOf H H18 p3 = _ := newOf_at (Same.free (Same.trans s1 s2) hp3) (s18 _ _ (s17 _ _ (s16 _ _ (s15 _ _ (s14 _ _ (s13 _ _ (s12 _ _ (s11 _ _ (s10 _ _ (s9 _ _ (s8 _ _ (s7 _ _ (s6 _ _ (s5 _ _ (s4 _ _ a3)))))))))))))))
    have o4 : newOf H H18 p4 = _ := newOf_at (Same.free (Same.trans (Same.trans s1 s2) s3) hp4) (s18 _ _ (s17 _ _ (s16 _ _ (s15 _ _ (s14 _ _ (s13 _ _ (s12 _ _ (s11 _ _ (s10 _ _ (s9 _ _ (s8 _ _ (s7 _ _ (s6 _ _ (s5 _ _ a4))))))))))))))
    have o5 : newOf H H18 p5 = _ := newOf_at (Same.free (Same.trans (Same.trans (Same.trans s1 s2) s3) s4) hp5) (s18 _ _ (s17 _ _ (s16 _ _ (s15 _ _ (s14 _ _ (s13 _ _ (s12 _ _ (s11 _ _ (s10 _ _ (s9 _ _ (s8 _ _ (s7 _ _ (s6 _ _ a5)))))))))))))
    have o8 : newOf H H18 p8 = _ := newOf_at (Same.free (Same.trans (Same.trans (Same.trans (Same.trans (Same.trans (Same.trans s1 s2) s3) s4) s5) s6) s7) hp8) (s18 _ _ (s17 _ _ (s16 _ _ (s15 _ _ (s14 _ _ (s13 _ _ (s12 _ _ (s11 _ _ (s10 _ _ (s9 _ _ a8))))))))))
    have o9 : newOf H H18 p9 = _ := newOf_at (Same.free (Same.trans (Same.trans (Same.trans (Same.trans (Same.trans (Same.trans (Same.trans s1 s2) s3) s4) s5) s6) s7) s8) hp9) (s18 _ _ (s17 _ _ (s16 _ _ (s15 _ _ (s14 _ _ (s13 _ _ (s12 _ _ (s11 _ _ (s10 _ _ a9)))))))))
    have o10 : newOf H H18 p10 = _ := newOf_at (Same.free (Same.trans (Same.trans (Same.trans (Same.trans (Same.trans (Same.trans (Same.trans (Same.trans s1 s2) s3) s4) s5) s6) s7) s8) s9) hp10) (s18 _ _ (s17 _ _ (s16 _ _ (s15 _ _ (s14 _ _ (s13 _ _ (s12 _ _ (s11 _ _ a10))))))))
    have o11 : newOf H H18 p11 = _ := newOf_at (Same.free (Same.trans (Same.trans (Same.trans (Same.trans (Same.trans (Same.trans (Same.trans (Same.trans (Same.trans s1 s2) s3) s4) s5) s6) s7) s8) s9) s10) hp11) (s18 _ _ (s17 _ _ (s16 _ _ (s15 _ _ (s14 _ _ (s13 _ _ (s12 _ _ a11)))))))
    have o12 : newOf H H18 p12 = _ := newOf_at (Same.free (Same.trans (Same.trans (Same.trans (Same.trans (Same.trans (Same.trans (Same.trans (Same.trans (Same.trans (Same.trans s1 s2) s3) s4) s5) s6) s7) s8) s9) s10) s11) hp12) (s18 _ _ (s17 _ _ (s16 _ _ (s15 _ _ (s14 _ _ (s13 _ _ a12))))))
    have o13 : newOf H H18 p13 = _ := newOf_at (Same.free (Same.trans (Same.trans (Same.trans (Same.trans (Same.trans (Same.trans (Same.trans (Same.trans (Same.trans (Same.trans (Same.trans s1 s2) s3) s4) s5) s6) s7) s8) s9) s10) s11) s12) hp13) (s18 _ _ (s17 _ _ (s16 _ _ (s15 _ _ (s14 _ _ a13)))))
    have o16 : newOf H H18 p16 = _ := newOf_at (Same.free (Same.trans (Same.trans (Same.trans (Same.trans (Same.trans (Same.trans (Same.trans (Same.trans (Same.trans (Same.trans (Same.trans (Same.trans (Same.trans (Same.trans s1 s2) s3) s4) s5) s6) s7) s8) s9) s10) s11) s12) s13) s14) s15) hp16) (s18 _ _ (s17 _ _ a16))
    have o14 : newOf H H18 p14 = _ := newOf_at (Same.free (Same.trans (Same.trans (Same.trans (Same.trans (Same.trans (Same.trans (Same.trans (Same.trans (Same.trans (Same.trans (Same.trans (Same.trans s1 s2) s3) s4) s5) s6) s7) s8) s9) s10) s11) s12) s13) hp14) (s18 _ _ (s17 _ _ (s16 _ _ (s15 _ _ a14))))
    have o15 : newOf H H18 p15 = _ := newOf_at (Same.free (Same.trans (Same.trans (Same.trans (Same.trans (Same.trans (Same.trans (Same.trans (Same.trans (Same.trans (Same.trans (Same.trans (Same.trans (Same.trans s1 s2) s3) s4) s5) s6) s7) s8) s9) s10) s11) s12) s13) s14) hp15) (s18 _ _ (s17 _ _ (s16 _ _ a15)))
    have fin : ∀ {v : V} {d : PyData}, Th K (newOf H H18) v d → ShO d → Q v (upd H18 p (.dK (penD c n2 r2))) := fun {v d} t sw => k v d n2 r2 _ (Th.grow (newOf_pen S.d) t) sw (Ext.trans (Ext.of_same all) (Ext.upd _ _ _)) P2 g1 g2
    simp only [List.mem_append, List.mem_cons, List.not_mem_nil, or_false] at hv
    rcases hv with ((rfl | rfl | rfl | rfl | rfl | rfl | rfl | rfl | rfl | rfl | rfl | rfl) | (rfl | rfl | rfl | rfl | rfl | rfl | rfl | rfl | rfl | rfl | rfl | rfl | rfl | rfl | rfl | rfl)) | (rfl | rfl | rfl | rfl | rfl | rfl | rfl)
    · exact fin (.dp .non rfl) ⟨⟨by decide +kernel, by decide +kernel, .inl (by decide +kernel)⟩, by decide +kernel⟩
    · exact fin (.dp (.bl true) rfl) ⟨⟨by decide +kernel, by decide +kernel, .inl (by decide +kernel)⟩, by decide +kernel⟩
    · exact fin (.dp (.bl false) rfl) ⟨⟨by decide +kernel, by decide +kernel, .inl (by decide +kernel)⟩, by decide +kernel⟩
    · exact fin (.dp (.int _) rfl) ⟨⟨by decide +kernel, by decide, .inr ⟨_, rfl⟩⟩, int_ok _⟩
    · exact fin (.dp (.int _) rfl) ⟨⟨by decide +kernel, by decide, .inr ⟨_, rfl⟩⟩, int_ok _⟩
    · exact fin (.dp (.int _) rfl) ⟨⟨by decide +kernel, by decide, .inr ⟨_, rfl⟩⟩, int_ok _⟩
    · exact fin (.dp (.int _) rfl) ⟨⟨by decide +kernel, by decide, .inr ⟨_, rfl⟩⟩, int_ok _⟩
    · exact fin (.dp (.int _) rfl) ⟨⟨by decide +kernel, by decide, .inr ⟨_, rfl⟩⟩, int_ok _⟩
    · exact fin (.dp (.int _) rfl) ⟨⟨by decide +kernel, by decide, .inr ⟨_, rfl⟩⟩, int_ok _⟩
    · exact fin (.dp (.int _) rfl) ⟨⟨by decide +kernel, by decide, .inr ⟨_, rfl⟩⟩, int_ok _⟩
    · exact fin (.dp (.int _) rfl) ⟨⟨by decide +kernel, by decide, .inr ⟨_, rfl⟩⟩, int_ok _⟩
    · exact fin (.dp (.int _) rfl) ⟨⟨by decide +kernel, by decide, .inr ⟨_, rfl⟩⟩, int_ok _⟩
    · exact fin (.dp (.str _) rfl) ⟨⟨by decide +kernel, by decide +kernel, .inl (by decide +kernel)⟩, by decide +kernel⟩
    · exact fin (.dp (.str _) rfl) ⟨⟨by decide +kernel, by decide +kernel, .inl (by decide +kernel)⟩, by decide +kernel⟩
    · exact fin (.dp (.str _) rfl) ⟨⟨by decide +kernel, by decide +kernel, .inl (by decide +kernel)⟩, by decide +kernel⟩
    · exact fin (.dp (.str _) rfl) ⟨⟨by decide +kernel, by decide +kernel, .inl (by decide +kernel)⟩, by decide +kernel⟩
    · exact fin (.dp (.str _) rfl) ⟨⟨by decide +kernel, by decide +kernel, .inl (by decide +kernel)⟩, by decide +kernel⟩
    · exact fin (.dp (.str _) rfl) ⟨⟨by decide +kernel, by decide +kernel, .inl (by decide +kernel)⟩, by decide +kernel⟩
    · exact fin (.dp (.str _) rfl) ⟨⟨by decide +kernel, by decide +kernel, .inl (by decide +kernel)⟩, by decide +kernel⟩
    · exact fin (.dp (.str _) rfl) ⟨⟨by decide +kernel, by decide +kernel, .inl (by decide +kernel)⟩, by decide +kernel⟩
    · exact fin (.dp (.str _) rfl) ⟨⟨by decide +kernel, by decide +kernel, .inl (by decide +kernel)⟩, by decide +kernel⟩
    · exact fin (.dp (.str _) rfl) ⟨⟨by decide +kernel, by decide +kernel, .inl (by decide +kernel)⟩, by decide +kernel⟩
    · exact fin (.dp (.str _) rfl) ⟨⟨by decide +kernel, by decide +kernel, .inl (by decide +kernel)⟩, by decide +kernel⟩
    · exact fin (.dp (.str _) rfl) ⟨⟨by decide +kernel, by decide +kernel, .inl (by decide +kernel)⟩, by decide +kernel⟩
    · exact fin (.dp (.tup (SqT.of o2) .nil) rfl) ⟨⟨by decide +kernel, by decide +kernel, .inl (by decide +kernel)⟩, by decide +kernel⟩
    · exact fin (.dp (.lst (SqL.of o3) .nil) rfl) ⟨⟨by decide +kernel, by decide +kernel, .inl (by decide +kernel)⟩, by decide +kernel⟩
    · exact fin (.dk (kvs := []) o4) ⟨⟨by decide +kernel, by decide +kernel, .inl (by decide +kernel)⟩, by decide +kernel⟩
    · exact fin (.dp (.tup (SqT.of o5) (.cons (.str _) .nil)) rfl) ⟨⟨by decide +kernel, by decide +kernel, .inl (by decide +kernel)⟩, by decide +kernel⟩
    · exact fin (.dp (.lst (SqL.of o8) (.cons (.str _) .nil)) rfl) ⟨⟨by decide +kernel, by decide +kernel, .inl (by decide +kernel)⟩, by decide +kernel⟩
    · exact fin (.dp (.tup (SqT.of o9) (.cons (.int _) (.cons (.int _) .nil))) rfl) ⟨⟨by decide +kernel, by decide +kernel, .inl (by decide +kernel)⟩, by decide +kernel⟩
    · exact fin (.dp (.tup (SqT.of o10) (.cons (.int _) (.cons (.int _) (.cons (.int _) .nil)))) rfl) ⟨⟨by decide +kernel, by decide +kernel, .inl (by decide +kernel)⟩, by decide +kernel⟩
    · exact fin (.dk (kvs := [(Sum.inr ("a" : Str), 1)]) o11) ⟨⟨by decide +kernel, by decide +kernel, .inl (by decide +kernel)⟩, by decide +kernel⟩
    · exact fin (.dp (.lst (SqL.of o12) (.cons .non .nil)) rfl) ⟨⟨by decide +kernel, by decide +kernel, .inl (by decide +kernel)⟩, by decide +kernel⟩
    · exact fin (.dp (.tup (SqT.of o13) (.cons .non (.cons (.str _) .nil))) rfl) ⟨⟨by decide +kernel, by decide +kernel, .inl (by decide +kernel)⟩, by decide +kernel⟩
    · exact fin (.dp (.tup (SqT.of o16) (.cons (.tup (SqT.of o14) (.cons (.int _) (.cons (.int _) (.cons (.int _) .nil)))) (.cons (.tup (SqT.of o15) (.cons (.int _) (.cons (.int _) (.cons (.int _) .nil)))) .nil))) rfl) ⟨⟨by decide +kernel, by decide +kernel, .inl (by decide +kernel)⟩, by decide +kernel⟩
end
end Toy
end

section
set_option Elab.async false
set_option linter.all false
set_option maxRecDepth 100000
namespace Toy
open PySem L2 Gd LamX
/-! ### _law_refused -/
abbrev sRef : Stmt := top 23
theorem takes_len {X : Cx} {W : WX} (t : Takes X W) : Takes X (fun cls d σ H => σ.length = X.N.length → W cls d σ H) := by
  intro u s' x
  obtain ⟨a, B, sI, pins, σ, H, cls, d, e, I, nb, up, sky, na, os, ag, w⟩ := x
  exact t u s' ⟨a, B, sI, pins, σ, H, cls, d, e, I, nb, up, sky, na, os, ag, w I.len⟩
theorem NoG.mark {A : Around} (h : NoG A) (v : Option Value) : NoG (A.mark v) := h
def rRep (K : PySem.W.Frag) : List V → Hp → VK → Prop := fun xs H Q => ∃ v d, xs = [v] ∧ Th K H v d ∧ d.showable = true ∧ d.depth ≤ 60 ∧ (d.shown.length ≤ sizeLine ∨ ∃ i, d = .int i) ∧ Q (.str d.shown) H
theorem call_reprS {X : Cx} {a : Addr} {pn : List (Addr × Obj)} (ng : NoG X.A) (hu : X.A.units + 64 < cLine) : CallR (X.suite a pn) (.builtin "repr") (rRep X.K) := call_reprD (X := X.suite a pn) ng hu
/-- what the clauses ask of the written part -/
structure RefT (K : PySem.W.Frag) (mg : Str → Option Value) (CA CN CF CB : Addr) : Prop where
  mA : mg "InvalidAxis" = some (.ref CA)
  mN : mg "InvalidNumber" = some (.ref CN)
  mF : mg "InvalidFront" = some (.ref CF)
  mB : mg "OutOfBounds" = some (.ref CB)
  aa : PySem.W.exmOne K (.ref CA) (.ref CA) = some true
  na : PySem.W.exmOne K (.ref CN) (.ref CA) = some false
  nn : PySem.W.exmOne K (.ref CN) (.ref CN) = some true
  fa : PySem.W.exmOne K (.ref CF) (.ref CA) = some false
  fn : PySem.W.exmOne K (.ref CF) (.ref CN) = some false
  ff : PySem.W.exmOne K (.ref CF) (.ref CF) = some true
  ba : PySem.W.exmOne K (.ref CB) (.ref CA) = some false
  bn : PySem.W.exmOne K (.ref CB) (.ref CN) = some false
  bf : PySem.W.exmOne K (.ref CB) (.ref CF) = some false
  bb : PySem.W.exmOne K (.ref CB) (.ref CB) = some true
  xA : XfC K CA
  xN : XfC K CN
  xF : XfC K CF
  vA : PySem.W.findIn K (.ref CA) kv = some none
  vN : PySem.W.findIn K (.ref CN) kv = some none
  vF : PySem.W.findIn K (.ref CF) kv = some none
  eA : ExcC K CA
  eN : ExcC K CN
  eF : ExcC K CF
  eB : ExcC K CB
  kA : PySem.W.kitOne K (.ref CA) (.type "ValueError") = some true
  kN : PySem.W.kitOne K (.ref CN) (.type "ValueError") = some true
  kF : PySem.W.kitOne K (.ref CF) (.type "ValueError") = some true
  kB : PySem.W.kitOne K (.ref CB) (.type "ValueError") = some true
  ve : mg "ValueError" = none
/-- an error with a value, told as such a list -/
def OneOf (K : PySem.W.Frag) (C : Addr) (x : Str) (Q : VK) : XK := fun cls d H => cls = .ref C ∧ ∃ v dat dd, d = some dd ∧ H dd = some (.xd [(kv, v)]) ∧ Th K H v dat ∧ Shw dat ∧
  ∀ l H', Same H H' → H' l = some (.lst [.str x, .str dat.shown, .bl true]) → Q (.ref l) H'
def NoneOf (C : Addr) (Q : VK) : XK := fun cls d H => cls = .ref C ∧ d = none ∧ ∀ l H', Same H H' → H' l = some (.lst [.str wB, .str "", .bl true]) → Q (.ref l) H'
def EchR (K : PySem.W.Frag) (CA CN CF CB : Addr) (Q : VK) : XK := fun cls d H => OneOf K CA wA Q cls d H ∨ OneOf K CN wN Q cls d H ∨ OneOf K CF wF Q cls d H ∨ NoneOf CB Q cls d H
def TRef (K : PySem.W.Frag) (CA CN CF CB : Addr) : (XK → Hp → VK → Prop) → Hp → VK → Prop := fun tl H Q => tl (EchR K CA CN CF CB Q) H (fun _ H1 => Q .non H1)
theorem told_at {K : PySem.W.Frag} {C a dd : Addr} {u0 : Option V} {v : V} {dat : PyData} {x : Str} {H' : Hp} {R : VK} (hd : H' dd = some (.xd [(kv, v)])) (ht : Th K H' v dat) (hs : Shw dat)
    (hk : PySem.W.kitOne K (.ref C) (.type "ValueError") = some true) (na : H' a = none)
    (hq : ∀ l H2, Same H' H2 → H2 l = some (.lst [.str x, .str dat.shown, .bl true]) → R (.ref l) H2) :
    (tLst (tCons (tC (.str x)) (tCons (tCB (rRep K) (tCons (tXf a (.ref C) (some dd) C kv (tVar 1)) tNil))
      (tCons (tCB (fun xs H_1 Q => (Value.ref C) = Value.ref C ∧ (∀ d0 : Addr, some dd = some d0 → ∃ fs, H_1 d0 = some (HO.xd fs)) ∧ rIsE K C a xs H_1 Q) (tCons (tVar 1) (tCons (tC (.ty "ValueError")) tNil))) tNil))))
      ([u0, some (.ref a)] : L2.St) H' R := by
  refine ⟨.ref a, rfl, rfl, rfl, dd, _, v, rfl, hd, rfl, v, dat, rfl, ht, hs.sh, hs.dep, hs.sz, .ref a, rfl, rfl, fun d0 e => ?_, .ty "ValueError", .type "ValueError", true, rfl, fun u r => r, hk, by show (3:Nat) ≤ sizeLine; decide, fun p hp => hq p _ ?_ upd_same⟩
  · cases e
    exact ⟨_, hd⟩
  · exact same_new hp
abbrev NR : List Str := ["_law_call", "e"]
theorem scRef : FnScope NR ["_law_call"] (defScope sRef) := ⟨rfl, rfl, rfl, by decide +kernel, rfl, by decide +kernel, by decide +kernel⟩
set_option maxHeartbeats 2000000 in
theorem ref_gives {X : Cx} {x q : Str} {g CA CN CF CB : Addr} {cdg : Value} (R : RefT X.K X.mg CA CN CF CB) (T : TxtR X.K X.mg) (ng : NoG X.A) (hu : X.A.units + 200 < cLine) :
    GivesTo X NR x (defScope sRef) g cdg (defBody sRef) "_law_call" q (TRef X.K CA CN CF CB) := by
  intro f c' s H Q tl act hc h
  have ngY : NoG (cxOf C8.CX0 X.prog X.w X.K X.mg X.base NR x (defScope sRef) g cdg X.A X.stack s H C8.E0).nox.A := ng.deeper _
  have huY : (cxOf C8.CX0 X.prog X.w X.K X.mg X.base NR x (defScope sRef) g cdg X.A X.stack s H C8.E0).nox.A.units + 64 < cLine := by
    show (X.A.deeper _).units + 64 < cLine
    have e : ∀ env : Env, (X.A.deeper env).units ≤ X.A.units + 16 := fun env => by
      simp [Around.deeper]
    exact Nat.lt_of_le_of_lt (Nat.add_le_add_right (e _) 64) (by omega)
  refine ⟨_, pss_cons (ps_try_each (X := (cxOf C8.CX0 X.prog X.w X.K X.mg X.base NR x (defScope sRef) g cdg X.A X.stack s H C8.E0).nox)
      (tb := fun W D σ H => ∃ Ech : XK, (∀ cls d σ' H', Ech cls d H' → σ'.length = 2 → W cls d σ' H') ∧ σ[0]? = some (some (.ref f)) ∧ H c' = some (CodeO c' q) ∧ tl Ech H (fun _ H1 => D.nx σ H1))
      rfl rfl scRef.nd L2.takes0 (fun W pn xe tk _ => ?_)
      (Clauses.cons (c := .ref CA) (i := 1) ⟨by rfl, by decide, .inl R.mA⟩ rfl rfl (fun a oe kls d pn hz hf =>
          pss_one (ps_ret (pe_lst (pa_cons pe_str (pa_cons (pe_callB (id := "repr") (call_reprS (X := (cxOf C8.CX0 X.prog X.w X.K X.mg X.base NR x (defScope sRef) g cdg X.A X.stack s H C8.E0).nox) ngY huY) (by rfl) T.repr (by decide +kernel) (pa_cons (pe_xf R.xA R.vA hz hf (pv 1)) pa_nil))
            (pa_cons (pe_callB (call_isX R.eA hz hf) (by rfl) T.isi (by decide +kernel) (pa_cons (pv 1) (pa_cons (pe_bltn (by rfl) R.ve (by decide +kernel) (v := .ty "ValueError") rfl) pa_nil))) pa_nil))))))
      (Clauses.cons (c := .ref CN) (i := 1) ⟨by rfl, by decide, .inl R.mN⟩ rfl rfl (fun a oe kls d pn hz hf =>
          pss_one (ps_ret (pe_lst (pa_cons pe_str (pa_cons (pe_callB (id := "repr") (call_reprS (X := (cxOf C8.CX0 X.prog X.w X.K X.mg X.base NR x (defScope sRef) g cdg X.A X.stack s H C8.E0).nox) ngY huY) (by rfl) T.repr (by decide +kernel) (pa_cons (pe_xf R.xN R.vN hz hf (pv 1)) pa_nil))
            (pa_cons (pe_callB (call_isX R.eN hz hf) (by rfl) T.isi (by decide +kernel) (pa_cons (pv 1) (pa_cons (pe_bltn (by rfl) R.ve (by decide +kernel) (v := .ty "ValueError") rfl) pa_nil))) pa_nil))))))
      (Clauses.cons (c := .ref CF) (i := 1) ⟨by rfl, by decide, .inl R.mF⟩ rfl rfl (fun a oe kls d pn hz hf =>
          pss_one (ps_ret (pe_lst (pa_cons pe_str (pa_cons (pe_callB (id := "repr") (call_reprS (X := (cxOf C8.CX0 X.prog X.w X.K X.mg X.base NR x (defScope sRef) g cdg X.A X.stack s H C8.E0).nox) ngY huY) (by rfl) T.repr (by decide +kernel) (pa_cons (pe_xf R.xF R.vF hz hf (pv 1)) pa_nil))
            (pa_cons (pe_callB (call_isX R.eF hz hf) (by rfl) T.isi (by decide +kernel) (pa_cons (pv 1) (pa_cons (pe_bltn (by rfl) R.ve (by decide +kernel) (v := .ty "ValueError") rfl) pa_nil))) pa_nil))))))
      (Clauses.cons (c := .ref CB) (i := 1) ⟨by rfl, by decide, .inl R.mB⟩ rfl rfl (fun a oe kls d pn hz hf =>
          pss_one (ps_ret (pe_lst (pa_cons pe_str (pa_cons pe_str
            (pa_cons (pe_callB (call_isX R.eB hz hf) (by rfl) T.isi (by decide +kernel) (pa_cons (pv 1) (pa_cons (pe_bltn (by rfl) R.ve (by decide +kernel) (v := .ty "ValueError") rfl) pa_nil))) pa_nil))))))
      .nil))))) (pss_one (ps_ret pe_non)), ?_⟩
  · constructor
    intro pins s1 σ1 G1 D I1 hh
    obtain ⟨Ech, hE, h0, hc1, ht⟩ := hh
    exact (pss_one (ps_expr (act _ pn xe Ech _ _ (takes_len tk) hE))).run pins s1 σ1 G1 D I1 ⟨h0, hc1, ht⟩
  · refine ⟨EchR X.K CA CN CF CB Q, fun cls d σ' H' hx hl => ?_, rfl, hc, h⟩
    match σ', hl with
    | [u0, u1], _ =>
      rcases hx with ⟨rfl, v, dat, dd, rfl, hd, ht, hs, hq⟩ | ⟨rfl, v, dat, dd, rfl, hd, ht, hs, hq⟩ | ⟨rfl, v, dat, dd, rfl, hd, ht, hs, hq⟩ | ⟨rfl, rfl, hq⟩
      · exact ⟨true, R.aa, fun _ a na => told_at hd ht hs R.kA na hq, (by intro q; cases q)⟩
      · exact ⟨false, R.na, (by intro q; cases q), fun _ => ⟨true, R.nn, fun _ a na => told_at hd ht hs R.kN na hq, (by intro q; cases q)⟩⟩
      · exact ⟨false, R.fa, (by intro q; cases q), fun _ => ⟨false, R.fn, (by intro q; cases q), fun _ => ⟨true, R.ff, fun _ a na => told_at hd ht hs R.kF na hq, (by intro q; cases q)⟩⟩⟩
      · exact ⟨false, R.ba, (by intro q; cases q), fun _ => ⟨false, R.bn, (by intro q; cases q), fun _ => ⟨false, R.bf, (by intro q; cases q), fun _ => ⟨true, R.bb, fun _ a na =>
          ⟨.ref a, rfl, rfl, fun d0 e => (by cases e), .ty "ValueError", .type "ValueError", true, rfl, fun u r => r, R.kB, by decide, fun p hp => hq p _ (same_new hp) upd_same⟩, (by intro q; cases q)⟩⟩⟩⟩
end Toy
end

section
set_option Elab.async false
set_option linter.all false
set_option maxRecDepth 100000
namespace Toy
open PySem PySem.Spec PyProof.Rows L2 Gd LamX
theorem int_sh {n : Int} (h : within n = true) : (PyData.shown (.int n)).length ≤ 40 := by
  have h' : -1000000000000000000000000000000 ≤ n ∧ n ≤ 1000000000000000000000000000000 := of_decide_eq_true h
  have z : n.natAbs < 10 ^ 31 := by
    have e : (10 : Nat) ^ 31 = 10000000000000000000000000000000 := by decide +kernel
    rw [e]
    omega
  have e := PySem.int_text_length_le10 (k := 31) (by decide) z
  show (Str.ofString (toString n)).length ≤ 40
  rw [PySem.ofString_length]
  omega
theorem int_lg {n : Int} (h : within n = true) : n.natAbs.log2 < 100 := by
  have h' : -1000000000000000000000000000000 ≤ n ∧ n ≤ 1000000000000000000000000000000 := of_decide_eq_true h
  by_cases z : n.natAbs = 0
  · rw [z]
    decide
  · refine (Nat.log2_lt z).mpr ?_
    have e : (2 : Nat) ^ 100 = 1267650600228229401496703205376 := by decide +kernel
    rw [e]
    omega
theorem str_sh {a : Str} (ax : (axV (.str a)).isSome = true) : (PyData.str a).leavesShort 40 = true ∧ (PyData.str a).showable = true ∧ a.cps.size = 1 := by
  rcases ax_cases ax with rfl | rfl | rfl <;> decide +kernel
theorem int_wt {n : Int} (h : within n = true) : (if n = 0 then 0 else n.natAbs.log2 + 1) ≤ 101 := by
  have := int_lg h
  split <;> omega
theorem sh3L {a : Str} {t f : Int} (ax : (axV (.str a)).isSome = true) (ht : within t = true) (hf : within f = true) : Shw (.list [.str a, .int t, .int f]) := by
  have e1 := int_sh ht
  have e2 := int_sh hf
  have e3 := str_sh ax
  have l1 := int_lg ht
  have l2 := int_lg hf
  have w1 := int_wt ht
  have w2 := int_wt hf
  refine ⟨?_, ?_, .inl (Nat.le_trans (PyData.shown_le 40 (by decide) _ ?_) ?_)⟩
  · simp [PyData.showable, PyData.showableAll, e3.2.1]
    omega
  · simp [PyData.depth, PyData.depthAll]
  · simp only [PyData.leavesShort, PyData.leavesShortAll, Bool.and_eq_true, decide_eq_true_eq]
    exact ⟨e3.1, e1, e2, trivial⟩
  · simp [PyData.weight, PyData.weightAll, e3.2.2]
    unfold sizeLine
    omega
theorem sh3T {x y z : Int} (hx : within x = true) (hy : within y = true) (hz : within z = true) : Shw (.tuple [.int x, .int y, .int z]) := by
  have e1 := int_sh hx
  have e2 := int_sh hy
  have e3 := int_sh hz
  have l1 := int_lg hx
  have l2 := int_lg hy
  have l3 := int_lg hz
  have w1 := int_wt hx
  have w2 := int_wt hy
  have w3 := int_wt hz
  refine ⟨?_, ?_, .inl (Nat.le_trans (PyData.shown_le 40 (by decide) _ ?_) ?_)⟩
  · simp [PyData.showable, PyData.showableAll]
    omega
  · simp [PyData.depth, PyData.depthAll]
  · simp only [PyData.leavesShort, PyData.leavesShortAll, Bool.and_eq_true, decide_eq_true_eq]
    exact ⟨e1, e2, e3, trivial⟩
  · simp [PyData.weight, PyData.weightAll]
    unfold sizeLine
    omega
abbrev D3 (v1 v2 v3 : V) : List (Key × V) := [(Sum.inr sx, v1), (Sum.inr sy, v2), (Sum.inr sz, v3)]
theorem kne {a b : Str} (h : ¬ a = b) : ¬ (Sum.inr a : Key) = Sum.inr b := fun z => h (Sum.inr.inj z)
theorem merge3 (v1 v2 v3 : V) : mergeK [] (D3 v1 v2 v3) = D3 v1 v2 v3 := by
  unfold mergeK
  simp only [D3, List.foldl]
  rw [putK_new (kvs := []) (k := Sum.inr sx) _ rfl, putK_new (k := Sum.inr sy) _ (by rw [List.nil_append, valV_neg (kne (fun z => nyx z.symm))] <;> rfl),
    putK_new (k := Sum.inr sz) _ (by rw [List.nil_append]; show valV [(Sum.inr sx, v1), (Sum.inr sy, v2)] (Sum.inr sz) = none; rw [valV_neg (kne (fun z => nzx z.symm)), valV_neg (kne (fun z => nzy z.symm))]; rfl)]
  rfl
theorem get3 {H : Hp} {d : Addr} {a : Str} {t1 t2 t3 : Addr} {xs ys zs : List V} (ax : (axV (.str a)).isSome = true) (h : H d = some (.dK (D3 (.ref t1) (.ref t2) (.ref t3)))) (h1 : H t1 = some (.tup xs)) (h2 : H t2 = some (.tup ys)) (h3 : H t3 = some (.tup zs)) :
    ∃ tz, DGet H d (.str a) (some (.ref tz)) ∧ H tz = some (.tup (if a = sx then xs else if a = sy then ys else zs)) := by
  have g : DGet H d (.str a) (valV (D3 (.ref t1) (.ref t2) (.ref t3)) (Sum.inr a)) := DGet.k (k := Sum.inr a) h
  rcases ax_cases ax with rfl | rfl | rfl
  · exact ⟨t1, by rwa [valV_pos rfl] at g, by rw [if_pos rfl]; exact h1⟩
  · exact ⟨t2, by rwa [valV_neg (kne (fun z => nyx z.symm)), valV_pos rfl] at g, by rw [if_neg nyx, if_pos rfl]; exact h2⟩
  · exact ⟨t3, by rwa [valV_neg (kne (fun z => nzx z.symm)), valV_neg (kne (fun z => nzy z.symm)), valV_pos rfl] at g, by rw [if_neg nzx, if_neg nzy]; exact h3⟩
theorem disp3 {σ : L2.St} {H : Hp} {Q : VK} {ta tb tc : TE} {a : Str} {xs ys zs : List V} (ax : (axV (.str a)).isSome = true)
    (hA : ∀ (H : Hp) (Q : VK), (∀ p, H p = none → Q (.ref p) (upd H p (.tup xs))) → ta σ H Q) (hB : ∀ (H : Hp) (Q : VK), (∀ p, H p = none → Q (.ref p) (upd H p (.tup ys))) → tb σ H Q) (hC : ∀ (H : Hp) (Q : VK), (∀ p, H p = none → Q (.ref p) (upd H p (.tup zs))) → tc σ H Q)
    (k : ∀ d tz H', Same H H' → DGet H' d (.str a) (some (.ref tz)) → H' tz = some (.tup (if a = sx then xs else if a = sy then ys else zs)) → Q (.ref d) H') :
    tDisp [(tC (.str "x"), ta), (tC (.str "y"), tb), (tC (.str "z"), tc)] σ H Q := by
  intro d hd
  refine hA _ _ fun t1 h1 => hB _ _ fun t2 h2 => hC _ _ fun t3 h3 => ?_
  have n1 : d ≠ t1 := ne_of_none upd_same h1
  have e1 : upd (upd H d (.dK [])) t1 (.tup xs) t1 = some (.tup xs) := upd_same
  have d1 : upd (upd H d (.dK [])) t1 (.tup xs) d = some (.dK []) := by rw [upd_ne n1, upd_same]
  have s1 : Same H (upd (upd H d (.dK [])) t1 (.tup xs)) := (same_new hd).trans (same_new h1)
  generalize upd (upd H d (.dK [])) t1 (.tup xs) = H1 at e1 d1 s1 h2 h3 ⊢
  have s2 : Same H1 (upd H1 t2 (.tup ys)) := same_new h2
  have e2 : upd H1 t2 (.tup ys) t2 = some (.tup ys) := upd_same
  generalize upd H1 t2 (.tup ys) = H2 at s2 e2 h3 ⊢
  have s3 : Same H2 (upd H2 t3 (.tup zs)) := same_new h3
  have e3 : upd H2 t3 (.tup zs) t3 = some (.tup zs) := upd_same
  generalize upd H2 t3 (.tup zs) = H3 at s3 e3 ⊢
  have f1 := s3 _ _ (s2 _ _ e1)
  have f2 := s3 _ _ e2
  have fd := s3 _ _ (s2 _ _ d1)
  refine ⟨fd, D3 (.ref t1) (.ref t2) (.ref t3), rfl, (by show 3 ≤ 15; decide), ?_⟩
  rw [merge3]
  have ne : ∀ {t : Addr} {xs : List V}, H3 t = some (.tup xs) → upd H3 d (.dK (D3 (.ref t1) (.ref t2) (.ref t3))) t = some (.tup xs) := fun {t xs} e => by
    rw [upd_ne (fun z => by rw [z, fd] at e; cases e)]
    exact e
  obtain ⟨tz, g1, g2⟩ := get3 ax (upd_same (H := H3) (a := d) (o := .dK (D3 (.ref t1) (.ref t2) (.ref t3)))) (ne f1) (ne f2) (ne e3)
  refine k d tz _ (fun b o e => ?_) g1 g2
  have e' := s3 _ _ (s2 _ _ (s1 _ _ e))
  rw [upd_ne (ne_of_none e hd)]
  exact e'
theorem plEq_same (a : Str) (t f g : Int) (e : f = g) : plEq a a t t f g = true := by
  subst e
  unfold plEq
  simp
theorem plEq_other (a : Str) (t u f g : Int) (e : ¬ f = g) : plEq a a t u f g = false := by
  unfold plEq
  simp [e]
theorem ty_pl {K : PySem.W.Frag} {mg : Str → Option Value} {C q dx : Addr} {H : Hp} {fs : List (Str × V)} (T : PlT K C) (N : InsT K mg C) (h : H q = some (.ins C dx fs)) : TyX K H (.ref q) (.ref C) := .base (.ins h T.cl N.ha N.hn N.ht N.hm)
theorem PenAt.growN {H H' : Hp} {p c : Addr} {ns : List Int} {n r : Int} (P : PenAt H p c ns n r) (e : ExtN H H') : PenAt H' p c ns n r := ⟨e _ _ P.d (by intro ps z; cases z), e _ _ P.l (by intro ps z; cases z), P.n0, P.nb, P.r0, P.len⟩
theorem eqv_bounds : PyData.eqv (.list [.str wB, .str "", .bool true]) (.list [.str wB, .str "", .bool true]) = true := by decide +kernel
theorem eqv_tup (a : Str) (x f : Int) : PyData.eqv (.tuple [.str a, .int x, .int f]) (.tuple [.str a, .int x, .int f]) = true := by
  simp [PyData.eqv, PyData.eqvAll]
theorem shaped_tup {a : Str} (ax : (axV (.str a)).isSome = true) (x f : Int) : SeqAt.shaped (.tuple [.str a, .int x, .int f]) = true := by
  have e : PyData.strOk a = true := by rcases ax_cases ax with rfl | rfl | rfl <;> decide +kernel
  simp [SeqAt.shaped, PyData.canLay0, PyData.canLayAll0, PyData.depth, PyData.depthAll, e]
theorem pl_step {a : Str} {t fr st : Int} (hf : fr = 1 ∨ fr = -1) : decide (V.bl (plEq a a (t + fr * st) t fr fr) = V.bl (decide (V.int st = V.int 0))) = true := by
  rw [dint]
  by_cases h : st = 0
  · subst h
    rw [show t + fr * 0 = t by rcases hf with rfl | rfl <;> omega, plEq_same a t _ _ rfl]
    rfl
  · have e : plEq a a (t + fr * st) t fr fr = false := by
      unfold plEq
      have : ¬ (t + fr * st = t) := by rcases hf with rfl | rfl <;> omega
      simp [this]
    rw [e, decide_eq_false h]
    rfl
/-! ### a plane's class, all of it -/
def HasFn (P : Program) (w : World) (K : PySem.W.Frag) (mg : Str → Option Value) (base : Heap) (CX : CXT) (k : Nat) (ps : List Str) (sp : Sp) (R : Addr → Prop) : Prop :=
  ∃ f fd, R f ∧ Binds K fd ps [] ∧ FnOk P w K mg base CX k f fd ps sp
def DunAt (K : PySem.W.Frag) (C : Addr) (m : Str) (f : Addr) : Prop := PySem.W.findIn K (.ref C) m = some (some (.ref f)) ∧ PySem.W.isFn K (.ref f) = true
abbrev baseTs : List String := ["NoneType", "bool", "int", "str", "list", "tuple", "dict"]
structure PlM (P : Program) (w : World) (K : PySem.W.Frag) (mg : Str → Option Value) (base : Heap) (C CA CN CF CB : Addr) : Prop where
  T : PlT K C
  N : InsT K mg C
  ini : ∃ fI fdI, Mk K C fI ∧ Binds K fdI ["self", "axis", "at", "front"] [] ∧ (∃ t, Binds K fdI ["self", "axis", "at", "front"] [.int 1 t]) ∧ FnOk P w K mg base (L2.CX P w) 4 fI fdI ["self", "axis", "at", "front"] (spPInit K C CA CN CF)
  neg : HasFn P w K mg base CX0 6 ["self"] (spPNeg C) (DunAt K C "__neg__")
  add : HasFn P w K mg base (L2.CX P w) 6 ["self", "number"] (spPAdd K C CN CB) (DunAt K C "__add__")
  first : PySem.W.selfFirst K C = true
  noR : PySem.W.findIn K (.ref C) "__radd__" = some none
  plus : ∀ T ∈ baseTs, PlusT K C T
  eq : HasFn P w K mg base CX0 1 ["self", "other"] (spPEq K C) (DunAt K C "__eq__")
  ne : PySem.W.findIn K (.ref C) "__ne__" = some (some (.builtin "object.__ne__"))
  notI : ∀ T ∈ baseTs, PySem.W.notFirst K C (.type T) = true
  ownI : PySem.W.notFirst K C (.ref C) = true
  kitI : ∀ T ∈ baseTs, PySem.W.kitOne K (.type T) (.ref C) = some false
  gA : HasFn P w K mg base CX0 1 ["self"] (getSp C fA) (fun g => ∃ p, PropOf K C "axis" p g)
  gT : HasFn P w K mg base CX0 1 ["self"] (getSp C fT) (fun g => ∃ p, PropOf K C "at" p g)
  gF : HasFn P w K mg base CX0 1 ["self"] (getSp C fF) (fun g => ∃ p, PropOf K C "front" p g)
  gD : HasFn P w K mg base CX0 5 ["self"] (spPDirs C) (fun g => ∃ p, PropOf K C "directions" p g)
  pt : HasFn P w K mg base CX0 5 ["self", "u", "v"] (spPPoint C) (fun f => Meth K C "point_at" f)
/-- all but the pen and the tables stay -/
def ExtP (p : Addr) (H H' : Hp) : Prop := ∀ b o, b ≠ p → H b = some o → (∀ ps, o ≠ .tbl ps) → H' b = some o
theorem ExtP.refl (p : Addr) (H : Hp) : ExtP p H H := fun _ _ _ h _ => h
theorem ExtP.trans {p : Addr} {H H1 H2 : Hp} (a : ExtP p H H1) (b : ExtP p H1 H2) : ExtP p H H2 := fun c o n h t => b c o n (a c o n h t) t
theorem ExtP.of {p : Addr} {H H' : Hp} (e : Ext p H H') : ExtP p H H' := fun b o n h _ => e b o n h
theorem ExtP.ofN {p : Addr} {H H' : Hp} (e : ExtN H H') : ExtP p H H' := fun b o _ h t => e b o h t
theorem Ext.ofS {p : Addr} {H H' : Hp} (e : Same H H') : Ext p H H' := fun b o _ h => e b o h
theorem Tabs.extp {TT : List (Addr × Str)} {H H' : Hp} {p : Addr} (t : Tabs TT H) (e : Ext p H H') (np : ∀ x ∈ TT, x.1 ≠ p) (nc : ∀ q, H p ≠ some (CodeO p q)) : Tabs TT H' := by
  intro x hx
  obtain ⟨ps, h1, h2, h3⟩ := t x hx
  refine ⟨ps, e _ _ (np x hx) h1, h2, fun pos cv hc => ?_⟩
  obtain ⟨c, e1, e2⟩ := h3 pos cv hc
  refine ⟨c, e1, e _ _ (fun z => ?_) e2⟩
  subst z
  exact nc _ e2
/-- the pen is no table and no code object -/
theorem Tabs.pen {TT : List (Addr × Str)} {H H' : Hp} {p c : Addr} {ns : List Int} {n r : Int} (t : Tabs TT H) (e : Ext p H H') (S : PenAt H p c ns n r) : Tabs TT H' := by
  refine Tabs.extp t e (fun x hx z => ?_) (fun q z => ?_)
  · obtain ⟨ps, h1, _⟩ := t x hx
    rw [z, S.d] at h1
    cases h1
  · rw [S.d] at z
    unfold CodeO at z
    cases z
theorem PlAt.ext {p C q : Addr} {a : Str} {t f : Int} {H H' : Hp} {c : Addr} {ns : List Int} {n r : Int} (h : PlAt C H q a t f) (e : ExtP p H H') (S : PenAt H p c ns n r) : PlAt C H' q a t f := by
  obtain ⟨dx, hq⟩ := h
  refine ⟨dx, e _ _ (fun z => ?_) hq (by intro ps z; cases z)⟩
  rw [z, S.d] at hq
  cases hq
/-- the def that is told what raises -/
structure RefM (K : PySem.W.Frag) (mg : Str → Option Value) (g : Addr) (fd : FuncData) (cdv : Value) : Prop where
  m : mg "_law_refused" = some (.ref g)
  k : PySem.W.keepIn K (.ref g) = true
  b : Binds K fd ["_law_call"] []
  cd : PySem.W.codeIn K cdv "_law_refused" = true
  lk : ∃ (oc : Value) (od : Option Addr) (dV kV doc pm : Value) (an : Option Addr) (ct : Value) (osl : Array (Option Value)),
    fd = PySem.W.fnOf "_law_refused" "_law_refused" (defArgs sRef) (defBody sRef) (defScope sRef) dV kV doc pm an cdv ct ∧ K.lookup g = some ⟨oc, od, .func fd, osl⟩
/-- a def whose code object is known -/
structure FunC (K : PySem.W.Frag) (x qual : Str) (st : Stmt) (f c : Addr) (fd : FuncData) : Prop where
  ex : ∃ (oc : Value) (od : Option Addr) (dV kV doc pm : Value) (an : Option Addr) (ct : Value) (osl : Array (Option Value)),
    fd = PySem.W.fnOf x qual (defArgs st) (defBody st) (defScope st) dV kV doc pm an (.ref c) ct ∧ K.lookup f = some ⟨oc, od, .func fd, osl⟩ ∧ PySem.W.codeIn K (.ref c) qual = true
theorem okGC {P : Program} {w : World} {K : PySem.W.Frag} {mg : Str → Option Value} {base : Heap} {x qual : Str} {st : Stmt} {f c : Addr} {fd : FuncData} {N ps : List Str} {k : Nat} {sp : Sp} (F : FunC K x qual st f c fd) (S : FnScope N ps (defScope st))
    (many : ∀ vs H Q E, sp vs H Q E → vs.length = ps.length)
    (hb : ∀ (A : Around) (out : List Env) (s : Shared) (H : Hp) (vs : List V) (Q : VK) (E : XK),
      NoG (A.deeper (envOfC qual (defScope st) s.heap.objs.size f (.ref c))) → Room k (A.deeper (envOfC qual (defScope st) s.heap.objs.size f (.ref c))) → sp vs H Q E →
      ∃ t, PSs (cxOf CX0 P w K mg base N qual (defScope st) f (.ref c) A out s H E).nox (defBody st) t ∧ t { nx := fun _ H' => Q .non H', rt := Q } (start N vs) H) :
    FnG P w K mg base CX0 (k + 1) f fd ps sp := by
  obtain ⟨oc, od, dV, kV, doc, pm, an, ct, osl, rfl, lk, hcd⟩ := F.ex
  refine fn_g lk hcd S many ?_
  intro A out s H vs Q E ng hr hs
  obtain ⟨t, h, q⟩ := hb A out s H vs Q E ng hr hs
  exact ⟨t, h.nox, q⟩
/-- a plane and what is added to it -/
def rAdd (K : PySem.W.Frag) (C CN CB : Addr) (E : XK) : R2 := fun x y H Q => ∃ a dx fs T, x = .ref a ∧ H a = some (.ins C dx fs) ∧ TyX K H y (.type T) ∧ PlusT K C T ∧ spPAdd K C CN CB [.ref a, y] H Q E
abbrev sRight : Stmt := top 26
abbrev NRt : List Str := ["_law_pen_here", "_law_plane", "_law_axis", "_law_place", "_law_front", "_law_u", "_law_v", "_law_ends", "_law_due_here", "_law_moved", "_law_step"]
abbrev psRt : List Str := ["_law_pen_here", "_law_plane", "_law_axis", "_law_place", "_law_front"]
def spRight (C : Addr) (TT : List (Addr × Str)) : Sp := fun vs H Q _ => ∃ (p c : Addr) (ns : List Int) (n r : Int) (q : Addr) (a : Str) (t f : Int), vs = [.ref p, .ref q, .str a, .int t, .int f] ∧ PenAt H p c ns n r ∧ n < 800000 ∧
  PlAt C H q a t f ∧ (axV (.str a)).isSome = true ∧ within t = true ∧ (f = 1 ∨ f = -1) ∧ Tabs TT H ∧
  ∀ (n' r' : Int) (H' : Hp), n ≤ n' → n' ≤ n + 40 → ExtP p H H' → PenAt H' p c ns n' r' → Tabs TT H' → Q (.bl true) H'
theorem scRt : FnScope NRt psRt (defScope sRight) := ⟨rfl, rfl, rfl, by decide +kernel, rfl, by decide +kernel, by decide +kernel⟩
theorem CPa : CPow 10 30 := ⟨by decide, by decide, by decide⟩
theorem CPb : CPow 10 50 := ⟨by decide, by decide, by decide⟩
theorem CPc : CPow 10 40 := ⟨by decide, by decide, by decide⟩
theorem CM2 (j : Int) : CMul 2 j := .inl ⟨by decide, by decide⟩
theorem CMf {fr : Int} (h : fr = 1 ∨ fr = -1) (j : Int) : CMul fr j := .inl ⟨by omega, by omega⟩
theorem CW1 : CMulW (10 ^ (50 : Int).toNat) (10 ^ (40 : Int).toNat) := by unfold L2.CMulW; decide +kernel
def midR (p q c : Addr) (ns : List Int) (n : Int) (a : Str) (t fr u v : Int) (H0 : Hp) (TT : List (Addr × Str)) : L2.St → Hp → Prop := fun σ H' => ∃ (st : Int) (o7 : Option V) (n4 r4 : Int),
  σ = [some (.ref p), some (.ref q), some (.str a), some (.int t), some (.int fr), some (.int u), some (.int v), o7, none, none, some (.int st)] ∧ Ext p H0 H' ∧ n ≤ n4 ∧ n4 ≤ n + 40 ∧ PenAt H' p c ns n4 r4
section
variable {P : Program} {w : World} {K : PySem.W.Frag} {mg : Str → Option Value} {base : Heap} {f C CA CN CF CB : Addr} {fd : FuncData}
set_option maxHeartbeats 4000000 in
theorem ok_right {cR PR gR : Addr} {fdR : FuncData} {cdR : Value} {TT : List (Addr × Str)} (F : FunC K "_law_right" "_law_right" sRight f cR fd) (T : TxtR K mg) (TBB : TabB base mg cR PR) (hmT : (PR, ("_law_right.<locals>.<lambda>" : Str)) ∈ TT) (hqT : ∀ p ∈ TT, p.1 = PR → p.2 = ("_law_right.<locals>.<lambda>" : Str))
    (MM : PlM P w K mg base C CA CN CF CB) (RT : RefT K mg CA CN CF CB) (RM : RefM K mg gR fdR cdR)
    {fdraw fpick faround fgreat : Addr} {fddraw fdpick fdaround fdgreat : FuncData}
    (Ddraw : Dn K mg "_law_draw" fdraw fddraw ["_law_pen_here", "_law_many"]) (Gdraw : FnOk P w K mg base CX0 2 fdraw fddraw ["_law_pen_here", "_law_many"] spLo)
    (Dpick : Dn K mg "_law_pick" fpick fdpick ["_law_pen_here", "_law_options"]) (Gpick : FnOk P w K mg base CX0 3 fpick fdpick ["_law_pen_here", "_law_options"] spPick)
    (Daround : Dn K mg "_law_around" faround fdaround ["_law_pen_here", "_law_most"]) (Garound : FnOk P w K mg base CX0 6 faround fdaround ["_law_pen_here", "_law_most"] spAround)
    (Dgreat : Dn K mg "_law_great" fgreat fdgreat ["_law_pen_here", "_law_most"]) (Ggreat : FnOk P w K mg base CX0 7 fgreat fdgreat ["_law_pen_here", "_law_most"] spGreat) :
    FnG P w K mg base CX0 9 f fd psRt (spRight C TT) := by
  have TP := MM.T
  have N := MM.N
  obtain ⟨fI, fdI, MK, B0, ⟨t1, B1⟩, GP⟩ := MM.ini
  obtain ⟨fN, fdN, eN, BN, GN⟩ := MM.neg
  obtain ⟨fD0, fdD0, eD, BD0, GD0⟩ := MM.add
  obtain ⟨fE, fdE, eE, BE, GE⟩ := MM.eq
  obtain ⟨fgA, fdgA, ⟨pA, PA⟩, BA, GA⟩ := MM.gA
  obtain ⟨fgT, fdgT, ⟨pT, PT⟩, BT, GT⟩ := MM.gT
  obtain ⟨fgF, fdgF, ⟨pF, PF⟩, BF, GF⟩ := MM.gF
  obtain ⟨fgD, fdgD, ⟨pD, PD⟩, BD, GD⟩ := MM.gD
  obtain ⟨fPt, fdPt, MPt, BPt, GPt⟩ := MM.pt
  obtain ⟨ocR, odR, dVR, kVR, docR, pmR, anR, ctR, oslR, rfl, lkR⟩ := RM.lk
  refine okGC F scRt (fun vs H Q E h => ?_) (fun A outer s H vs Q E ng hr h => ?_)
  · obtain ⟨p, c, ns, n, r, q, a, t, f, rfl, _⟩ := h
    rfl
  · obtain ⟨p, c, ns, n, r, q, a, t, fr, rfl, S, hn, pl, ax, hw, hf, tabs, k⟩ := h
    have hu := hu_of hr
    have huu : (A.deeper (envOfC "_law_right" (defScope sRight) s.heap.objs.size f (.ref cR))).units + 200 < cLine := by have := hr.un; omega
    refine ⟨_, (pss_cons (ps_asg (pe_tup (pa_cons (pe_call Ggreat (hr.mono (by decide)) rfl Dgreat.m Dgreat.k Dgreat.b .nil pass0 (pa_cons (pv 0) (pa_cons (pe_op op_pow pe_int pe_int) pa_nil))) (pa_cons (pe_call Garound (hr.mono (by decide)) rfl Daround.m Daround.k Daround.b .nil pass0 (pa_cons (pv 0) (pa_cons pe_int pa_nil))) (pa_cons (pe_call Ggreat (hr.mono (by decide)) rfl Dgreat.m Dgreat.k Dgreat.b .nil pass0 (pa_cons (pv 0) (pa_cons (pe_op op_pow pe_int pe_int) pa_nil))) pa_nil)))) (pg_tup (by rfl) (pgs_cons (pg_name (i := 5) scRt.nd rfl (Or.inl rfl)) (pgs_cons (pg_name (i := 6) scRt.nd rfl (Or.inl rfl)) (pgs_cons (pg_name (i := 10) scRt.nd rfl (Or.inr rfl)) pgs_nil)))))
 (C8.pss_cut (ps_if (pt_cmpR op_eq (pe_call Gdraw (hr.mono (by decide)) rfl Ddraw.m Ddraw.k Ddraw.b .nil pass0 (pa_cons (pv 0) (pa_cons pe_int pa_nil))) pe_int (nomark _))
 (pss_cons (ps_set (i := 7) scRt.nd rfl (Or.inl rfl) (pe_lst (pa_cons (pe_op op_sub (pe_op op_pow pe_int pe_int) (pv 3)) (pa_cons (pe_op op_sub (pe_op op_sub pe_int (pe_op op_pow pe_int pe_int)) (pv 3)) (pa_cons (pe_op op_mul pe_int (pe_op op_pow pe_int pe_int)) (pa_cons (pe_op op_sub pe_int (pe_op op_mul pe_int (pe_op op_pow pe_int pe_int))) (pa_cons (pe_op op_mulW (pe_op op_pow pe_int pe_int) (pe_op op_pow pe_int pe_int)) pa_nil)))))))
 (pss_one (ps_set (i := 10) scRt.nd rfl (Or.inr rfl) (pe_op op_add (pe_op op_mul (pv 4) (pe_call Gpick (hr.mono (by decide)) rfl Dpick.m Dpick.k Dpick.b .nil pass0 (pa_cons (pv 0) (pa_cons (pv 7) pa_nil)))) (pe_call Garound (hr.mono (by decide)) rfl Daround.m Daround.k Daround.b .nil pass0 (pa_cons (pv 0) (pa_cons pe_int pa_nil)))))))
 pss_nil)
 (pss_cons (ps_if (pt_cmpR op_ne (pe_callB (call_reprD ng hr.units) (by rfl) T.repr (by decide +kernel) (pa_cons (pe_lst (pa_cons (pe_prop (pv 1) TP.cl PA GA (hr.mono (by decide)) BA .nil pass0 (by rfl)) (pa_cons (pe_prop (pv 1) TP.cl PT GT (hr.mono (by decide)) BT .nil pass0 (by rfl)) (pa_cons (pe_prop (pv 1) TP.cl PF GF (hr.mono (by decide)) BF .nil pass0 (by rfl)) pa_nil)))) pa_nil)) (pe_callB (call_reprD ng hr.units) (by rfl) T.repr (by decide +kernel) (pa_cons (pe_lst (pa_cons (pv 2) (pa_cons (pv 3) (pa_cons (pv 4) pa_nil)))) pa_nil)) (nomark _))
 (pss_one (ps_ret pe_bl))
 pss_nil)
 (pss_cons (ps_if (pt_cmpR (op_neD hr.units) (pe_prop (pv 1) TP.cl PD GD (hr.mono (by decide)) BD .nil pass0 (by rfl)) (pe_dget hu (pe_disp (pps_cons pe_str (pe_tup (pa_cons pe_str (pa_cons pe_str pa_nil))) (pps_cons pe_str (pe_tup (pa_cons pe_str (pa_cons pe_str pa_nil))) (pps_cons pe_str (pe_tup (pa_cons pe_str (pa_cons pe_str pa_nil))) pps_nil))) (by rfl) (by rfl) (fun z => by cases z) (by decide)) (pv 2) (fun _ _ => rfl)) (nomark _))
 (pss_one (ps_ret pe_bl))
 pss_nil)
 (pss_cons (ps_set (i := 8) scRt.nd rfl (Or.inl rfl) (pe_dget hu (pe_disp (pps_cons pe_str (pe_tup (pa_cons (pv 3) (pa_cons (pv 5) (pa_cons (pv 6) pa_nil)))) (pps_cons pe_str (pe_tup (pa_cons (pv 6) (pa_cons (pv 3) (pa_cons (pv 5) pa_nil)))) (pps_cons pe_str (pe_tup (pa_cons (pv 5) (pa_cons (pv 6) (pa_cons (pv 3) pa_nil)))) pps_nil))) (by rfl) (by rfl) (fun z => by cases z) (by decide)) (pv 2) (fun _ _ => rfl)))
 (pss_cons (ps_if (pt_cmpR op_ne (pe_callB (call_reprD ng hr.units) (by rfl) T.repr (by decide +kernel) (pa_cons (pe_meth (pv 1) TP.cl MPt GPt (hr.mono (by decide)) BPt .nil pass0 (pa_cons (pv 5) (pa_cons (pv 6) pa_nil))) pa_nil)) (pe_callB (call_reprD ng hr.units) (by rfl) T.repr (by decide +kernel) (pa_cons (pv 8) pa_nil)) (nomark _))
 (pss_one (ps_ret pe_bl))
 pss_nil)
 (pss_cons (ps_if (PW.pt (pw_or (pt_cmpR (op_own_ne GE (hr.mono (by decide)) BE MM.ne eE.1 eE.2 N.hm) (pe_un (un_own GN (hr.mono (by decide)) BN pass0 eN.1 eN.2) (pv 1)) (pe_make MK GP (hr.mono (by decide)) (by rfl) N.m B0 .nil passE0 (pa_cons (pv 2) (pa_cons (pv 3) (pa_cons (pe_op op_sub pe_int (pv 4)) pa_nil)))) (nomark _)) (pw_or (pt_cmpR (op_own_eq GE (hr.mono (by decide)) BE pass0 eE.1 eE.2) (pe_un (un_own GN (hr.mono (by decide)) BN pass0 eN.1 eN.2) (pv 1)) (pv 1) (nomark _)) (pw_or1 (pt_cmpR (op_own_ne GE (hr.mono (by decide)) BE MM.ne eE.1 eE.2 N.hm) (pe_un (un_own GN (hr.mono (by decide)) BN pass0 eN.1 eN.2) (pe_un (un_own GN (hr.mono (by decide)) BN pass0 eN.1 eN.2) (pv 1))) (pv 1) (nomark _))))))
 (pss_one (ps_ret pe_bl))
 pss_nil)
 (pss_cons (ps_if (pt_cmpR op_gt (pe_callB call_abs (by rfl) T.abs (by decide +kernel) (pa_cons (pe_op op_add (pv 3) (pe_op op_mul (pv 4) (pv 10))) pa_nil)) (pe_op op_pow pe_int pe_int) (nomark _))
 (pss_one (ps_ret (pe_cmpR (op_eqD hr.units) (pe_lamcall (T := TT) (k := 6) (x := "_law_refused") (a := "_law_call") (t := fun E => tOp (rAdd K C CN CB E) (tVar 1) (tVar 10)) (by rfl) RM.m RM.k lkR RM.cd RM.b scRef rfl (Or.inl rfl)
   (ref_gives RT T ng huu) TBB rfl hmT hqT (hr.mono (by decide)) (lamS_by (show lamSB (defScope sRight) _ = true by decide +kernel)) (by rfl) (fun _ _ _ _ _ => by rfl)
   (fun A2 out2 s2 H2 E2 f2 c2 hr2 => pe_op (r := rAdd K C CN CB E2) (op_own_add (X := lamCx (cxOf CX0 P w K mg base NRt "_law_right" (defScope sRight) f (.ref cR) A outer s H E).nox A2 out2 s2 H2 E2 _ f2 c2) (C := C) (k := 6) (f := fD0) (fd := fdD0) (ps := ["self", "number"]) (CX := L2.CX P w) (sp := spPAdd K C CN CB) (E := E2) GD0 hr2 BD0 (passes_call (W := fun cls d _ H => E2 cls d H) (takes_of rfl rfl rfl rfl) (fun _ _ _ _ h => h)) MM.first eD.1 eD.2 MM.noR) (pv 1) (pv 10))) (pe_lst (pa_cons pe_str (pa_cons pe_str (pa_cons pe_bl pa_nil)))) (nomark _))))
 pss_nil)
 (pss_cons (ps_set (i := 9) scRt.nd rfl (Or.inl rfl) (pe_op (op_own_add GD0 (hr.mono (by decide)) BD0 passE0 MM.first eD.1 eD.2 MM.noR) (pv 1) (pv 10)))
 (pss_cons (ps_if (pt_cmpR (op_neD hr.units) (pe_tup (pa_cons (pe_prop (pv 9) TP.cl PA GA (hr.mono (by decide)) BA .nil pass0 (by rfl)) (pa_cons (pe_prop (pv 9) TP.cl PT GT (hr.mono (by decide)) BT .nil pass0 (by rfl)) (pa_cons (pe_prop (pv 9) TP.cl PF GF (hr.mono (by decide)) BF .nil pass0 (by rfl)) pa_nil)))) (pe_tup (pa_cons (pv 2) (pa_cons (pe_op op_add (pv 3) (pe_op op_mul (pv 4) (pv 10))) (pa_cons (pv 4) pa_nil)))) (nomark _))
 (pss_one (ps_ret pe_bl))
 pss_nil)
 (pss_one (ps_ret (pe_cmpR op_eq (pe_cmpR (op_own_eq GE (hr.mono (by decide)) BE pass0 eE.1 eE.2) (pv 9) (pv 1) (nomark _)) (pe_cmpR op_eq (pv 10) pe_int (nomark _)) (nomark _)))))))))))))), ?_⟩
    refine ⟨_, rfl, _, _, rfl, rfl, ⟨by decide, by decide, by decide⟩, p, c, ns, n, r, _, rfl, S, by omega, by decide +kernel, by decide +kernel, fun u n1 r1 H1 u1 u2 g1 g2 x1 S1 => ?_⟩
    refine ⟨_, rfl, p, c, ns, n1, r1, 9, rfl, S1, by omega, by decide, by decide, fun v n2 r2 v1 v2 g3 g4 S2 => ?_⟩
    refine ⟨_, rfl, _, _, rfl, rfl, ⟨by decide, by decide, by decide⟩, p, c, ns, n2, r2, _, rfl, S2, by omega, by decide +kernel, by decide +kernel, fun st n3 r3 H3 _ _ g5 g6 x3 S3 => ?_⟩
    refine ⟨by show 3 ≤ sizeLine; decide, fun tp htp => ⟨tp, _, rfl, SqT.of upd_same, rfl, _, _, rfl, _, _, rfl, _, _, rfl, rfl, ?_⟩⟩
    rw [ten30] at u1 u2
    have hu1 : within u = true := decide_eq_true ⟨u1, u2⟩
    have hv1 : within v = true := decide_eq_true ⟨by show -1000000000000000000000000000000 ≤ v; omega, by show v ≤ 1000000000000000000000000000000; omega⟩
    have S4 : PenAt (upd H3 tp (.tup [.int u, .int v, .int st])) p c ns n3 r3 := S3.grow (same_new htp)
    have x4 : Ext p H (upd H3 tp (.tup [.int u, .int v, .int st])) := ((x1.trans (Ext.upd p H1 _)).trans x3).trans (Ext.new htp)
    generalize upd H3 tp (.tup [.int u, .int v, .int st]) = H4 at S4 x4 ⊢
    refine ⟨midR p q c ns n a t fr u v H TT, ?_, fun σ H5 hm => ?_⟩
    · refine ⟨_, rfl, p, c, ns, n3, r3, 2, rfl, S4, by decide, by decide, by omega, fun d n5 r5 d0 d1 g7 g8 S5 => ⟨rfl, _, rfl, ?_⟩⟩
      have x5 : Ext p H4 (upd H4 p (.dK (penD c n5 r5))) := Ext.upd p H4 _
      generalize upd H4 p (.dK (penD c n5 r5)) = H5 at S5 x5 ⊢
      rw [dint]
      cases hd : decide (d = 0) with
      | false => exact iteF ⟨st, none, n5, r5, rfl, x4.trans x5, by omega, by omega, S5⟩
      | true =>
        refine iteT ?_
        refine ⟨_, _, rfl, rfl, CPa, _, rfl, _, _, rfl, rfl, _, _, rfl, rfl, CPa, _, _, rfl, rfl, _, rfl, _, _, rfl, rfl, _, _, rfl, rfl, CPa, _, _, rfl, rfl, CM2 _, _, _, rfl, rfl, CPa, _, _, rfl, rfl, CM2 _, _, _, rfl, rfl, _, _, rfl, rfl, CPb, _, _, rfl, rfl, CPc, _, _, rfl, rfl, CW1, by show 5 ≤ sizeLine; decide, fun lp hlp => ?_⟩
        generalize hxs : ([V.int (10 ^ (30 : Int).toNat - t), .int (0 - 10 ^ (30 : Int).toNat - t), .int (2 * 10 ^ (30 : Int).toNat), .int (0 - 2 * 10 ^ (30 : Int).toNat), .int (10 ^ (50 : Int).toNat * 10 ^ (40 : Int).toNat)] : List V) = xs
        have hxl : xs.length = 5 := by rw [← hxs]; rfl
        have hxi : ∀ w ∈ xs, ∃ i, w = .int i := by
          intro w hw
          rw [← hxs] at hw
          simp only [List.mem_cons, List.not_mem_nil, or_false] at hw
          rcases hw with z | z | z | z | z <;> exact ⟨_, z⟩
        have S6 := S5.grow (same_new (o := .lst xs) hlp)
        have x6 : Ext p H5 (upd H5 lp (.lst xs)) := Ext.new hlp
        have l6 : upd H5 lp (.lst xs) lp = some (.lst xs) := upd_same
        generalize upd H5 lp (.lst xs) = H6 at S6 x6 l6 ⊢
        refine ⟨_, rfl, _, rfl, _, rfl, p, c, ns, n5, r5, lp, xs, rfl, S6, by omega, l6, by omega, by omega, fun w6 n6 r6 hw6 g9 g10 S7 => ?_⟩
        obtain ⟨i6, rfl⟩ := hxi _ hw6
        refine ⟨_, _, rfl, rfl, CMf hf _, _, rfl, p, c, ns, n6, r6, 1, rfl, S7, by omega, by decide, by decide, fun k7 n7 r7 _ _ g11 g12 S8 => ⟨_, _, rfl, rfl, ?_⟩⟩
        have x7 := Ext.upd p H6 (.dK (penD c n6 r6))
        have x8 := Ext.upd p (upd H6 p (.dK (penD c n6 r6))) (.dK (penD c n7 r7))
        exact ⟨_, _, n7, r7, rfl, (((x4.trans x5).trans x6).trans x7).trans x8, by omega, by omega, S8⟩
    · obtain ⟨st, o7, n4, r4, rfl, e5, g1, g2, S5⟩ := hm
      have pl5 := pl.ext (ExtP.of e5) S
      have tb5 := Tabs.pen tabs e5 S
      obtain ⟨dx, hq⟩ := pl5
      have hfw : within fr = true := by rcases hf with rfl | rfl <;> decide +kernel
      have W := sh3L ax hw hfw
      refine ⟨_, rfl, q, dx, _, rfl, hq, q, dx, _, _, rfl, hq, flds_a _ _ _, _, rfl, q, dx, _, rfl, hq, q, dx, _, _, rfl, hq, flds_t _ _ _, _, rfl, q, dx, _, rfl, hq, q, dx, _, _, rfl, hq, flds_f _ _ _, by show 3 ≤ sizeLine; decide, fun l1 hl1 => ?_⟩
      refine ⟨.ref l1, .list [.str a, .int t, .int fr], rfl, .dp (.lst (SqL.of upd_same) (.cons (.str a) (.cons (.int t) (.cons (.int fr) .nil)))) rfl, W.sh, W.dep, W.sz, ?_⟩
      refine ⟨_, rfl, _, rfl, _, rfl, by show 3 ≤ sizeLine; decide, fun l2 hl2 => ?_⟩
      refine ⟨.ref l2, .list [.str a, .int t, .int fr], rfl, .dp (.lst (SqL.of upd_same) (.cons (.str a) (.cons (.int t) (.cons (.int fr) .nil)))) rfl, W.sh, W.dep, W.sz, ?_⟩
      refine ⟨rfl, _, rfl, ?_⟩
      rw [decide_eq_true rfl]
      refine iteF ?_
      have s6 : Same H5 (upd (upd H5 l1 (.lst [.str a, .int t, .int fr])) l2 (.lst [.str a, .int t, .int fr])) := (same_new hl1).trans (same_new hl2)
      generalize upd (upd H5 l1 (.lst [.str a, .int t, .int fr])) l2 (.lst [.str a, .int t, .int fr]) = H6 at s6 ⊢
      have hq6 := s6 _ _ hq
      refine ⟨_, rfl, q, dx, _, rfl, hq6, q, a, t, fr, rfl, ⟨dx, hq6⟩, ax, fun tp H7 s7 htp => ?_⟩
      refine disp3 ax (fun H Q k => ⟨by show 2 ≤ sizeLine; decide, k⟩) (fun H Q k => ⟨by show 2 ≤ sizeLine; decide, k⟩) (fun H Q k => ⟨by show 2 ≤ sizeLine; decide, k⟩) fun d tz H8 s8 dg hz => ?_
      obtain ⟨ds, dd, dsh, deq⟩ : ∃ ds, (∀ H : Hp, DpAll K H (dirV a) ds) ∧ SeqAt.shaped (.tuple ds) = true ∧ PyData.eqv (.tuple ds) (.tuple ds) = true := by
        rcases ax_cases ax with rfl | rfl | rfl
        · exact ⟨[.str sy, .str sz], fun H => by rw [dirV_x]; exact .cons (.str _) (.cons (.str _) .nil), by decide +kernel, by decide +kernel⟩
        · exact ⟨[.str sz, .str sx], fun H => by rw [dirV_y]; exact .cons (.str _) (.cons (.str _) .nil), by decide +kernel, by decide +kernel⟩
        · exact ⟨[.str sx, .str sy], fun H => by rw [dirV_z]; exact .cons (.str _) (.cons (.str _) .nil), by decide +kernel, by decide +kernel⟩
      refine ⟨_, rfl, d, _, rfl, dg, .tuple ds, .tuple ds, .tup (SqT.of (s8 _ _ htp)) (dd _), .tup (SqT.of hz) (dd _), dsh, dsh, _, rfl, ?_⟩
      rw [deq]
      refine iteF ?_
      have s9 : Same H5 H8 := (s6.trans s7).trans s8
      clear dg hz s8
      have hq8 := s9 _ _ hq
      dsimp only [tNext, tSeq, tAsg, tDGet]
      refine disp3 ax (xs := [.int t, .int u, .int v]) (ys := [.int v, .int t, .int u]) (zs := [.int u, .int v, .int t]) (fun H Q k => ⟨_, rfl, _, rfl, _, rfl, by show 3 ≤ sizeLine; decide, k⟩) (fun H Q k => ⟨_, rfl, _, rfl, _, rfl, by show 3 ≤ sizeLine; decide, k⟩) (fun H Q k => ⟨_, rfl, _, rfl, _, rfl, by show 3 ≤ sizeLine; decide, k⟩) fun d tz H9 s10 dg hz => ?_
      refine ⟨_, rfl, d, _, rfl, dg, ?_⟩
      have hq9 := s10 _ _ hq8
      refine ⟨_, rfl, q, dx, _, rfl, hq9, flds_no (by decide +kernel) (by decide +kernel) (by decide +kernel) _ _ _, _, rfl, _, rfl, q, a, t, fr, u, v, rfl, ⟨dx, hq9⟩, ax, fun tp H10 s11 htp => ?_⟩
      obtain ⟨ps, pd, pn, psh⟩ : ∃ ps, (∀ H : Hp, DpAll K H (ptV a t u v) ps) ∧ (PyData.tuple ps).hasDict = false ∧ Shw (.tuple ps) := by
        rcases ax_cases ax with rfl | rfl | rfl
        · exact ⟨[.int t, .int u, .int v], fun H => by rw [ptV_x]; exact .cons (.int _) (.cons (.int _) (.cons (.int _) .nil)), rfl, sh3T hw hu1 hv1⟩
        · exact ⟨[.int v, .int t, .int u], fun H => by rw [ptV_y]; exact .cons (.int _) (.cons (.int _) (.cons (.int _) .nil)), rfl, sh3T hv1 hw hu1⟩
        · exact ⟨[.int u, .int v, .int t], fun H => by rw [ptV_z]; exact .cons (.int _) (.cons (.int _) (.cons (.int _) .nil)), rfl, sh3T hu1 hv1 hw⟩
      refine ⟨.ref tp, .tuple ps, rfl, .dp (.tup (SqT.of htp) (pd _)) pn, psh.sh, psh.dep, psh.sz, _, rfl, .ref tz, .tuple ps, rfl, .dp (.tup (SqT.of (s11 _ _ hz)) (pd _)) pn, psh.sh, psh.dep, psh.sz, rfl, _, rfl, ?_⟩
      rw [decide_eq_true rfl]
      refine iteF ?_
      have s12 : Same H5 H10 := (s9.trans s10).trans s11
      have hq10 := s12 _ _ hq
      refine ⟨_, rfl, q, dx, _, rfl, hq10, q, a, t, fr, rfl, ⟨dx, hq10⟩, ax, hw, hf, fun q1 H11 n1 s13 pl1 => ?_⟩
      refine ⟨_, rfl, _, rfl, _, rfl, _, _, rfl, rfl, ?_⟩
      intro x dx2 nx nd ne
      have s14 : Same H11 (upd (upd H11 dx2 (.own x)) x (.ins C dx2 [])) := fun b o e => by
        rw [upd_ne (ne_of_none e nx), upd_ne (ne_of_none e nd)]
        exact e
      refine init_ok upd_same ax hw (by omega) fun H12 pl2 st12 => ⟨rfl, ?_⟩
      have s15 : Same H11 H12 := fun b o e => st12 b o (ne_of_none e nx) (s14 b o e)
      obtain ⟨dx1, hq1⟩ := pl1
      obtain ⟨dxx, hqx⟩ := id pl2
      refine ⟨q1, dx1, _, _, rfl, s15 _ _ hq1, ty_pl TP N hqx, MM.ownI, q1, _, a, t, -fr, rfl, ⟨dx1, s15 _ _ hq1⟩, .inl ⟨x, a, t, 0 - fr, rfl, pl2, _, rfl, _, rfl, ?_⟩⟩
      rw [plEq_same a t _ _ (by omega)]
      refine iteF ?_
      have s16 : Same H5 H12 := (s12.trans s13).trans s15
      have hq12 := s16 _ _ hq
      clear nx nd ne s14 st12 n1 s13 s15
      refine ⟨_, rfl, q, dx, _, rfl, hq12, q, a, t, fr, rfl, ⟨dx, hq12⟩, ax, hw, hf, fun q2 H13 n2 s17 pl3 => ?_⟩
      obtain ⟨dx3, hq3⟩ := pl3
      have hq13 := s17 _ _ hq12
      refine ⟨_, rfl, q2, dx3, _, _, rfl, hq3, ty_pl TP N hq13, MM.ownI, q2, _, a, t, -fr, rfl, ⟨dx3, hq3⟩, .inl ⟨q, a, t, fr, rfl, ⟨dx, hq13⟩, _, rfl, ?_⟩⟩
      rw [plEq_other a t t _ _ (by omega)]
      refine iteF ?_
      refine ⟨_, rfl, q, dx, _, rfl, hq13, q, a, t, fr, rfl, ⟨dx, hq13⟩, ax, hw, hf, fun q4 H14 n14 s18 pl4 => ?_⟩
      obtain ⟨dx4, hq4⟩ := pl4
      refine ⟨q4, dx4, _, rfl, hq4, q4, a, t, -fr, rfl, ⟨dx4, hq4⟩, ax, hw, by omega, fun q5 H15 n5 s19 pl5 => ?_⟩
      obtain ⟨dx5, hq5⟩ := pl5
      have s20 : Same H5 H15 := ((s16.trans s17).trans s18).trans s19
      have hq15 := s20 _ _ hq
      refine ⟨_, rfl, q5, dx5, _, _, rfl, hq5, ty_pl TP N hq15, MM.ownI, q5, _, a, t, - -fr, rfl, ⟨dx5, hq5⟩, .inl ⟨q, a, t, fr, rfl, ⟨dx, hq15⟩, _, rfl, _, rfl, ?_⟩⟩
      rw [plEq_same a t _ _ (by omega)]
      refine iteF ?_
      refine ⟨_, rfl, _, rfl, _, rfl, _, _, rfl, rfl, CMf hf _, _, _, rfl, rfl, _, rfl, _, _, rfl, rfl, CPa, _, _, rfl, rfl, _, rfl, ?_⟩
      rw [abs_big]
      cases hW : within (t + fr * st) with
      | false =>
        refine iteT ⟨Tabs.ext tb5 s20, fun H16 eN tb16 => ?_⟩
        have hq16 := eN _ _ hq15 (by intro ps z; cases z)
        refine ⟨_, rfl, _, rfl, q, dx, _, "int", rfl, hq16, .base (.int st), MM.plus _ (by decide), q, a, t, fr, .int st, .int st, rfl, ⟨dx, hq16⟩, ax, hf, .dp (.int st) rfl, (fun z => by cases z), fun n' e z H17 s21 => ?_, fun n' q' H' e z => ?_⟩
        · refine .inr (.inr (.inr ⟨rfl, rfl, fun l H18 s22 hl => ⟨by show 3 ≤ sizeLine; decide, fun l3 hl3 => ?_⟩⟩))
          refine ⟨.list [.str wB, .str "", .bool true], .list [.str wB, .str "", .bool true], .lst (SqL.of (same_new hl3 _ _ hl)) (.cons (.str _) (.cons (.str _) (.cons (.bl true) .nil))), .lst (SqL.of upd_same) (.cons (.str _) (.cons (.str _) (.cons (.bl true) .nil))), by decide +kernel, by decide +kernel, ?_⟩
          rw [eqv_bounds]
          have s23 : Same H16 (upd H18 l3 (.lst [.str "bounds", .str "", .bl true])) := (s21.trans s22).trans (same_new hl3)
          have S16 := (S5.grow s20).growN eN
          exact k n4 r4 _ g1 g2 (((ExtP.of e5).trans (ExtP.of (Ext.ofS s20))).trans ((ExtP.ofN eN).trans (ExtP.of (Ext.ofS s23)))) (S16.grow s23) (Tabs.ext tb16 s23)
        · cases e
          rw [hW] at z
          cases z
      | true =>
        refine iteF ?_
        refine ⟨_, rfl, _, rfl, q, dx, _, "int", rfl, hq15, .base (.int st), MM.plus _ (by decide), q, a, t, fr, .int st, .int st, rfl, ⟨dx, hq15⟩, ax, hf, .dp (.int st) rfl, (fun z => by cases z), (fun n' e z => ?_), fun n' q6 H16 e hw6 n6 s21 pl6 => ?_⟩
        · cases e
          rw [hW] at z
          cases z
        cases e
        obtain ⟨dx6, hq6⟩ := pl6
        refine ⟨_, rfl, q6, dx6, _, rfl, hq6, q6, dx6, _, _, rfl, hq6, flds_a _ _ _, _, rfl, q6, dx6, _, rfl, hq6, q6, dx6, _, _, rfl, hq6, flds_t _ _ _, _, rfl, q6, dx6, _, rfl, hq6, q6, dx6, _, _, rfl, hq6, flds_f _ _ _, by show 3 ≤ sizeLine; decide, fun u1 hu1 => ?_⟩
        refine ⟨_, rfl, _, rfl, _, rfl, _, rfl, _, _, rfl, rfl, CMf hf _, _, _, rfl, rfl, _, rfl, by show 3 ≤ sizeLine; decide, fun u2 hu2 => ?_⟩
        refine ⟨.tuple [.str a, .int (t + fr * st), .int fr], .tuple [.str a, .int (t + fr * st), .int fr], .tup (SqT.of (same_new hu2 _ _ upd_same)) (.cons (.str _) (.cons (.int _) (.cons (.int _) .nil))), .tup (SqT.of upd_same) (.cons (.str _) (.cons (.int _) (.cons (.int _) .nil))), shaped_tup ax _ _, shaped_tup ax _ _, _, rfl, ?_⟩
        rw [eqv_tup]
        refine iteF ?_
        have s22 : Same H15 (upd (upd H16 u1 (.tup [.str a, .int (t + fr * st), .int fr])) u2 (.tup [.str a, .int (t + fr * st), .int fr])) := (s21.trans (same_new hu1)).trans (same_new hu2)
        have hq17 : (upd (upd H16 u1 (.tup [.str a, .int (t + fr * st), .int fr])) u2 (.tup [.str a, .int (t + fr * st), .int fr])) q6 = _ := ((same_new hu1).trans (same_new hu2)) _ _ hq6
        have hq18 := s22 _ _ hq15
        refine ⟨_, rfl, _, rfl, q6, dx6, _, _, rfl, hq17, ty_pl TP N hq18, MM.ownI, q6, _, a, t + fr * st, fr, rfl, ⟨dx6, hq17⟩, .inl ⟨q, a, t, fr, rfl, ⟨dx, hq18⟩, _, rfl, rfl, rfl, ?_⟩⟩
        rw [pl_step hf]
        have s23 := s20.trans s22
        exact k n4 r4 _ g1 g2 ((ExtP.of e5).trans (ExtP.of (Ext.ofS s23))) (S5.grow s23) (Tabs.ext tb5 s23)
end
end Toy
end

section
set_option Elab.async false
set_option linter.all false
set_option maxRecDepth 100000
namespace Toy
open PySem PySem.Spec PyProof.Rows L2 Gd LamX
abbrev sLaw : Stmt := top 27
abbrev NLw : List Str := ["_law_script", "_law_pen_here", "_law_turn", "_law_axis", "_law_place", "_law_front", "_law_k", "_law_plane", "_law_some", "_law_value"]
theorem scLw : FnScope NLw ["_law_script"] (defScope sLaw) := ⟨rfl, rfl, rfl, by decide +kernel, rfl, by decide +kernel, by decide +kernel⟩
def spLaw (K : PySem.W.Frag) (TT : List (Addr × Str)) : Sp := fun vs H Q _ => ∃ (a : Addr) (ns : List Int), vs = [.ref a] ∧ SqL K H a (ns.map V.int) ∧ ns.length ≤ 63 ∧ Tabs TT H ∧ ∀ H', Q (.bl true) H'
theorem pl_one {a : Str} {t fr : Int} (hf : fr = 1 ∨ fr = -1) : (!decide (V.bl (plEq a a t t 1 fr) = V.bl (decide (V.int fr = V.int 1)))) = false := by
  rcases hf with rfl | rfl
  · rw [plEq_same a t 1 1 rfl, dint]
    rfl
  · rw [plEq_other a t t 1 (-1) (by decide), dint]
    rfl
/-- a value of any kind that does not hang on the list at ls -/
structure Val (K : PySem.W.Frag) (H : Hp) (ls : Addr) (w : V) (d : PyData) : Prop where
  th : Th K (del H ls) w d
  sh : ShO d
theorem del_at {H : Hp} {ls b : Addr} (h : b ≠ ls) : del H ls b = H b := by
  unfold del
  rw [if_neg h]
theorem del_same (H : Hp) (ls : Addr) : Same (del H ls) H := fun b o e => by
  by_cases h : b = ls
  · unfold del at e
    rw [if_pos h] at e
    cases e
  · rwa [del_at h] at e
theorem Val.keep {K : PySem.W.Frag} {H H' : Hp} {ls p c : Addr} {n r : Int} {w : V} {d : PyData} (v : Val K H ls w d) (hp : H p = some (.dK (penD c n r))) (npl : p ≠ ls)
    (e : ∀ b o, b ≠ p → b ≠ ls → H b = some o → H' b = some o) (hp' : ∃ o, H' p = some o) : Val K H' ls w d := by
  obtain ⟨o, hp'⟩ := hp'
  refine ⟨Th.grow (fun b u eb => ?_) (Th.pen (o := o) (by rw [del_at npl]; exact hp) v.th), v.sh⟩
  by_cases hb : b = p
  · rw [hb, upd_same] at eb
    rw [hb, del_at npl, hp', eb]
  · rw [upd_ne hb] at eb
    by_cases hl : b = ls
    · have := del_same _ _ _ _ eb
      unfold del at eb
      rw [if_pos hl] at eb
      cases eb
    · rw [del_at hl] at eb ⊢
      exact e b u hb hl eb
theorem Val.new {K : PySem.W.Frag} {H H1 H' : Hp} {ls : Addr} {w : V} {d : PyData} (t : Th K (newOf H H1) w d) (s : ShO d) (hl : ∃ o, H ls = some o) (e : ∀ b o, H b = none → H1 b = some o → H' b = some o) : Val K H' ls w d := by
  refine ⟨Th.grow (fun b u eb => ?_) t, s⟩
  unfold newOf at eb
  split at eb
  · cases eb
  · rename_i n
    have hb : H b = none := by
      cases q : H b with
      | none => rfl
      | some x => exact absurd (by rw [q]; rfl) n
    obtain ⟨o, hl⟩ := hl
    rw [del_at (fun z => by rw [z, hl] at hb; cases hb)]
    exact e b u hb eb
theorem sho_int (i : Int) (h : i.natAbs.log2 < 1920) : ShO (.int i) := ⟨⟨by simp [PyData.showable]; exact h, by simp [PyData.depth], .inr ⟨_, rfl⟩⟩, int_ok _⟩
theorem sho_ax {a : Str} (ax : (axV (.str a)).isSome = true) : ShO (.str a) := by
  rcases ax_cases ax with rfl | rfl | rfl <;> exact ⟨⟨by decide +kernel, by decide +kernel, .inl (by decide +kernel)⟩, by decide +kernel⟩
theorem Val.int {K : PySem.W.Frag} {H : Hp} {ls : Addr} (i : Int) (h : i.natAbs.log2 < 1920) : Val K H ls (.int i) (.int i) := ⟨.dp (.int _) rfl, sho_int i h⟩
theorem Val.strX {K : PySem.W.Frag} {H : Hp} {ls : Addr} : Val K H ls (.str "X") (.str "X") := ⟨.dp (.str _) rfl, ⟨⟨by decide +kernel, by decide +kernel, .inl (by decide +kernel)⟩, by decide +kernel⟩⟩
theorem Val.ax {K : PySem.W.Frag} {H : Hp} {ls : Addr} {a : Str} (ax : (axV (.str a)).isSome = true) : Val K H ls (.str a) (.str a) := ⟨.dp (.str _) rfl, sho_ax ax⟩
theorem Tabs.upd_lst {TT : List (Addr × Str)} {H : Hp} {ls : Addr} {xs : List V} {o : HO} (t : Tabs TT H) (h : H ls = some (.lst xs)) : Tabs TT (upd H ls o) := by
  intro x hx
  obtain ⟨ps, h1, h2, h3⟩ := t x hx
  have n1 : x.1 ≠ ls := fun z => by
    rw [z, h] at h1
    cases h1
  refine ⟨ps, by rw [upd_ne n1]; exact h1, h2, fun pos cv hc => ?_⟩
  obtain ⟨c, e1, e2⟩ := h3 pos cv hc
  refine ⟨c, e1, ?_⟩
  rw [upd_ne (fun z => ?_)]
  · exact e2
  · rw [z, h] at e2
    unfold CodeO at e2
    cases e2
theorem PlAt.upd_lst {C q ls : Addr} {a : Str} {t f : Int} {H : Hp} {xs : List V} {o : HO} (h : PlAt C H q a t f) (hl : H ls = some (.lst xs)) : PlAt C (upd H ls o) q a t f := by
  obtain ⟨dx, hq⟩ := h
  exact ⟨dx, by rw [upd_ne (fun z => by rw [z, hl] at hq; cases hq)]; exact hq⟩
theorem PenAt.upd_lst {H : Hp} {p c ls : Addr} {ns : List Int} {n r : Int} {o : HO} (P : PenAt H p c ns n r) (n1 : p ≠ ls) (n2 : c ≠ ls) : PenAt (upd H ls o) p c ns n r := ⟨by rw [upd_ne n1]; exact P.d, by rw [upd_ne n2]; exact P.l, P.n0, P.nb, P.r0, P.len⟩
def inInv (K : PySem.W.Frag) (C a p q ls c : Addr) (ns : List Int) (n0 : Int) (a1 : Str) (t fr z : Int) (TT : List (Addr × Str)) (j : Nat) : L2.St → Hp → Prop := fun σ H' => ∃ (o6 o9 : Option V) (w0 w1 w2 : V) (d0 d1 d2 : PyData) (n r : Int),
  σ = [some (.ref a), some (.ref p), some (.int z), some (.str a1), some (.int t), some (.int fr), o6, some (.ref q), some (.ref ls), o9] ∧ H' ls = some (.lst [w0, w1, w2]) ∧ Val K H' ls w0 d0 ∧ Val K H' ls w1 d1 ∧ Val K H' ls w2 d2 ∧
  PenAt H' p c ns n r ∧ n0 ≤ n ∧ n ≤ n0 + 3 * j ∧ PlAt C H' q a1 t fr ∧ Tabs TT H'
theorem seq_N {K : PySem.W.Frag} {H H' : Hp} {a : Addr} {xs : List V} (e : ExtN H H') (h : SqL K H a xs) : SqL K H' a xs := by
  rcases h with (h | ⟨ob, h⟩) | h
  · exact .inl (.inl (e _ _ h (by intro ps z; cases z)))
  · exact .inl (.inr ⟨ob, e _ _ h (by intro ps z; cases z)⟩)
  · exact .inr h
theorem tup_N {K : PySem.W.Frag} {H H' : Hp} {a : Addr} {xs : List V} (e : ExtN H H') (h : SqT K H a xs) : SqT K H' a xs := by
  rcases h with (h | ⟨ob, h⟩) | h
  · exact .inl (.inl (e _ _ h (by intro ps z; cases z)))
  · exact .inl (.inr ⟨ob, e _ _ h (by intro ps z; cases z)⟩)
  · exact .inr h
mutual
theorem dp_N {K : PySem.W.Frag} {H H' : Hp} (e : ExtN H H') {v : V} {d : PyData} (h : Dp K H v d) : Dp K H' v d :=
  match h with
  | .non => .non
  | .bl b => .bl b
  | .int i => .int i
  | .str x => .str x
  | .lst h1 h2 => .lst (seq_N e h1) (dps_N e h2)
  | .tup h1 h2 => .tup (tup_N e h1) (dps_N e h2)
theorem dps_N {K : PySem.W.Frag} {H H' : Hp} (e : ExtN H H') {vs : List V} {ds : List PyData} (h : DpAll K H vs ds) : DpAll K H' vs ds :=
  match h with
  | .nil => .nil
  | .cons h1 h2 => .cons (dp_N e h1) (dps_N e h2)
end
theorem Th.N {K : PySem.W.Frag} {H H' : Hp} (e : ExtN H H') {v : V} {d : PyData} (t : Th K H v d) : Th K H' v d := by
  cases t with
  | dp h nd => exact .dp (dp_N e h) nd
  | dk h => exact .dk (e _ _ h (by intro ps z; cases z))
theorem Told.grow {H H' : Hp} (e : Same H H') {v : V} : ∀ {o : Option (Str × Str)}, Told H v o → Told H' v o
  | none, t => t
  | some (x, y), ⟨l, r, h⟩ => ⟨l, r, e _ _ h⟩
theorem told_eq {K : PySem.W.Frag} {H : Hp} {v v2 : V} : ∀ {o : Option (Str × Str)}, Told H v o → Told H v2 o → (∀ x y, o = some (x, y) → PyData.strOk x = true ∧ PyData.strOk y = true) →
    ∃ d, Dp K H v d ∧ Dp K H v2 d ∧ SeqAt.shaped d = true ∧ (!PyData.eqv d d) = false
  | none, t1, t2, _ => by
    cases (show v = .non from t1)
    cases (show v2 = .non from t2)
    exact ⟨.none, .non, .non, by decide +kernel, by decide +kernel⟩
  | some (x, y), ⟨l, r, h⟩, ⟨l2, r2, h2⟩, ok => by
    obtain ⟨k1, k2⟩ := ok x y rfl
    subst r
    subst r2
    refine ⟨.list [.str x, .str y, .bool true], .lst (SqL.of h) (.cons (.str _) (.cons (.str _) (.cons (.bl _) .nil))), .lst (SqL.of h2) (.cons (.str _) (.cons (.str _) (.cons (.bl _) .nil))), ?_, ?_⟩
    · simp [SeqAt.shaped, PyData.canLay0, PyData.canLayAll0, PyData.depth, PyData.depthAll, k1, k2]
    · simp [PyData.eqv, PyData.eqvAll]
theorem due_ok {a t f : V} {da dt df : PyData} (ha : ShO da) (ht : ShO dt) (hf : ShO df) : ∀ x y, due a t f da dt df = some (x, y) → PyData.strOk x = true ∧ PyData.strOk y = true := by
  intro x y h
  unfold due at h
  split at h
  · cases h
    exact ⟨by decide +kernel, ha.ok⟩
  · split at h
    · cases h
      exact ⟨by decide +kernel, ht.ok⟩
    · split at h
      · cases h
        exact ⟨by decide +kernel, hf.ok⟩
      · cases h
theorem told_make {K : PySem.W.Frag} {C CA CN CF CB ls : Addr} {σ : L2.St} {H : Hp} {w0 w1 w2 : V} {e0 e1 e2 : PyData} {Q : VK} (h8 : σ[8]? = some (some (.ref ls))) (hl : H ls = some (.lst [w0, w1, w2])) (t0 : Th K H w0 e0) (t1 : Th K H w1 e1) (t2 : Th K H w2 e2)
    (s0 : ShO e0) (s1 : ShO e1) (s2 : ShO e2) (k : ∀ v H', Same H H' → Told H' v (due w0 w1 w2 e0 e1 e2) → Q v H') :
    TRef K CA CN CF CB (fun E H' Q' => tMake C (spPInit K C CA CN CF) [] E (tCons (tOp (rIxL K) (tVar 8) (tC (.int 0))) (tCons (tOp (rIxL K) (tVar 8) (tC (.int 1))) (tCons (tOp (rIxL K) (tVar 8) (tC (.int 2))) tNil))) σ H' Q') H Q := by
  refine ⟨_, h8, ls, _, _, w0, rfl, rfl, SqL.of hl, rfl, _, h8, ls, _, _, w1, rfl, rfl, SqL.of hl, rfl, _, h8, ls, _, _, w2, rfl, rfl, SqL.of hl, rfl, ?_⟩
  intro x dx nx nd ne
  have sM : Same H (upd (upd H dx (.own x)) x (.ins C dx [])) := fun b o e => by
    rw [upd_ne (ne_of_none e nx), upd_ne (ne_of_none e nd)]
    exact e
  refine ⟨x, dx, w0, w1, w2, e0, e1, e2, rfl, upd_same, Th.grow sM t0, Th.grow sM t1, Th.grow sM t2, fun hA d H' hd sm hx => ?_, fun hA hN d H' hd sm hx => ?_, fun n hA hn hw hF d H' hd sm hx => ?_, fun xs n m H' h1 h2 h3 h4 h5 h6 pl st => ⟨rfl, k .non H' (fun b o e => st b o (ne_of_none e nx) (sM b o e)) ?_⟩⟩
  · refine .inl ⟨rfl, w0, e0, d, rfl, hx, Th.grow (sM.trans sm) t0, s0.toShw, fun l H2 s2 hl2 => k _ H2 ((sM.trans sm).trans s2) ?_⟩
    unfold due
    rw [if_pos hA]
    exact ⟨l, rfl, hl2⟩
  · refine .inr (.inl ⟨rfl, w1, e1, d, rfl, hx, Th.grow (sM.trans sm) t1, s1.toShw, fun l H2 s2 hl2 => k _ H2 ((sM.trans sm).trans s2) ?_⟩)
    have nA : ¬ axV w0 = none := fun z => by rw [z] at hA; cases hA
    have bN : okInt w1 = false := by
      cases w1 with
      | int n => exact hN n rfl
      | _ => rfl
    unfold due
    rw [if_neg nA, if_pos bN]
    exact ⟨l, rfl, hl2⟩
  · refine .inr (.inr (.inl ⟨rfl, w2, e2, d, rfl, hx, Th.grow (sM.trans sm) t2, s2.toShw, fun l H2 s2 hl2 => k _ H2 ((sM.trans sm).trans s2) ?_⟩))
    have nA : ¬ axV w0 = none := fun z => by rw [z] at hA; cases hA
    have bN : ¬ okInt w1 = false := fun z => by
      rw [hn] at z
      have z' : within n = false := z
      rw [hw] at z'
      cases z'
    unfold due
    rw [if_neg nA, if_neg bN, if_pos hF]
    exact ⟨l, rfl, hl2⟩
  · have nA : ¬ axV w0 = none := fun z => by rw [z] at h6; cases h6
    have bN : ¬ okInt w1 = false := fun z => by
      rw [h2] at z
      have z' : within n = false := z
      rw [h3] at z'
      cases z'
    have bF : ¬ isFront w2 = false := fun z => by
      rw [h4] at z
      rcases h5 with rfl | rfl
      · exact absurd z (by decide +kernel)
      · exact absurd z (by decide +kernel)
    unfold due
    rw [if_neg nA, if_neg bN, if_neg bF]
    exact rfl
theorem Th.kdB {K : PySem.W.Frag} {H : Hp} {v : V} {d : PyData} (t : Th K H v d) : ∃ T i b, T ∈ baseTs ∧ TyX K H v (.type T) ∧ Kd T i b (isS v) ∧ (i && !b) = isI v := by
  cases t with
  | dp h nd =>
    cases h with
    | non => exact ⟨_, _, _, by decide, .base .non, kd_none, rfl⟩
    | bl b => exact ⟨_, _, _, by decide, .base (.bl b), kd_bool, rfl⟩
    | int i => exact ⟨_, _, _, by decide, .base (.int i), kd_int, rfl⟩
    | str x => exact ⟨_, _, _, by decide, .base (.str x), kd_str, rfl⟩
    | lst h1 h2 =>
      rcases h1 with (h1 | ⟨o, h1⟩) | ⟨o, _, _, h1, h3, _⟩
      · exact ⟨_, _, _, by decide, .base (.lst h1), kd_list, rfl⟩
      · exact ⟨_, _, _, by decide, .base (.frz h1), kd_list, rfl⟩
      · exact ⟨_, _, _, by decide, .kList h1 h3, kd_list, rfl⟩
    | tup h1 h2 =>
      rcases h1 with (h1 | ⟨o, h1⟩) | ⟨o, _, _, h1, h3, _⟩
      · exact ⟨_, _, _, by decide, .base (.tup h1), kd_tuple, rfl⟩
      · exact ⟨_, _, _, by decide, .fTuple h1, kd_tuple, rfl⟩
      · exact ⟨_, _, _, by decide, .kTuple h1 h3, kd_tuple, rfl⟩
  | dk e => exact ⟨_, _, _, by decide, .base (.dK e), kd_dict, rfl⟩
theorem told_add {K : PySem.W.Frag} {P : Program} {w : World} {mg : Str → Option Value} {base : Heap} {C CA CN CF CB q : Addr} {σ : L2.St} {H : Hp} {a : Str} {t f : Int} {v : V} {d : PyData} {Q : VK} (MM : PlM P w K mg base C CA CN CF CB) (h7 : σ[7]? = some (some (.ref q))) (h9 : σ[9]? = some (some v)) (pl : PlAt C H q a t f)
    (ax : (axV (.str a)).isSome = true) (hf : f = 1 ∨ f = -1) (tv : Th K H v d) (sv : ShO d) (nI : isI v = false) (k : ∀ u H', Same H H' → Told H' u (some (wN, d.shown)) → Q u H') :
    TRef K CA CN CF CB (fun E H' Q' => tOp (rAdd K C CN CB E) (tVar 7) (tVar 9) σ H' Q') H Q := by
  obtain ⟨dx, hq⟩ := pl
  obtain ⟨S, i, b, hS, ty, kd, _⟩ := Th.kdB tv
  refine ⟨_, h7, _, h9, q, dx, _, S, rfl, hq, ty, MM.plus _ hS, q, a, t, f, v, d, rfl, ⟨dx, hq⟩, ax, hf, tv, fun _ dd H' hd sm hx => ?_, fun n e _ => ?_, fun n q' H' e _ => ?_⟩
  · exact .inr (.inl ⟨rfl, v, d, dd, rfl, hx, Th.grow sm tv, sv.toShw, fun l H2 s2 hl2 => k _ H2 (sm.trans s2) ⟨l, rfl, hl2⟩⟩)
  · rw [e] at nI
    cases nI
  · rw [e] at nI
    cases nI
def lawInv (a p : Addr) (TT : List (Addr × Str)) (i : Nat) : L2.St → Hp → Prop := fun σ H' => ∃ (o2 o3 o4 o5 o6 o7 o8 o9 : Option V) (c : Addr) (ns : List Int) (n r : Int),
  σ = [some (.ref a), some (.ref p), o2, o3, o4, o5, o6, o7, o8, o9] ∧ PenAt H' p c ns n r ∧ n ≤ 100 * i ∧ Tabs TT H'
section
variable {P : Program} {w : World} {K : PySem.W.Frag} {mg : Str → Option Value} {base : Heap} {f C CA CN CF CB : Addr} {fd : FuncData}
set_option maxHeartbeats 4000000 in
theorem ok_law {cL PL gR : Addr} {fdR : FuncData} {cdR : Value} {TT : List (Addr × Str)} (F : FunC K "law" "law" sLaw f cL fd) (T : TxtR K mg) (mR : mg "range" = none) (TBB : TabB base mg cL PL) (hmT : (PL, ("law.<locals>.<lambda>" : Str)) ∈ TT) (hqT : ∀ p ∈ TT, p.1 = PL → p.2 = ("law.<locals>.<lambda>" : Str))
    (MM : PlM P w K mg base C CA CN CF CB) (RT : RefT K mg CA CN CF CB) (RM : RefM K mg gR fdR cdR)
    {fpen fdraw fpick fgreat fodd flint fdue fright : Addr} {fdpen fddraw fdpick fdgreat fdodd fdlint fddue fdright : FuncData}
    (Dpen : Dn K mg "_law_pen" fpen fdpen ["_law_script"]) (Gpen : FnOk P w K mg base CX0 1 fpen fdpen ["_law_script"] (spPen K))
    (Ddraw : Dn K mg "_law_draw" fdraw fddraw ["_law_pen_here", "_law_many"]) (Gdraw : FnOk P w K mg base CX0 2 fdraw fddraw ["_law_pen_here", "_law_many"] spLo)
    (Dpick : Dn K mg "_law_pick" fpick fdpick ["_law_pen_here", "_law_options"]) (Gpick : FnOk P w K mg base CX0 3 fpick fdpick ["_law_pen_here", "_law_options"] spPick)
    (Dgreat : Dn K mg "_law_great" fgreat fdgreat ["_law_pen_here", "_law_most"]) (Ggreat : FnOk P w K mg base CX0 7 fgreat fdgreat ["_law_pen_here", "_law_most"] spGreat)
    (Dodd : Dn K mg "_law_odd" fodd fdodd ["_law_pen_here"]) (Godd : FnOk P w K mg base CX0 4 fodd fdodd ["_law_pen_here"] (spOdd K))
    (Dis_int : Dn K mg "_law_is_int" flint fdlint ["_law_value"]) (Gis_int : FnOk P w K mg base CX0 1 flint fdlint ["_law_value"] (spIsInt K))
    (Ddue : Dn K mg "_law_due" fdue fddue ["_law_axis", "_law_place", "_law_front"]) (Gdue : FnG P w K mg base CX0 2 fdue fddue ["_law_axis", "_law_place", "_law_front"] (spDue K))
    (Dright : Dn K mg "_law_right" fright fdright psRt) (Gright : FnG P w K mg base CX0 9 fright fdright psRt (spRight C TT)) :
    FnG P w K mg base CX0 10 f fd ["_law_script"] (spLaw K TT) := by
  have TP := MM.T
  have N := MM.N
  obtain ⟨fI, fdI, MK, B0, ⟨t1, B1⟩, GP⟩ := MM.ini
  have dv1 : Vals [.int 1] [.int 1 t1] := .cons ⟨_, rfl⟩ .nil
  obtain ⟨fD0, fdD0, eD, BD0, GD0⟩ := MM.add
  obtain ⟨fE, fdE, eE, BE, GE⟩ := MM.eq
  obtain ⟨ocR, odR, dVR, kVR, docR, pmR, anR, ctR, oslR, rfl, lkR⟩ := RM.lk
  refine okGC F scLw (fun vs H Q E h => ?_) (fun A outer s H vs Q E ng hr h => ?_)
  · obtain ⟨a, ns, rfl, _⟩ := h
    rfl
  · obtain ⟨a, ns, rfl, hS, hlen, tabs, k⟩ := h
    have hu := hu_of hr
    have huu : (A.deeper (envOfC "law" (defScope sLaw) s.heap.objs.size f (.ref cL))).units + 200 < cLine := by have := hr.un; omega
    refine ⟨_, (pss_cons (ps_set (i := 1) scLw.nd rfl (Or.inl rfl) (pe_call Gpen (hr.mono (by decide)) rfl Dpen.m Dpen.k Dpen.b .nil pass0 (pa_cons (pv 0) pa_nil)))
 (pss_cons (ps_for PassesOwn.never rfl (pi_range1 (by rfl) mR (pa_cons pe_int pa_nil)) (pg_name (i := 2) scLw.nd rfl (Or.inl rfl))
 (pss_cons (ps_par3 (i := 3) (j := 4) (l := 5) (by rfl) scLw.nd rfl rfl rfl (by decide) (by decide) (by decide) rfl rfl rfl (pa_cons (pe_call Gpick (hr.mono (by decide)) rfl Dpick.m Dpick.k Dpick.b .nil pass0 (pa_cons (pv 1) (pa_cons (pe_lst (pa_cons pe_str (pa_cons pe_str (pa_cons pe_str pa_nil)))) pa_nil))) (pa_cons (pe_call Ggreat (hr.mono (by decide)) rfl Dgreat.m Dgreat.k Dgreat.b .nil pass0 (pa_cons (pv 1) (pa_cons (pe_op op_pow pe_int pe_int) pa_nil))) (pa_cons (pe_call Gpick (hr.mono (by decide)) rfl Dpick.m Dpick.k Dpick.b .nil pass0 (pa_cons (pv 1) (pa_cons (pe_lst (pa_cons pe_int (pa_cons (pe_un un_neg pe_int) pa_nil))) pa_nil))) pa_nil))) (by rfl))
 (pss_cons (ps_set (i := 7) scLw.nd rfl (Or.inr rfl) (pe_make MK GP (hr.mono (by decide)) (by rfl) N.m B0 .nil passE0 (pa_cons (pv 3) (pa_cons (pv 4) (pa_cons (pv 5) pa_nil)))))
 (pss_cons (ps_if (pt_not (pt_val (pe_callG Gright ng hr rfl Dright.m Dright.k Dright.b .nil pass0 (pa_cons (pv 1) (pa_cons (pv 7) (pa_cons (pv 3) (pa_cons (pv 4) (pa_cons (pv 5) pa_nil))))))))
 (pss_one (ps_ret pe_bl))
 pss_nil)
 (pss_cons (ps_if (PW.pt (pw_or (pt_cmpR op_ne (pe_cmpR (op_own_eq GE (hr.mono (by decide)) BE pass0 eE.1 eE.2) (pe_make MK GP (hr.mono (by decide)) (by rfl) N.m B1 dv1 passE0 (pa_cons (pv 3) (pa_cons (pv 4) pa_nil))) (pv 7) (nomark _)) (pe_cmpR op_eq (pv 5) pe_int (nomark _)) (nomark _)) (pw_or1 (pt_cmpR (op_own_eq GE (hr.mono (by decide)) BE pass0 eE.1 eE.2) (pv 7) (pe_tup (pa_cons (pv 3) (pa_cons (pv 4) (pa_cons (pv 5) pa_nil)))) (nomark _)))))
 (pss_one (ps_ret pe_bl))
 pss_nil)
 (pss_cons (ps_set (i := 8) scLw.nd rfl (Or.inr rfl) (pe_lst (pa_cons (pv 3) (pa_cons (pv 4) (pa_cons (pv 5) pa_nil)))))
 (pss_cons (ps_for PassesOwn.never rfl (pi_range1 (by rfl) mR (pa_cons (pe_op op_add pe_int (pe_call Gdraw (hr.mono (by decide)) rfl Ddraw.m Ddraw.k Ddraw.b .nil pass0 (pa_cons (pv 1) (pa_cons pe_int pa_nil)))) pa_nil)) (pg_name (i := 6) scLw.nd rfl (Or.inl rfl))
 (pss_one (ps_asg (pe_call Gpick (hr.mono (by decide)) rfl Dpick.m Dpick.k Dpick.b .nil pass0 (pa_cons (pv 1) (pa_cons (pe_lst (pa_cons (pe_call Godd (hr.mono (by decide)) rfl Dodd.m Dodd.k Dodd.b .nil pass0 (pa_cons (pv 1) pa_nil)) (pa_cons (pe_op op_add (pe_op op_pow pe_int pe_int) pe_int) (pa_cons pe_int (pa_cons pe_int (pa_cons pe_str pa_nil)))))) pa_nil))) (pg_sub (pv 8) (pe_call Gdraw (hr.mono (by decide)) rfl Ddraw.m Ddraw.k Ddraw.b .nil pass0 (pa_cons (pv 1) (pa_cons pe_int pa_nil))) set_list))))
 (pss_cons (ps_if (pt_cmpR (op_neD hr.units) (pe_lamcall (T := TT) (k := 5) (x := "_law_refused") (a := "_law_call") (t := fun E => tMake C (spPInit K C CA CN CF) [] E (tCons (tOp (rIxL K) (tVar 8) (tC (.int 0))) (tCons (tOp (rIxL K) (tVar 8) (tC (.int 1))) (tCons (tOp (rIxL K) (tVar 8) (tC (.int 2))) tNil)))) (by rfl) RM.m RM.k lkR RM.cd RM.b scRef rfl (Or.inl rfl)
   (ref_gives RT T ng huu) TBB rfl hmT hqT (hr.mono (by decide)) (lamS_by (show lamSB (defScope sLaw) _ = true by decide +kernel)) (by rfl) (fun _ _ _ _ _ => by rfl)
   (fun A2 out2 s2 H2 E2 f2 c2 hr2 => pe_make (X := lamCx (cxOf CX0 P w K mg base NLw "law" (defScope sLaw) f (.ref cL) A outer s H E).nox A2 out2 s2 H2 E2 _ f2 c2) (C := C) (f := fI) (fd := fdI) (k := 4) (ps := ["self", "axis", "at", "front"]) (CX := L2.CX P w) (sp := spPInit K C CA CN CF) (E := E2) MK GP hr2 (by rfl) N.m B0 .nil (passes_call (W := fun cls d _ H => E2 cls d H) (takes_of rfl rfl rfl rfl) (fun _ _ _ _ h => h)) (pa_cons (pe_ix ix_list (pv 8) pe_int (fun _ _ => rfl)) (pa_cons (pe_ix ix_list (pv 8) pe_int (fun _ _ => rfl)) (pa_cons (pe_ix ix_list (pv 8) pe_int (fun _ _ => rfl)) pa_nil))))) (pe_callG Gdue ng (hr.mono (by decide)) rfl Ddue.m Ddue.k Ddue.b .nil pass0 (pa_cons (pe_ix ix_list (pv 8) pe_int (fun _ _ => rfl)) (pa_cons (pe_ix ix_list (pv 8) pe_int (fun _ _ => rfl)) (pa_cons (pe_ix ix_list (pv 8) pe_int (fun _ _ => rfl)) pa_nil)))) (nomark _))
 (pss_one (ps_ret pe_bl))
 pss_nil)
 (pss_cons (ps_set (i := 9) scLw.nd rfl (Or.inr rfl) (pe_call Godd (hr.mono (by decide)) rfl Dodd.m Dodd.k Dodd.b .nil pass0 (pa_cons (pv 1) pa_nil)))
 (pss_one (ps_if (PW.pt (pw_and (pt_not (pt_val (pe_call Gis_int (hr.mono (by decide)) rfl Dis_int.m Dis_int.k Dis_int.b .nil pass0 (pa_cons (pv 9) pa_nil)))) (pw_and1 (pt_cmpR (op_neD hr.units) (pe_lamcall (T := TT) (k := 6) (x := "_law_refused") (a := "_law_call") (t := fun E => tOp (rAdd K C CN CB E) (tVar 7) (tVar 9)) (by rfl) RM.m RM.k lkR RM.cd RM.b scRef rfl (Or.inl rfl)
   (ref_gives RT T ng huu) TBB rfl hmT hqT (hr.mono (by decide)) (lamS_by (show lamSB (defScope sLaw) _ = true by decide +kernel)) (by rfl) (fun _ _ _ _ _ => by rfl)
   (fun A2 out2 s2 H2 E2 f2 c2 hr2 => pe_op (r := rAdd K C CN CB E2) (op_own_add (X := lamCx (cxOf CX0 P w K mg base NLw "law" (defScope sLaw) f (.ref cL) A outer s H E).nox A2 out2 s2 H2 E2 _ f2 c2) (C := C) (k := 6) (f := fD0) (fd := fdD0) (ps := ["self", "number"]) (CX := L2.CX P w) (sp := spPAdd K C CN CB) (E := E2) GD0 hr2 BD0 (passes_call (W := fun cls d _ H => E2 cls d H) (takes_of rfl rfl rfl rfl) (fun _ _ _ _ h => h)) MM.first eD.1 eD.2 MM.noR) (pv 7) (pv 9))) (pe_lst (pa_cons pe_str (pa_cons (pe_callB (call_reprD ng hr.units) (by rfl) T.repr (by decide +kernel) (pa_cons (pv 9) pa_nil)) (pa_cons pe_bl pa_nil)))) (nomark _)))))
 (pss_one (ps_ret pe_bl))
 pss_nil)))))))))))
 (pss_one (ps_ret pe_bl)))), ?_⟩
    refine ⟨_, rfl, a, ns, rfl, hS, hlen, fun p c ns0 H1 hp s1 S0 => ?_⟩
    refine ⟨9, rfl, by decide, by decide, for_range (n := 9) (lawInv a p TT) ⟨none, none, none, none, none, none, none, none, c, ns0, 0, 0, rfl, S0, by decide, Tabs.ext tabs s1⟩ (fun i σ H2 hi hm => ?_) (fun σ H2 _ => k _)⟩
    obtain ⟨o2, o3, o4, o5, o6, o7, o8, o9, c, ns, n, r, rfl, S, hn, tabs⟩ := hm
    have hi' : (i : Int) < 9 := by omega
    generalize hz : (0 : Int) + (i : Int) = z
    clear hz
    refine ⟨_, rfl, by show 3 ≤ sizeLine; decide, fun l1 h1 => ?_⟩
    refine ⟨p, c, ns, n, r, l1, _, rfl, S.grow (same_new h1), by omega, upd_same, by decide, by decide, fun va n1 r1 hv g1 g2 S1 => ?_⟩
    obtain ⟨a1, rfl, ax⟩ : ∃ a1, va = .str a1 ∧ (axV (.str a1)).isSome = true := by
      simp only [List.mem_cons, List.not_mem_nil, or_false] at hv
      rcases hv with rfl | rfl | rfl <;> exact ⟨_, rfl, by decide +kernel⟩
    refine ⟨_, rfl, _, _, rfl, rfl, CPa, p, c, ns, n1, r1, _, rfl, S1, by omega, by decide +kernel, by decide +kernel, fun t n2 r2 H3 t1 t2 g3 g4 x3 S2 => ?_⟩
    rw [ten30] at t1 t2
    have hw : within t = true := decide_eq_true ⟨t1, t2⟩
    refine ⟨_, rfl, _, rfl, by show 2 ≤ sizeLine; decide, fun l3 h3 => ?_⟩
    refine ⟨p, c, ns, n2, r2, l3, _, rfl, S2.grow (same_new h3), by omega, upd_same, by decide, by decide, fun vf n3 r3 hv g5 g6 S3 => ?_⟩
    obtain ⟨fr, rfl, hf⟩ : ∃ fr, vf = .int fr ∧ (fr = 1 ∨ fr = -1) := by
      simp only [List.mem_cons, List.not_mem_nil, or_false] at hv
      rcases hv with rfl | rfl
      · exact ⟨_, rfl, .inl rfl⟩
      · exact ⟨_, rfl, .inr rfl⟩
    have x4 : Ext p H2 (upd (upd H3 l3 (.lst [.int 1, .int (-1)])) p (.dK (penD c n3 r3))) := ((((Ext.new h1).trans (Ext.upd p _ _)).trans x3).trans (Ext.new h3)).trans (Ext.upd p _ _)
    generalize upd (upd H3 l3 (.lst [.int 1, .int (-1)])) p (.dK (penD c n3 r3)) = H4 at S3 x4 ⊢
    have tb4 := Tabs.pen tabs x4 S
    refine ⟨_, _, _, rfl, ?_⟩
    have b3 : n3 ≤ n + 20 := by omega
    clear g1 g2 g3 g4 g5 g6 h1 S1 x3 S2 h3 t1 t2
    refine ⟨_, rfl, _, rfl, _, rfl, ?_⟩
    intro q dx0 nx nd ne
    have s14 : Same H4 (upd (upd H4 dx0 (.own q)) q (.ins C dx0 [])) := fun b o e => by
      rw [upd_ne (ne_of_none e nx), upd_ne (ne_of_none e nd)]
      exact e
    refine init_ok upd_same ax hw hf fun H5 pl st5 => ⟨rfl, ?_⟩
    have s5 : Same H4 H5 := fun b o e => st5 b o (ne_of_none e nx) (s14 b o e)
    have S5 := S3.grow s5
    have tb5 := Tabs.ext tb4 s5
    refine ⟨_, rfl, _, rfl, _, rfl, _, rfl, _, rfl, p, c, ns, n3, r3, q, a1, t, fr, rfl, S5, by omega, pl, ax, hw, hf, tb5, fun n6 r6 H6 g7 g8 x6 S6 tb6 => ?_⟩
    have pl6 := pl.ext x6 S5
    clear nx nd ne s14 st5 s5 pl x6 S5 tb5 S3 tb4 x4
    refine ⟨_, rfl, iteF ?_⟩
    obtain ⟨dxq, hq6⟩ := pl6
    refine ⟨_, rfl, _, rfl, ?_⟩
    intro x1 dx1 nx nd ne
    have s14 : Same H6 (upd (upd H6 dx1 (.own x1)) x1 (.ins C dx1 [])) := fun b o e => by
      rw [upd_ne (ne_of_none e nx), upd_ne (ne_of_none e nd)]
      exact e
    refine init_ok upd_same ax hw (.inl rfl) fun H7 pl7 st7 => ⟨rfl, ?_⟩
    have s7 : Same H6 H7 := fun b o e => st7 b o (ne_of_none e nx) (s14 b o e)
    obtain ⟨dx7, hq7⟩ := pl7
    have hq76 := s7 _ _ hq6
    refine ⟨_, rfl, x1, dx7, _, _, rfl, hq7, ty_pl TP N hq76, MM.ownI, x1, _, a1, t, 1, rfl, ⟨dx7, hq7⟩, .inl ⟨q, a1, t, fr, rfl, ⟨dxq, hq76⟩, _, rfl, rfl, rfl, _, rfl, ?_⟩⟩
    rw [pl_one hf]
    refine iteF ?_
    refine ⟨_, rfl, _, rfl, _, rfl, _, rfl, by show 3 ≤ sizeLine; decide, fun tu htu => ?_⟩
    have s8 : Same H6 (upd H7 tu (.tup [.str a1, .int t, .int fr])) := s7.trans (same_new htu)
    have ht8 : upd H7 tu (.tup [.str a1, .int t, .int fr]) tu = some (.tup [.str a1, .int t, .int fr]) := upd_same
    generalize upd H7 tu (.tup [.str a1, .int t, .int fr]) = H8 at s8 ht8 ⊢
    have hq8 := s8 _ _ hq6
    have ttu : TyX K H8 (.ref tu) (.type "tuple") := .base (.tup ht8)
    refine ⟨q, dxq, _, _, rfl, hq8, ttu, MM.notI _ (by decide), q, _, a1, t, fr, rfl, ⟨dxq, hq8⟩, .inr ⟨_, ttu, MM.kitI _ (by decide), _, rfl, iteF ?_⟩⟩
    have S8 := S6.grow s8
    have tb8 := Tabs.ext tb6 s8
    clear ttu ht8 hq76 hq7 s7 st7 s14 nx nd ne S6 tb6 s8 hq6
    refine ⟨_, rfl, _, rfl, _, rfl, by show 3 ≤ sizeLine; decide, fun ls hls => ?_⟩
    have s9 : Same H8 (upd H8 ls (.lst [.str a1, .int t, .int fr])) := same_new hls
    have hl9 : upd H8 ls (.lst [.str a1, .int t, .int fr]) ls = some (.lst [.str a1, .int t, .int fr]) := upd_same
    generalize upd H8 ls (.lst [.str a1, .int t, .int fr]) = H9 at s9 hl9 ⊢
    have S9 := S8.grow s9
    have tb9 := Tabs.ext tb8 s9
    have hq9 := s9 _ _ hq8
    have ncl : c ≠ ls := ne_of_none S8.l hls
    have npl : p ≠ ls := fun z => by
      have q := S9.d
      rw [z, hl9] at q
      cases q
    clear S8 tb8 hq8 s9 hls
    refine ⟨_, rfl, p, c, ns, n6, r6, 2, rfl, S9, by decide, by decide, by omega, fun d n7 r7 d0 d1 g9 g10 S10 => ⟨_, _, rfl, rfl, _, rfl, by omega, by omega, ?_⟩⟩
    have x10 : Ext p H9 (upd H9 p (.dK (penD c n7 r7))) := Ext.upd p H9 _
    have hl10 : upd H9 p (.dK (penD c n7 r7)) ls = some (.lst [.str a1, .int t, .int fr]) := by rw [upd_ne (Ne.symm npl)]; exact hl9
    have tb10 := Tabs.pen tb9 x10 S9
    have pl10 : PlAt C (upd H9 p (.dK (penD c n7 r7))) q a1 t fr := PlAt.ext (c := c) (ns := ns) (n := n6) (r := r6) ⟨dxq, hq9⟩ (ExtP.of x10) S9
    generalize upd H9 p (.dK (penD c n7 r7)) = H10 at S10 x10 hl10 tb10 pl10 ⊢
    have hfw : fr.natAbs.log2 < 1920 := by rcases hf with rfl | rfl <;> decide +kernel
    have htw : t.natAbs.log2 < 1920 := by have := int_lg hw; omega
    refine for_range (n := (1 + d).toNat) (inInv K C a p q ls c ns n7 a1 t fr z TT) ⟨_, _, _, _, _, _, _, _, _, _, rfl, hl10, .ax ax, .int t htw, .int fr hfw, S10, Int.le_refl _, by omega, pl10, tb10⟩ (fun j σ H11 hj hm => ?_) (fun σ H11 hm => ?_)
    · obtain ⟨o6', o9', w0, w1, w2, e0, e1, e2, n11, r11, rfl, hl, v0, v1, v2, S, b1, b2, pl, tabs⟩ := hm
      have hj' : (j : Int) < 2 := by omega
      generalize hz : (0 : Int) + (j : Int) = z2
      clear hz
      refine ⟨_, rfl, _, rfl, p, c, ns, n11, r11, rfl, S, by omega, fun v dv n12 r12 H12 th sh x12 S12 g1 g2 => ?_⟩
      refine ⟨_, _, rfl, rfl, CPa, _, _, rfl, rfl, by show 5 ≤ sizeLine; decide, fun lp hlp => ?_⟩
      refine ⟨p, c, ns, n12, r12, lp, _, rfl, S12.grow (same_new hlp), by omega, upd_same, by show 0 < 5; decide, by show 5 ≤ 60000000; decide, fun u n13 r13 hu g3 g4 S13 => ?_⟩
      refine ⟨_, rfl, _, rfl, p, c, ns, n13, r13, 3, rfl, S13, by decide, by decide, by omega, fun k14 n14 r14 k0 k1 g5 g6 S14 => ?_⟩
      generalize hlv : ([v, .int (10 ^ (30 : Int).toNat + 1), .int 0, .int 2, .str "X"] : List V) = lv at *
      have x14 : Ext p H11 (upd (upd (upd H12 lp (.lst lv)) p (.dK (penD c n13 r13))) p (.dK (penD c n14 r14))) := ((x12.trans (Ext.new hlp)).trans (Ext.upd p _ _)).trans (Ext.upd p _ _)
      have y14 : ∀ b o, H11 b = none → H12 b = some o → (upd (upd (upd H12 lp (.lst lv)) p (.dK (penD c n13 r13))) p (.dK (penD c n14 r14))) b = some o := fun b o e1 e2 => by
        have nb : b ≠ p := fun z => by
          rw [z, S.d] at e1
          cases e1
        rw [upd_ne nb, upd_ne nb, upd_ne (ne_of_none e2 hlp)]
        exact e2
      generalize upd (upd (upd H12 lp (.lst lv)) p (.dK (penD c n13 r13))) p (.dK (penD c n14 r14)) = H14 at S14 x14 y14 ⊢
      have hl14 := x14 _ _ (Ne.symm npl) hl
      have tb14 := Tabs.pen tabs x14 S
      have pl14 := pl.ext (ExtP.of x14) S
      obtain ⟨du, vu⟩ : ∃ du, ∀ xs, Val K (upd H14 ls (.lst xs)) ls u du := by
        rw [← hlv] at hu
        simp only [List.mem_cons, List.not_mem_nil, or_false] at hu
        rcases hu with rfl | rfl | rfl | rfl | rfl
        · exact ⟨dv, fun xs => .new th sh ⟨_, hl⟩ fun b o e1 e2 => by rw [upd_ne (fun z => by rw [z, hl] at e1; cases e1)]; exact y14 b o e1 e2⟩
        · exact ⟨_, fun xs => .int _ (by decide +kernel)⟩
        · exact ⟨_, fun xs => .int _ (by decide +kernel)⟩
        · exact ⟨_, fun xs => .int _ (by decide +kernel)⟩
        · exact ⟨_, fun xs => .strX⟩
      have kp : ∀ {w : V} {e : PyData} (xs : List V), Val K H11 ls w e → Val K (upd H14 ls (.lst xs)) ls w e := fun {w e} xs vw => vw.keep S.d npl (fun b o nb nl eb => by rw [upd_ne nl]; exact x14 b o nb eb) ⟨_, by rw [upd_ne npl]; exact S14.d⟩
      have S15 : ∀ xs, PenAt (upd H14 ls (.lst xs)) p c ns n14 r14 := fun xs => S14.upd_lst npl ncl
      have tb15 : ∀ xs, Tabs TT (upd H14 ls (.lst xs)) := fun xs => Tabs.upd_lst tb14 hl14
      have pl15 : ∀ xs, PlAt C (upd H14 ls (.lst xs)) q a1 t fr := fun xs => pl14.upd_lst hl14
      refine ⟨ls, _, k14, k14.toNat, rfl, rfl, hl14, ?_, ?_⟩
      · show ixN 3 k14 = some k14.toNat
        unfold ixN
        rw [if_pos k0, if_pos (by omega)]
      · have hk : k14.toNat = 0 ∨ k14.toNat = 1 ∨ k14.toNat = 2 := by omega
        rcases hk with hk | hk | hk <;> rw [hk]
        · exact ⟨_, _, u, w1, w2, du, e1, e2, n14, r14, rfl, upd_same, vu _, kp _ v1, kp _ v2, S15 _, by omega, by omega, pl15 _, tb15 _⟩
        · exact ⟨_, _, w0, u, w2, e0, du, e2, n14, r14, rfl, upd_same, kp _ v0, vu _, kp _ v2, S15 _, by omega, by omega, pl15 _, tb15 _⟩
        · exact ⟨_, _, w0, w1, u, e0, e1, du, n14, r14, rfl, upd_same, kp _ v0, kp _ v1, vu _, S15 _, by omega, by omega, pl15 _, tb15 _⟩
    · obtain ⟨o6', o9', w0, w1, w2, e0, e1, e2, n11, r11, rfl, hl, v0, v1, v2, S, b1, b2, pl, tabs⟩ := hm
      refine ⟨tabs, fun H12 eN tb12 => ?_⟩
      have hl12 := eN _ _ hl (by intro ps z; cases z)
      have th12 : ∀ {w : V} {e : PyData}, Val K H11 ls w e → Th K H12 w e := fun {w e} v => Th.N eN (Th.grow (del_same _ _) v.th)
      refine told_make (ls := ls) rfl hl12 (th12 v0) (th12 v1) (th12 v2) v0.sh v1.sh v2.sh fun v H13 s13 told => ?_
      have hl13 := s13 _ _ hl12
      refine ⟨_, rfl, ls, _, _, w0, rfl, rfl, SqL.of hl13, rfl, _, rfl, ls, _, _, w1, rfl, rfl, SqL.of hl13, rfl, _, rfl, ls, _, _, w2, rfl, rfl, SqL.of hl13, rfl, ?_⟩
      refine ⟨w0, w1, w2, e0, e1, e2, rfl, Th.grow s13 (th12 v0), Th.grow s13 (th12 v1), Th.grow s13 (th12 v2), v0.sh.toShw, v1.sh.toShw, v2.sh.toShw, fun vd H14 s14 told2 => ?_⟩
      obtain ⟨dd, dp1, dp2, dsh, deq⟩ := told_eq (K := K) (Told.grow s14 told) told2 (due_ok v0.sh v1.sh v2.sh)
      refine ⟨dd, dd, dp1, dp2, dsh, dsh, _, rfl, ?_⟩
      rw [deq]
      refine iteF ?_
      have S14 := ((S.growN eN).grow s13).grow s14
      have tb14 := Tabs.ext (Tabs.ext tb12 s13) s14
      have pl14 : PlAt C H14 q a1 t fr := by
        obtain ⟨dxp, hp⟩ := pl
        exact ⟨dxp, s14 _ _ (s13 _ _ (eN _ _ hp (by intro ps z; cases z)))⟩
      refine ⟨_, rfl, p, c, ns, n11, r11, rfl, S14, by omega, fun v dv n15 r15 H15 th sh x15 S15 g11 g12 => ?_⟩
      have th15 := Th.grow (newOf_same _ _) th
      have tb15 := Tabs.pen tb14 x15 S14
      have pl15 := pl14.ext (ExtP.of x15) S14
      obtain ⟨T2, i2, b2, ty2, kd2, ei2⟩ := Th.kd2 th15
      refine ⟨_, rfl, v, T2, i2, b2, isS v, rfl, ty2, kd2, _, rfl, ?_⟩
      rw [ei2]
      have hn' : n15 ≤ 100 * ((i + 1 : Nat) : Int) := by
        have e : ((1 + d).toNat : Int) = 1 + d := Int.toNat_of_nonneg (by omega)
        omega
      cases hI : isI v with
      | true => exact iteF (iteF ⟨_, _, _, _, _, _, _, _, c, ns, n15, r15, rfl, S15, hn', tb15⟩)
      | false =>
        refine iteT ⟨tb15, fun H16 eN6 tb16 => ?_⟩
        have pl16 : PlAt C H16 q a1 t fr := by
          obtain ⟨dxp, hp⟩ := pl15
          exact ⟨dxp, eN6 _ _ hp (by intro ps z; cases z)⟩
        refine told_add MM rfl rfl pl16 ax hf (Th.N eN6 th15) sh hI fun v3 H17 s17 told3 => ?_
        refine ⟨_, rfl, v, dv, rfl, Th.grow s17 (Th.N eN6 th15), sh.sh, sh.dep, sh.sz, by show 3 ≤ sizeLine; decide, fun l4 hl4 => ?_⟩
        obtain ⟨d3, dp3, dp4, dsh3, deq3⟩ := told_eq (K := K) (Told.grow (same_new (o := .lst [.str wN, .str dv.shown, .bl true]) hl4) told3) ⟨l4, rfl, upd_same⟩ (fun x y e => by cases e; exact ⟨by decide +kernel, sh.ok⟩)
        refine ⟨d3, d3, dp3, dp4, dsh3, dsh3, _, rfl, ?_⟩
        rw [deq3]
        have s18 := s17.trans (same_new (o := .lst [.str wN, .str dv.shown, .bl true]) hl4)
        exact iteF ⟨_, _, _, _, _, _, _, _, c, ns, n15, r15, rfl, (S15.growN eN6).grow s18, hn', Tabs.ext tb16 s18⟩
end
end Toy
end

section
set_option Elab.async false
set_option linter.all false
set_option maxRecDepth 100000
set_option maxHeartbeats 0
namespace Toy
open PySem PySem.Spec PyProof.Rows L2 Gd LamX
abbrev sAxisIdx : Stmt := top 12
/-! ### the head: facts by names -/
/-- a def at an address -/
structure Df where
  at_ : PySem.W.Frag → Addr
  name : Str
  qual : Str
  st : Stmt
def fnA (K : PySem.W.Frag) (a : Addr) : He.FnW := match K.lookup a with
  | some ⟨_, _, .func fd, _⟩ => some (fd.name, fd.qualname, fd.params, fd.body, fd.scope, fd.globals, fd.closure, fd.builtins)
  | _ => none
def Df.val (d : Df) : He.FnW := some (d.name, d.qual, defArgs d.st, .stmts (defBody d.st), defScope d.st, mainGlobals, [], builtinsNs)
def Df.ok (K : PySem.W.Frag) (d : Df) : Bool := PySem.W.keepIn K (.ref (d.at_ K)) && (match K.lookup (d.at_ K) with
  | some ⟨_, _, .func fd, _⟩ => PySem.W.codeIn K fd.code d.qual && decide (fd.defaults = .none)
  | _ => false)
theorem Df.fun_ {K : PySem.W.Frag} {d : Df} (e : fnA K (d.at_ K) = d.val) (c : d.ok K = true) : ∃ fd, Fun K d.name d.qual d.st (d.at_ K) fd := by
  have kp := (He.ba c).1
  have cq := (He.ba c).2
  unfold fnA Df.val at e
  match hz : K.lookup (d.at_ K) with
  | none =>
    rw [hz] at cq
    cases cq
  | some ⟨oc, od, dt, osl⟩ =>
    rw [hz] at cq e
    match dt, hz, cq, e with
    | .func fd, hz, cq, e =>
      have k1 := (He.ba cq).1
      have k2 : fd.defaults = .none := of_decide_eq_true (He.ba cq).2
      injection e with e
      injection e with a1 e
      injection e with a2 e
      injection e with a3 e
      injection e with a4 e
      injection e with a5 e
      injection e with a6 e
      injection e with a7 a8
      refine ⟨fd, ⟨oc, od, fd.kwdefaults, fd.doc, fd.pyModule, fd.annotations, fd.code, fd.closureTuple, osl, ?_, hz, k1⟩, kp⟩
      cases fd
      dsimp only at a1 a2 a3 a4 a5 a6 a7 a8 k2
      subst a1 a2 a3 a4 a5 a6 a7 a8 k2
      rfl
theorem funOf {K : PySem.W.Frag} {x qual : Str} {st : Stmt} {f : Addr} {fd : FuncData} {kws : List (Str × V)} (F : FunD K x qual (defArgs st) (defBody st) (defScope st) [] kws f fd) : Fun K x qual st f fd := by
  obtain ⟨oc, od, dV, kV, doc, pm, an, cdv, ct, osl, rfl, lk, hcd, hD, hK⟩ := F.ex
  rcases hD with ⟨_, rfl⟩ | ⟨e, _⟩
  · exact ⟨⟨oc, od, kV, doc, pm, an, cdv, ct, osl, rfl, lk, hcd⟩, F.kp⟩
  · exact absurd rfl e
theorem funC {K : PySem.W.Frag} {x qual : Str} {st : Stmt} {p : Str × Option Str} {fd : FuncData} (F : Fun K x qual st (He.fAd K p) fd) : FunC K x qual st (He.fAd K p) (He.codeOf K p) fd := by
  obtain ⟨oc, od, kV, doc, pm, an, cdv, ct, osl, rfl, lk, hcd⟩ := F.ex
  obtain ⟨c, rfl⟩ := He.codeIn_ref hcd
  have e := He.codeOf_eq lk rfl
  rw [e]
  exact ⟨oc, od, _, kV, doc, pm, an, ct, osl, rfl, lk, hcd⟩
/-- a property's getter -/
def getA (C f : Str) (K : PySem.W.Frag) : Addr := match PySem.W.recIn K (He.ma K (He.ga K C) f) "property" with
  | some (.ref g :: _) => g
  | _ => 0
def propB (K : PySem.W.Frag) (C f : Str) : Bool := decide (PySem.W.findIn K (.ref (He.ga K C)) f = some (some (.ref (He.ma K (He.ga K C) f)))) && (decide (PySem.W.specialIn K (.ref (He.ma K (He.ga K C) f)) "__get__" = some (some (.builtin "property.__get__"))) &&
  (decide (PySem.W.takesIn K (.ref (He.ma K (He.ga K C) f)) = some true) && (match PySem.W.recIn K (He.ma K (He.ga K C) f) "property" with
    | some (.ref _ :: _) => true
    | _ => false)))
theorem propB_ok {K : PySem.W.Frag} {C f : Str} (h : propB K C f = true) : PropOf K (He.ga K C) f (He.ma K (He.ga K C) f) (getA C f K) := by
  obtain ⟨h1, h⟩ := He.ba h
  obtain ⟨h2, h⟩ := He.ba h
  obtain ⟨h3, h4⟩ := He.ba h
  refine ⟨of_decide_eq_true h1, of_decide_eq_true h2, of_decide_eq_true h3, ?_⟩
  unfold getA
  split at h4
  · rename_i g rest e
    rw [e]
    exact ⟨rest, rfl⟩
  · cases h4
/-- an error class -/
def excQ (K : PySem.W.Frag) (C : Addr) : Bool := match K.lookup C with
  | some ⟨.type "type", _, .cls ⟨_, _, .ref C' :: bm, _, _, true, _, _, _, _, false⟩, ⟨[_, _, _, _, some (.builtin n), _]⟩⟩ => decide (C' = C) && (decide (n = "ValueError.__new__") && PySem.HandSPX.refsVE bm)
  | _ => false
theorem excQ_ok {K : PySem.W.Frag} {C : Addr} (q : excQ K C = true) : ∃ nm qn N bs bm sn sub ab col dd k0 k1 k2 k3 k5, K.lookup C = some (excClassObj nm qn C N bs bm true sn sub ab col dd k0 k1 k2 k3 k5 "ValueError.__new__") ∧ PySem.HandSPX.refsVE bm = true := by
  unfold excQ at q
  split at q
  · rename_i look
    obtain ⟨a, q⟩ := He.ba q
    obtain ⟨b, r⟩ := He.ba q
    have a' := of_decide_eq_true a
    have b' := of_decide_eq_true b
    subst a' b'
    exact ⟨_, _, _, _, _, _, _, _, _, _, _, _, _, _, _, look, r⟩
  · cases q
def errB (K : PySem.W.Frag) (x : Str) : Bool := excQ K (He.ga K x) && (decide (PySem.W.findIn K (.ref (He.ga K x)) "__setattr__" = some (some (.builtin "object.__setattr__"))) && (decide (PySem.W.subIn K (.ref (He.ga K x)) (.type "BaseException") = some true) &&
  (decide (PySem.W.typeIn K (.ref (He.ga K x)) = some (.type "type")) && (decide (PySem.W.findIn K (.ref (He.ga K x)) "__getattribute__" = some (some (.builtin "BaseException.__getattribute__"))) && (decide (PySem.W.findIn K (.ref (He.ga K x)) "__getattr__" = some none) &&
  (PySem.W.hasDictIn K (He.ga K x) && (decide (PySem.W.findIn K (.ref (He.ga K x)) "__class__" = some (some (.builtin "object.__class__"))) && (decide (PySem.W.mroIn K (He.ga K x) (.type "object") = some true) &&
  (decide (PySem.W.kitOne K (.ref (He.ga K x)) (.type "ValueError") = some true) && (decide (PySem.W.findIn K (.ref (He.ga K x)) "__init__" = some (some (.ref (He.ma K (He.ga K x) "__init__")))) && decide (PySem.W.typeIn K (.ref (He.ma K (He.ga K x) "__init__")) = some (.type "function")))))))))))) 
structure ErrF (K : PySem.W.Frag) (x : Str) : Prop where
  q : ∃ nm qn N bs bm sn sub ab col dd k0 k1 k2 k3 k5, K.lookup (He.ga K x) = some (excClassObj nm qn (He.ga K x) N bs bm true sn sub ab col dd k0 k1 k2 k3 k5 "ValueError.__new__") ∧ PySem.HandSPX.refsVE bm = true
  sa : PySem.W.findIn K (.ref (He.ga K x)) "__setattr__" = some (some (.builtin "object.__setattr__"))
  exC : PySem.W.subIn K (.ref (He.ga K x)) (.type "BaseException") = some true
  tyC : PySem.W.typeIn K (.ref (He.ga K x)) = some (.type "type")
  gb : PySem.W.findIn K (.ref (He.ga K x)) "__getattribute__" = some (some (.builtin "BaseException.__getattribute__"))
  gg : PySem.W.findIn K (.ref (He.ga K x)) "__getattr__" = some none
  hd : PySem.W.hasDictIn K (He.ga K x) = true
  cl : PySem.W.findIn K (.ref (He.ga K x)) "__class__" = some (some (.builtin "object.__class__"))
  hm : PySem.W.mroIn K (He.ga K x) (.type "object") = some true
  kv : PySem.W.kitOne K (.ref (He.ga K x)) (.type "ValueError") = some true
  iC : PySem.W.findIn K (.ref (He.ga K x)) "__init__" = some (some (.ref (He.ma K (He.ga K x) "__init__")))
  tI : PySem.W.typeIn K (.ref (He.ma K (He.ga K x) "__init__")) = some (.type "function")
theorem errB_ok {K : PySem.W.Frag} {x : Str} (h : errB K x = true) : ErrF K x := by
  obtain ⟨h1, h⟩ := He.ba h
  obtain ⟨h2, h⟩ := He.ba h
  obtain ⟨h3, h⟩ := He.ba h
  obtain ⟨h4, h⟩ := He.ba h
  obtain ⟨h5, h⟩ := He.ba h
  obtain ⟨h6, h⟩ := He.ba h
  obtain ⟨h7, h⟩ := He.ba h
  obtain ⟨h8, h⟩ := He.ba h
  obtain ⟨h9, h⟩ := He.ba h
  obtain ⟨h10, h⟩ := He.ba h
  obtain ⟨h11, h12⟩ := He.ba h
  exact ⟨excQ_ok h1, of_decide_eq_true h2, of_decide_eq_true h3, of_decide_eq_true h4, of_decide_eq_true h5, of_decide_eq_true h6, h7, of_decide_eq_true h8, of_decide_eq_true h9, of_decide_eq_true h10, of_decide_eq_true h11, of_decide_eq_true h12⟩
/-- the class Plane, beside its defs; a base's method -/
def dunB (K : PySem.W.Frag) (m : Str) : Bool := decide (PySem.W.findIn K (.ref (He.ga K "Plane")) m = some (some (.ref (He.ma K (He.ga K "Plane") m)))) && PySem.W.isFn K (.ref (He.ma K (He.ga K "Plane") m))
def plusB (K : PySem.W.Frag) (T : String) : Bool := (PySem.W.findIn K (.type T) "__add__").isSome && ((PySem.W.findIn K (.type T) "__radd__").isSome && (decide (PySem.W.subIn K (.type T) (.ref (He.ga K "Plane")) = some false) &&
  (PySem.W.notFirst K (He.ga K "Plane") (.type T) && decide (PySem.W.kitOne K (.type T) (.ref (He.ga K "Plane")) = some false))))
def plcL : List (Str × He.Dv) := [("x", .int 0), ("y", .int 1), ("z", .int 2)]
def plB (K : PySem.W.Frag) : Bool := decide (PySem.W.findIn K (.ref (He.ga K "Plane")) "__class__" = some (some (.builtin "object.__class__"))) && (decide (PySem.W.specialIn K (.builtin "object.__class__") "__get__" = some (some (.builtin "getset_descriptor.__get__"))) &&
  (decide (PySem.W.takesIn K (.builtin "object.__class__") = some true) && (decide (PySem.W.mroIn K (He.ga K "Plane") (.type "object") = some true) && (decide (PySem.W.kitOne K (.ref (He.ga K "Plane")) (.ref (He.ga K "Plane")) = some true) &&
  (PySem.W.selfFirst K (He.ga K "Plane") && (decide (PySem.W.findIn K (.ref (He.ga K "Plane")) "__radd__" = some none) && (decide (PySem.W.findIn K (.ref (He.ga K "Plane")) "__ne__" = some (some (.builtin "object.__ne__"))) &&
  (PySem.W.notFirst K (He.ga K "Plane") (.ref (He.ga K "Plane")) && ((match PySem.W.findCls K (.type "ValueError") (.type "type") "__init__" with
    | some (.val v) => decide (v = .builtin "ValueError.__init__")
    | _ => false) && (He.tupB K "AXES" [.str "x", .str "y", .str "z"] && He.valsB K (He.ga K "PLACES") plcL))))))))))
structure PlF (K : PySem.W.Frag) : Prop where
  ha : PySem.W.findIn K (.ref (He.ga K "Plane")) "__class__" = some (some (.builtin "object.__class__"))
  hn : PySem.W.specialIn K (.builtin "object.__class__") "__get__" = some (some (.builtin "getset_descriptor.__get__"))
  ht : PySem.W.takesIn K (.builtin "object.__class__") = some true
  hm : PySem.W.mroIn K (He.ga K "Plane") (.type "object") = some true
  own : PySem.W.kitOne K (.ref (He.ga K "Plane")) (.ref (He.ga K "Plane")) = some true
  first : PySem.W.selfFirst K (He.ga K "Plane") = true
  noR : PySem.W.findIn K (.ref (He.ga K "Plane")) "__radd__" = some none
  ne : PySem.W.findIn K (.ref (He.ga K "Plane")) "__ne__" = some (some (.builtin "object.__ne__"))
  ownI : PySem.W.notFirst K (He.ga K "Plane") (.ref (He.ga K "Plane")) = true
  vV : PySem.W.findCls K (.type "ValueError") (.type "type") "__init__" = some (.val (.builtin "ValueError.__init__"))
  ax : ∀ H : Hp, SqT K H (He.ga K "AXES") [axX, axY, axZ]
  plc : He.valsB K (He.ga K "PLACES") plcL = true
theorem plB_ok {K : PySem.W.Frag} (h : plB K = true) : PlF K := by
  obtain ⟨h1, h⟩ := He.ba h
  obtain ⟨h2, h⟩ := He.ba h
  obtain ⟨h3, h⟩ := He.ba h
  obtain ⟨h4, h⟩ := He.ba h
  obtain ⟨h5, h⟩ := He.ba h
  obtain ⟨h6, h⟩ := He.ba h
  obtain ⟨h7, h⟩ := He.ba h
  obtain ⟨h8, h⟩ := He.ba h
  obtain ⟨h9, h⟩ := He.ba h
  obtain ⟨h10, h⟩ := He.ba h
  obtain ⟨h11, h12⟩ := He.ba h
  refine ⟨of_decide_eq_true h1, of_decide_eq_true h2, of_decide_eq_true h3, of_decide_eq_true h4, of_decide_eq_true h5, h6, of_decide_eq_true h7, of_decide_eq_true h8, h9, ?_, He.tupB_ok h11, h12⟩
  split at h10
  · rename_i v e
    rw [e, of_decide_eq_true h10]
  · cases h10
theorem plusB_ok {K : PySem.W.Frag} {T : String} (h : plusB K T = true) : PlusT K (He.ga K "Plane") T ∧ PySem.W.notFirst K (He.ga K "Plane") (.type T) = true ∧ PySem.W.kitOne K (.type T) (.ref (He.ga K "Plane")) = some false := by
  obtain ⟨h1, h⟩ := He.ba h
  obtain ⟨h2, h⟩ := He.ba h
  obtain ⟨h3, h⟩ := He.ba h
  obtain ⟨h4, h5⟩ := He.ba h
  exact ⟨⟨Option.isSome_iff_exists.mp h1, Option.isSome_iff_exists.mp h2, of_decide_eq_true h3⟩, h4, of_decide_eq_true h5⟩
theorem dunB_ok {K : PySem.W.Frag} {m : Str} (h : dunB K m = true) : DunAt K (He.ga K "Plane") m (He.ma K (He.ga K "Plane") m) := by
  obtain ⟨h1, h2⟩ := He.ba h
  exact ⟨of_decide_eq_true h1, h2⟩
/-! ### the Hook: the library's, and the getters -/
def tsL : List He.Tab := [(fun K => He.ga K "PLACES", ["x", "y", "z"])]
def hookY (n : Nat) (fa : List He.Fa) (fn : List He.DefD) (tf : List He.Defn) (ex : PySem.W.Frag → Bool) (ps : List Df) : PySem.W.Hook where
  α := He.AlX × List He.FnW
  obs := fun s => (He.obsX n fa fn tsL tf ex s.heap.get?, ps.map fun d => fnA (He.frT s.heap.get? (He.asD s.heap.get? n)) (d.at_ (He.frT s.heap.get? (He.asD s.heap.get? n))))
  val := fun w => (He.valX fn tsL w, ps.map Df.val)
  says := fun w h => ∃ K : PySem.W.Frag, K.In h ∧ He.SaysX fa fn tsL tf ex w h K ∧ ps.map (fun d => fnA K (d.at_ K)) = ps.map Df.val
  of := fun _ _ e => ⟨_, He.frT_in, He.saysX_of (Prod.mk.inj e).1, (Prod.mk.inj e).2⟩
  keeps := fun _ _ _ ⟨K, hK, c, m⟩ k => ⟨K, PySem.W.Frag.In.keeps hK k, ⟨c.t, c.more, c.hd, c.out, fun p hp => k _ _ (c.empty p hp)⟩, m⟩
theorem walk_gE {l : PySem.W.OpenLaw} {n k : Nat} {q : Program} {loose : List Str} {XP : (Str → Option Value) → Heap → Prop} {YP : World → Heap → Prop} {d : DefRec} {CX : CXT} {x : Str}
    (hn : l.most = some n) (hn2 : n ≤ sizeLine) (hdf : d.params.defaults = []) (hr : Room k callerA)
    (F : ∀ (w : World) (mg : Str → Option Value) (fa : Addr) (h : Heap), YP w h → h.Ns mainGlobals mg → mg d.name = some (.ref fa) → ∃ K : PySem.W.Frag, K.In h ∧ LawG l w K CX k n x mg fa h)
    (hCX : ∀ (H : Hp) (s : Shared) (e : Value) (s' : Shared), CX [] H s (fun _ _ _ => False) e s' → False) : PySem.W.WalkO q loose XP YP l.row.toRowW d [] (fun f vs => PySem.call f vs) := by
  refine Att.attach_callB hn hdf ?_
  intro w sA sB mg mb fa o pm cd doc a vs ns G Y ho hd hcd hmg hobj hints hlen hbits hg
  obtain ⟨K, KX, fd, cs, sp, hT, nT, C, hb, hsp, hF⟩ := F w mg fa _ Y G.T.g hmg
  exact law_gT KX G.T.g G.T.b G.T.builtins G.T.nolimit hg hT nT C G.T.bmain hobj hints (Nat.le_trans hlen hn2) hr hF hb (fun H hH hS => hsp H a ns hlen hbits hH hS) (fun H e s' => hCX H sB e s')

def faL : List He.Fa := [.glo "InvalidAxis", .glo "InvalidNumber", .glo "InvalidFront", .glo "OutOfBounds", .glo "Plane", .glo "is_integer", .glo "is_within", .glo "axis_index", .glo "direction_indexes", .glo "_law_pen", .glo "_law_draw", .glo "_law_pick", .glo "_law_around", .glo "_law_great", .glo "_law_odd", .glo "_law_refused", .glo "_law_is_int", .glo "_law_due", .glo "_law_right", .glo "law", .glo "AXES", .glo "PLACES", .free "ValueError", .free "repr", .free "isinstance", .free "int", .free "bool", .free "str", .free "abs", .free "len", .free "max", .free "min", .free "list", .free "tuple", .free "range", .free "enumerate", .int "LIMIT" 1000000000000000000000000000000, .cls "Plane", .noat "Plane" "_axis", .noat "Plane" "_at", .noat "Plane" "_front", .mkr "Plane", .meth "Plane" "point_at", .noat "InvalidAxis" "value", .noat "InvalidNumber" "value", .noat "InvalidFront" "value", .noat "OutOfBounds" "value", .exm "InvalidAxis" "InvalidAxis" true, .exm "InvalidNumber" "InvalidAxis" false, .exm "InvalidNumber" "InvalidNumber" true, .exm "InvalidFront" "InvalidAxis" false, .exm "InvalidFront" "InvalidNumber" false, .exm "InvalidFront" "InvalidFront" true, .exm "OutOfBounds" "InvalidAxis" false, .exm "OutOfBounds" "InvalidNumber" false, .exm "OutOfBounds" "InvalidFront" false, .exm "OutOfBounds" "OutOfBounds" true, .keep "InvalidAxis", .keep "InvalidNumber", .keep "InvalidFront", .keep "OutOfBounds"]
abbrev dN0 : He.DefD := ⟨("InvalidAxis", some "__init__"), "__init__", "InvalidAxis.__init__", defArgs sInitAxis, defBody sInitAxis, defScope sInitAxis, [], []⟩
abbrev dN1 : He.DefD := ⟨("InvalidNumber", some "__init__"), "__init__", "InvalidNumber.__init__", defArgs sInitNumber, defBody sInitNumber, defScope sInitNumber, [], []⟩
abbrev dN2 : He.DefD := ⟨("InvalidFront", some "__init__"), "__init__", "InvalidFront.__init__", defArgs sInitFront, defBody sInitFront, defScope sInitFront, [], []⟩
abbrev dN3 : He.DefD := ⟨("OutOfBounds", some "__init__"), "__init__", "OutOfBounds.__init__", defArgs sInitBounds, defBody sInitBounds, defScope sInitBounds, [], []⟩
abbrev dN4 : He.DefD := ⟨("Plane", some "__init__"), "__init__", "Plane.__init__", defArgs sPInit, defBody sPInit, defScope sPInit, [.int 1], []⟩
abbrev dN5 : He.DefD := ⟨("Plane", some "__eq__"), "__eq__", "Plane.__eq__", defArgs sPEq, defBody sPEq, defScope sPEq, [], []⟩
abbrev dN6 : He.DefD := ⟨("Plane", some "__neg__"), "__neg__", "Plane.__neg__", defArgs sPNeg, defBody sPNeg, defScope sPNeg, [], []⟩
abbrev dN7 : He.DefD := ⟨("Plane", some "__add__"), "__add__", "Plane.__add__", defArgs sPAdd, defBody sPAdd, defScope sPAdd, [], []⟩
abbrev dN8 : He.DefD := ⟨("Plane", some "point_at"), "point_at", "Plane.point_at", defArgs sPPoint, defBody sPPoint, defScope sPPoint, [], []⟩
abbrev dN9 : He.DefD := ⟨("is_integer", none), "is_integer", "is_integer", defArgs sIsInt, defBody sIsInt, defScope sIsInt, [], []⟩
abbrev dN10 : He.DefD := ⟨("is_within", none), "is_within", "is_within", defArgs sWithin, defBody sWithin, defScope sWithin, [], []⟩
abbrev dN11 : He.DefD := ⟨("axis_index", none), "axis_index", "axis_index", defArgs sAxisIdx, defBody sAxisIdx, defScope sAxisIdx, [], []⟩
abbrev dN12 : He.DefD := ⟨("direction_indexes", none), "direction_indexes", "direction_indexes", defArgs sDirs, defBody sDirs, defScope sDirs, [], []⟩
abbrev dN13 : He.DefD := ⟨("_law_pen", none), "_law_pen", "_law_pen", defArgs sPen, defBody sPen, defScope sPen, [], []⟩
abbrev dN14 : He.DefD := ⟨("_law_draw", none), "_law_draw", "_law_draw", defArgs sDraw, defBody sDraw, defScope sDraw, [], []⟩
abbrev dN15 : He.DefD := ⟨("_law_pick", none), "_law_pick", "_law_pick", defArgs sPick, defBody sPick, defScope sPick, [], []⟩
abbrev dN16 : He.DefD := ⟨("_law_around", none), "_law_around", "_law_around", defArgs sAround, defBody sAround, defScope sAround, [], []⟩
abbrev dN17 : He.DefD := ⟨("_law_great", none), "_law_great", "_law_great", defArgs sGreat, defBody sGreat, defScope sGreat, [], []⟩
abbrev dN18 : He.DefD := ⟨("_law_odd", none), "_law_odd", "_law_odd", defArgs sOdd, defBody sOdd, defScope sOdd, [], []⟩
abbrev dN19 : He.DefD := ⟨("_law_refused", none), "_law_refused", "_law_refused", defArgs sRef, defBody sRef, defScope sRef, [], []⟩
abbrev dN20 : He.DefD := ⟨("_law_is_int", none), "_law_is_int", "_law_is_int", defArgs sLInt, defBody sLInt, defScope sLInt, [], []⟩
abbrev dN21 : He.DefD := ⟨("_law_due", none), "_law_due", "_law_due", defArgs sDue, defBody sDue, defScope sDue, [], []⟩
abbrev dN22 : He.DefD := ⟨("_law_right", none), "_law_right", "_law_right", defArgs sRight, defBody sRight, defScope sRight, [], []⟩
abbrev dN23 : He.DefD := ⟨("law", none), "law", "law", defArgs sLaw, defBody sLaw, defScope sLaw, [], []⟩
def fnL : List He.DefD := [dN0, dN1, dN2, dN3, dN4, dN5, dN6, dN7, dN8, dN9, dN10, dN11, dN12, dN13, dN14, dN15, dN16, dN17, dN18, dN19, dN20, dN21, dN22, dN23]
def tfL : List He.Defn := [("law", none), ("_law_right", none)]
def psL : List Df := [⟨getA "Plane" "axis", "axis", "Plane.axis", sPAxis⟩, ⟨getA "Plane" "at", "at", "Plane.at", sPAt⟩, ⟨getA "Plane" "front", "front", "Plane.front", sPFront⟩, ⟨getA "Plane" "directions", "directions", "Plane.directions", sPDirs⟩]
def exB (K : PySem.W.Frag) : Bool := (["InvalidAxis", "InvalidNumber", "InvalidFront", "OutOfBounds"] : List Str).all (errB K) && (plB K && (baseTs.all (plusB K) && (dunB K "__eq__" && (dunB K "__neg__" && (dunB K "__add__" && (propB K "Plane" "axis" && (propB K "Plane" "at" && (propB K "Plane" "front" && (propB K "Plane" "directions" && (psL.all (Df.ok K) && decide ((He.cT K ("law", none)).2 ≠ (He.cT K ("_law_right", none)).2)))))))))))
end Toy
end

section
set_option Elab.async false
set_option linter.all false
set_option maxRecDepth 100000
set_option maxHeartbeats 0
namespace Toy
open PySem PySem.Spec PyProof.Rows L2 Gd LamX
theorem yesIf {c : Bool} {A B : Prop} (h : c = true) (a : A) : if c = true then A else B := by
  subst h
  exact iteT a
theorem noIf {c : Bool} {A B : Prop} (h : c = false) (b : B) : if c = true then A else B := by
  subst h
  exact iteF b
structure PlcT (K : PySem.W.Frag) (w : World) (mg : Str → Option Value) : Prop where
  ex : ∃ aP, mg "PLACES" = some (.ref aP) ∧ KDct K w aP sx (.int 0) ∧ KDct K w aP sy (.int 1) ∧ KDct K w aP sz (.int 2)
theorem plcT_of {K : PySem.W.Frag} {w : World} {mg : Str → Option Value} {a : Addr} (m : mg "PLACES" = some (.ref a)) (D : ∃ es n, KDict K w a es n) (v : He.valsB K a plcL = true) : PlcT K w mg := by
  obtain ⟨es, n, k1, k2, k3⟩ := D
  obtain ⟨u1, e1, r1⟩ := He.valsB_ok v (q := ("x", .int 0)) (by unfold plcL; simp)
  obtain ⟨u2, e2, r2⟩ := He.valsB_ok v (q := ("y", .int 1)) (by unfold plcL; simp)
  obtain ⟨u3, e3, r3⟩ := He.valsB_ok v (q := ("z", .int 2)) (by unfold plcL; simp)
  exact ⟨⟨a, m, ⟨es, n, u1, k1, k2, e1, r1⟩, ⟨es, n, u2, k1, k2, e2, r2⟩, ⟨es, n, u3, k1, k2, e3, r3⟩⟩⟩
theorem scAx : FnScope ["axis"] ["axis"] (defScope sAxisIdx) := ⟨rfl, rfl, rfl, by decide +kernel, rfl, by decide +kernel, by decide +kernel⟩
theorem ok_axis {P : Program} {w : World} {K : PySem.W.Frag} {mg : Str → Option Value} {base : Heap} {f CA : Addr} {fd : FuncData} (F : Fun K "axis_index" "axis_index" sAxisIdx f fd) (EA : ErrsT P w K mg base "InvalidAxis" CA) (AX : AxT K mg) (PT : PlcT K w mg) :
    FnOk P w K mg base (L2.CX P w) 3 f fd ["axis"] (spAxis K CA) := by
  obtain ⟨fA, fdA, TA, GA⟩ := EA.ex
  obtain ⟨aX, mX, hX⟩ := AX.ex
  obtain ⟨aP, mP, pX, pY, pZ⟩ := PT.ex
  refine F.okX scAx (fun vs H Q E h => ?_) (fun cdv A outer s H vs Q E hr h => ?_)
  · obtain ⟨v, d, rfl, _⟩ := h
    rfl
  · obtain ⟨v, d, rfl, tv, k, kE⟩ := h
    refine ⟨_, pss_cons (ps_if (pt_cmpR (op_notIn_any (hu_of hr)) (pv 0) (pe_glob (v := .ref aX) (by rfl) mX rfl) (by rfl))
        (pss_one (ps_raise rfl (takes_of rfl rfl rfl rfl) (pmk_oex TA.ox TA.iC TA.tI GA hr TA.b .nil pass0 (by rfl) TA.m (pa_cons (pv 0) pa_nil)))) pss_nil)
      (pss_one (ps_ret (pe_ix ix_kdict (pe_glob (v := .ref aP) (by rfl) mP rfl) (pv 0) (fun _ _ => rfl)))), ?_⟩
    refine ⟨v, rfl, aX, [sx, sy, sz], d, rfl, .inr (hX _), tv, _, rfl, ?_⟩
    by_cases e1 : v = axX
    · refine noIf (by rw [e1]; decide +kernel) ⟨_, rfl, aP, sx, _, rfl, e1, pX, k 0 (by rw [e1]; exact ax_x) _ (Same.refl _)⟩
    by_cases e2 : v = axY
    · refine noIf (by rw [e2]; decide +kernel) ⟨_, rfl, aP, sy, _, rfl, e2, pY, k 1 (by rw [e2]; exact ax_y) _ (Same.refl _)⟩
    by_cases e3 : v = axZ
    · refine noIf (by rw [e3]; decide +kernel) ⟨_, rfl, aP, sz, _, rfl, e3, pZ, k 2 (by rw [e3]; exact ax_z) _ (Same.refl _)⟩
    have hA : axV v = none := by
      unfold axV
      rw [if_neg e1, if_neg e2, if_neg e3]
    refine yesIf (by simp [e1, e2, e3]) ⟨_, rfl, (by show 1 ≤ 1000; decide), rz_made (kE hA)⟩
theorem getter_ok {P : Program} {w : World} {K : PySem.W.Frag} {mg : Str → Option Value} {base : Heap} {g C : Addr} {fd : FuncData} {name qual f : Str} {st : Stmt} {p1 p2 p3 : Pos} (F : Fun K name qual st g fd) (S : FnScope ["self"] ["self"] (defScope st))
    (hb : defBody st = [.Return (some (.Attribute (.Name "self" p1) f p2)) p3]) (c : Cls K C) (n : NoAttr K C f) : FnOk P w K mg base CX0 1 g fd ["self"] (getSp C f) := by
  obtain ⟨oc, od, kV, doc, pm, an, cdv, ct, osl, rfl, lk, hcd⟩ := F.ex
  exact fn_getter (k := 0) lk hcd S rfl hb c n
theorem scGA : FnScope ["self"] ["self"] (defScope sPAxis) := ⟨rfl, rfl, rfl, by decide +kernel, rfl, by decide +kernel, by decide +kernel⟩
theorem scGT : FnScope ["self"] ["self"] (defScope sPAt) := ⟨rfl, rfl, rfl, by decide +kernel, rfl, by decide +kernel, by decide +kernel⟩
theorem scGF : FnScope ["self"] ["self"] (defScope sPFront) := ⟨rfl, rfl, rfl, by decide +kernel, rfl, by decide +kernel, by decide +kernel⟩
theorem fnDfl {K : PySem.W.Frag} {x qual : Str} {st : Stmt} {f : Addr} {fd : FuncData} {kws : List (Str × V)} (F : FunD K x qual (defArgs st) (defBody st) (defScope st) [.int 1] kws f fd) : FunD K x qual (defArgs st) (defBody st) (defScope st) [.int 1] kws f fd := F
theorem lawG {w : World} {K : PySem.W.Frag} {h : Heap} {mg : Str → Option Value} {fa : Addr} (X : K.In h) (G : h.Ns mainGlobals mg) (hfa : mg ("law" : Str) = some (.ref fa)) (c : He.SaysX faL fnL tsL tfL exB w h K) (m : psL.map (fun d => fnA K (d.at_ K)) = psL.map Df.val) :
    LawG PySem.Challenge.rw_solidnames_k13_planes_as_objects w K CX0 10 63 "_law_script" mg fa h := by
  have cd := c.t.d
  obtain ⟨hE, hx⟩ := He.ba c.more
  obtain ⟨hP, hx⟩ := He.ba hx
  obtain ⟨hB, hx⟩ := He.ba hx
  obtain ⟨hq, hx⟩ := He.ba hx
  obtain ⟨hn, hx⟩ := He.ba hx
  obtain ⟨ha, hx⟩ := He.ba hx
  obtain ⟨pa, hx⟩ := He.ba hx
  obtain ⟨pt, hx⟩ := He.ba hx
  obtain ⟨pf, hx⟩ := He.ba hx
  obtain ⟨pd, hx⟩ := He.ba hx
  obtain ⟨hG, hne⟩ := He.ba hx
  have hne := of_decide_eq_true hne
  have PF := plB_ok hP
  have ErA : ErrF K "InvalidAxis" := errB_ok (List.all_eq_true.mp hE _ (by decide))
  have ErN : ErrF K "InvalidNumber" := errB_ok (List.all_eq_true.mp hE _ (by decide))
  have ErF : ErrF K "InvalidFront" := errB_ok (List.all_eq_true.mp hE _ (by decide))
  have ErB : ErrF K "OutOfBounds" := errB_ok (List.all_eq_true.mp hE _ (by decide))
  have hB' : ∀ T ∈ baseTs, PlusT K (He.ga K "Plane") T ∧ PySem.W.notFirst K (He.ga K "Plane") (.type T) = true ∧ PySem.W.kitOne K (.type T) (.ref (He.ga K "Plane")) = some false := fun T hT => plusB_ok (List.all_eq_true.mp hB _ hT)
  have m1 : fnA K (getA "Plane" "axis" K) = Df.val ⟨getA "Plane" "axis", "axis", "Plane.axis", sPAxis⟩ := congrArg (fun l : List He.FnW => l.getD 0 none) m
  have m2 : fnA K (getA "Plane" "at" K) = Df.val ⟨getA "Plane" "at", "at", "Plane.at", sPAt⟩ := congrArg (fun l : List He.FnW => l.getD 1 none) m
  have m3 : fnA K (getA "Plane" "front" K) = Df.val ⟨getA "Plane" "front", "front", "Plane.front", sPFront⟩ := congrArg (fun l : List He.FnW => l.getD 2 none) m
  have m4 : fnA K (getA "Plane" "directions" K) = Df.val ⟨getA "Plane" "directions", "directions", "Plane.directions", sPDirs⟩ := congrArg (fun l : List He.FnW => l.getD 3 none) m
  obtain ⟨fdgA, FgA⟩ := Df.fun_ (d := ⟨getA "Plane" "axis", "axis", "Plane.axis", sPAxis⟩) m1 (List.all_eq_true.mp hG _ (by unfold psL; simp))
  obtain ⟨fdgT, FgT⟩ := Df.fun_ (d := ⟨getA "Plane" "at", "at", "Plane.at", sPAt⟩) m2 (List.all_eq_true.mp hG _ (by unfold psL; simp))
  obtain ⟨fdgF, FgF⟩ := Df.fun_ (d := ⟨getA "Plane" "front", "front", "Plane.front", sPFront⟩) m3 (List.all_eq_true.mp hG _ (by unfold psL; simp))
  obtain ⟨fdgD, FgD⟩ := Df.fun_ (d := ⟨getA "Plane" "directions", "directions", "Plane.directions", sPDirs⟩) m4 (List.all_eq_true.mp hG _ (by unfold psL; simp))
  obtain ⟨fd_iA, FD_iA⟩ := cd.def_ 0 (d := dN0) rfl
  have F_iA := funOf (st := sInitAxis) FD_iA
  have b_iA := F_iA.binds (ps := ["self", "value"]) (fun _ _ _ _ _ _ us hl => match us, hl with | [_, _], _ => rfl)
  obtain ⟨fd_iN, FD_iN⟩ := cd.def_ 1 (d := dN1) rfl
  have F_iN := funOf (st := sInitNumber) FD_iN
  have b_iN := F_iN.binds (ps := ["self", "value"]) (fun _ _ _ _ _ _ us hl => match us, hl with | [_, _], _ => rfl)
  obtain ⟨fd_iF, FD_iF⟩ := cd.def_ 2 (d := dN2) rfl
  have F_iF := funOf (st := sInitFront) FD_iF
  have b_iF := F_iF.binds (ps := ["self", "value"]) (fun _ _ _ _ _ _ us hl => match us, hl with | [_, _], _ => rfl)
  obtain ⟨fd_iB, FD_iB⟩ := cd.def_ 3 (d := dN3) rfl
  have F_iB := funOf (st := sInitBounds) FD_iB
  have b_iB := F_iB.binds (ps := ["self"]) (fun _ _ _ _ _ _ us hl => match us, hl with | [_], _ => rfl)
  obtain ⟨fd_pI, FD_pI⟩ := cd.def_ 4 (d := dN4) rfl
  obtain ⟨fd_pE, FD_pE⟩ := cd.def_ 5 (d := dN5) rfl
  have F_pE := funOf (st := sPEq) FD_pE
  have b_pE := F_pE.binds (ps := ["self", "other"]) (fun _ _ _ _ _ _ us hl => match us, hl with | [_, _], _ => rfl)
  obtain ⟨fd_pN, FD_pN⟩ := cd.def_ 6 (d := dN6) rfl
  have F_pN := funOf (st := sPNeg) FD_pN
  have b_pN := F_pN.binds (ps := ["self"]) (fun _ _ _ _ _ _ us hl => match us, hl with | [_], _ => rfl)
  obtain ⟨fd_pA, FD_pA⟩ := cd.def_ 7 (d := dN7) rfl
  have F_pA := funOf (st := sPAdd) FD_pA
  have b_pA := F_pA.binds (ps := ["self", "number"]) (fun _ _ _ _ _ _ us hl => match us, hl with | [_, _], _ => rfl)
  obtain ⟨fd_pP, FD_pP⟩ := cd.def_ 8 (d := dN8) rfl
  have F_pP := funOf (st := sPPoint) FD_pP
  have b_pP := F_pP.binds (ps := ["self", "u", "v"]) (fun _ _ _ _ _ _ us hl => match us, hl with | [_, _, _], _ => rfl)
  obtain ⟨fd_is_integer, FD_is_integer⟩ := cd.def_ 9 (d := dN9) rfl
  have F_is_integer := funOf (st := sIsInt) FD_is_integer
  have b_is_integer := F_is_integer.binds (ps := ["value"]) (fun _ _ _ _ _ _ us hl => match us, hl with | [_], _ => rfl)
  obtain ⟨fd_is_within, FD_is_within⟩ := cd.def_ 10 (d := dN10) rfl
  have F_is_within := funOf (st := sWithin) FD_is_within
  have b_is_within := F_is_within.binds (ps := ["number"]) (fun _ _ _ _ _ _ us hl => match us, hl with | [_], _ => rfl)
  obtain ⟨fd_axis_index, FD_axis_index⟩ := cd.def_ 11 (d := dN11) rfl
  have F_axis_index := funOf (st := sAxisIdx) FD_axis_index
  have b_axis_index := F_axis_index.binds (ps := ["axis"]) (fun _ _ _ _ _ _ us hl => match us, hl with | [_], _ => rfl)
  obtain ⟨fd_direction_indexes, FD_direction_indexes⟩ := cd.def_ 12 (d := dN12) rfl
  have F_direction_indexes := funOf (st := sDirs) FD_direction_indexes
  have b_direction_indexes := F_direction_indexes.binds (ps := ["axis"]) (fun _ _ _ _ _ _ us hl => match us, hl with | [_], _ => rfl)
  obtain ⟨fd_Lpen, FD_Lpen⟩ := cd.def_ 13 (d := dN13) rfl
  have F_Lpen := funOf (st := sPen) FD_Lpen
  have b_Lpen := F_Lpen.binds (ps := ["_law_script"]) (fun _ _ _ _ _ _ us hl => match us, hl with | [_], _ => rfl)
  obtain ⟨fd_Ldraw, FD_Ldraw⟩ := cd.def_ 14 (d := dN14) rfl
  have F_Ldraw := funOf (st := sDraw) FD_Ldraw
  have b_Ldraw := F_Ldraw.binds (ps := ["_law_pen_here", "_law_many"]) (fun _ _ _ _ _ _ us hl => match us, hl with | [_, _], _ => rfl)
  obtain ⟨fd_Lpick, FD_Lpick⟩ := cd.def_ 15 (d := dN15) rfl
  have F_Lpick := funOf (st := sPick) FD_Lpick
  have b_Lpick := F_Lpick.binds (ps := ["_law_pen_here", "_law_options"]) (fun _ _ _ _ _ _ us hl => match us, hl with | [_, _], _ => rfl)
  obtain ⟨fd_Laround, FD_Laround⟩ := cd.def_ 16 (d := dN16) rfl
  have F_Laround := funOf (st := sAround) FD_Laround
  have b_Laround := F_Laround.binds (ps := ["_law_pen_here", "_law_most"]) (fun _ _ _ _ _ _ us hl => match us, hl with | [_, _], _ => rfl)
  obtain ⟨fd_Lgreat, FD_Lgreat⟩ := cd.def_ 17 (d := dN17) rfl
  have F_Lgreat := funOf (st := sGreat) FD_Lgreat
  have b_Lgreat := F_Lgreat.binds (ps := ["_law_pen_here", "_law_most"]) (fun _ _ _ _ _ _ us hl => match us, hl with | [_, _], _ => rfl)
  obtain ⟨fd_Lodd, FD_Lodd⟩ := cd.def_ 18 (d := dN18) rfl
  have F_Lodd := funOf (st := sOdd) FD_Lodd
  have b_Lodd := F_Lodd.binds (ps := ["_law_pen_here"]) (fun _ _ _ _ _ _ us hl => match us, hl with | [_], _ => rfl)
  obtain ⟨fd_Lrefused, FD_Lrefused⟩ := cd.def_ 19 (d := dN19) rfl
  have F_Lrefused := funOf (st := sRef) FD_Lrefused
  have b_Lrefused := F_Lrefused.binds (ps := ["_law_call"]) (fun _ _ _ _ _ _ us hl => match us, hl with | [_], _ => rfl)
  obtain ⟨fd_Lis_int, FD_Lis_int⟩ := cd.def_ 20 (d := dN20) rfl
  have F_Lis_int := funOf (st := sLInt) FD_Lis_int
  have b_Lis_int := F_Lis_int.binds (ps := ["_law_value"]) (fun _ _ _ _ _ _ us hl => match us, hl with | [_], _ => rfl)
  obtain ⟨fd_Ldue, FD_Ldue⟩ := cd.def_ 21 (d := dN21) rfl
  have F_Ldue := funOf (st := sDue) FD_Ldue
  have b_Ldue := F_Ldue.binds (ps := ["_law_axis", "_law_place", "_law_front"]) (fun _ _ _ _ _ _ us hl => match us, hl with | [_, _, _], _ => rfl)
  obtain ⟨fd_Lright, FD_Lright⟩ := cd.def_ 22 (d := dN22) rfl
  have F_Lright := funOf (st := sRight) FD_Lright
  have b_Lright := F_Lright.binds (ps := psRt) (fun _ _ _ _ _ _ us hl => match us, hl with | [_, _, _, _, _], _ => rfl)
  obtain ⟨fd_law, FD_law⟩ := cd.def_ 23 (d := dN23) rfl
  have F_law := funOf (st := sLaw) FD_law
  have b_law := F_law.binds (ps := ["_law_script"]) (fun _ _ _ _ _ _ us hl => match us, hl with | [_], _ => rfl)
  have bgA := FgA.binds (ps := ["self"]) (fun _ _ _ _ _ _ us hl => match us, hl with | [_], _ => rfl)
  have bgT := FgT.binds (ps := ["self"]) (fun _ _ _ _ _ _ us hl => match us, hl with | [_], _ => rfl)
  have bgF := FgF.binds (ps := ["self"]) (fun _ _ _ _ _ _ us hl => match us, hl with | [_], _ => rfl)
  have bgD := FgD.binds (ps := ["self"]) (fun _ _ _ _ _ _ us hl => match us, hl with | [_], _ => rfl)
  obtain ⟨ds0, v0, B0⟩ := FD_pI.binds1 (ps := ["self", "axis", "at", "front"]) 4 1 (by intro z; cases z) rfl (fun T kV dc pm an cdv ct us its h1 h2 => match us, its, h1, h2 with | [_, _, _, _], [_], _, _ => ⟨_, rfl, rfl⟩)
  obtain ⟨ds1, v1, B1⟩ := FD_pI.binds1 (ps := ["self", "axis", "at", "front"]) 3 0 (by intro z; cases z) rfl (fun T kV dc pm an cdv ct us its h1 h2 => match us, its, h1, h2 with | [_, _, _], [_], _, _ => ⟨_, rfl, rfl⟩)

  obtain rfl : ds0 = [] := by
    cases (show Vals [] ds0 from v0)
    rfl
  obtain ⟨t1, rfl⟩ : ∃ t, ds1 = [.int 1 t] := by
    cases (show Vals [.int 1] ds1 from v1) with
    | cons r rest =>
      cases rest
      obtain ⟨t, rfl⟩ := r
      exact ⟨t, rfl⟩
  have T : TxtR K mg := { int := (He.free_ok X G (cd.fact 25 (f := .free "int") rfl)), len := (He.free_ok X G (cd.fact 29 (f := .free "len") rfl)), abs := (He.free_ok X G (cd.fact 28 (f := .free "abs") rfl)), max := (He.free_ok X G (cd.fact 30 (f := .free "max") rfl)), min := (He.free_ok X G (cd.fact 31 (f := .free "min") rfl)), list := (He.free_ok X G (cd.fact 32 (f := .free "list") rfl)), isi := (He.free_ok X G (cd.fact 24 (f := .free "isinstance") rfl)), bool := (He.free_ok X G (cd.fact 26 (f := .free "bool") rfl)), str := (He.free_ok X G (cd.fact 27 (f := .free "str") rfl)), lim := He.int_ok X G (cd.fact 36 (f := .int "LIMIT" 1000000000000000000000000000000) rfl), repr := (He.free_ok X G (cd.fact 23 (f := .free "repr") rfl)) }
  have TV : TxtV K mg := ⟨(He.free_ok X G (cd.fact 22 (f := .free "ValueError") rfl)), PF.vV⟩
  have TTu : TxtT mg := ⟨(He.free_ok X G (cd.fact 33 (f := .free "tuple") rfl))⟩
  have oA : OexC K (He.ga K "InvalidAxis") := ⟨ErA.q, ErA.sa, ErA.exC, ErA.tyC, He.keep_ok (cd.fact 57 (f := .keep "InvalidAxis") rfl)⟩
  have oN : OexC K (He.ga K "InvalidNumber") := ⟨ErN.q, ErN.sa, ErN.exC, ErN.tyC, He.keep_ok (cd.fact 58 (f := .keep "InvalidNumber") rfl)⟩
  have oF : OexC K (He.ga K "InvalidFront") := ⟨ErF.q, ErF.sa, ErF.exC, ErF.tyC, He.keep_ok (cd.fact 59 (f := .keep "InvalidFront") rfl)⟩
  have oB : OexC K (He.ga K "OutOfBounds") := ⟨ErB.q, ErB.sa, ErB.exC, ErB.tyC, He.keep_ok (cd.fact 60 (f := .keep "OutOfBounds") rfl)⟩
  have nvA : PySem.W.findIn K (.ref (He.ga K "InvalidAxis")) kv = some none := He.noat_ok (cd.fact 43 (f := .noat "InvalidAxis" "value") rfl)
  have nvN : PySem.W.findIn K (.ref (He.ga K "InvalidNumber")) kv = some none := He.noat_ok (cd.fact 44 (f := .noat "InvalidNumber" "value") rfl)
  have nvF : PySem.W.findIn K (.ref (He.ga K "InvalidFront")) kv = some none := He.noat_ok (cd.fact 45 (f := .noat "InvalidFront" "value") rfl)
  have eA : ErrT K mg "InvalidAxis" (He.ga K "InvalidAxis") (He.ma K (He.ga K "InvalidAxis") "__init__") fd_iA ["self", "value"] := ⟨oA, (He.glo_ok X G (cd.fact 0 (f := .glo "InvalidAxis") rfl)), ErA.iC, ErA.tI, b_iA⟩
  have eN : ErrT K mg "InvalidNumber" (He.ga K "InvalidNumber") (He.ma K (He.ga K "InvalidNumber") "__init__") fd_iN ["self", "value"] := ⟨oN, (He.glo_ok X G (cd.fact 1 (f := .glo "InvalidNumber") rfl)), ErN.iC, ErN.tI, b_iN⟩
  have eF : ErrT K mg "InvalidFront" (He.ga K "InvalidFront") (He.ma K (He.ga K "InvalidFront") "__init__") fd_iF ["self", "value"] := ⟨oF, (He.glo_ok X G (cd.fact 2 (f := .glo "InvalidFront") rfl)), ErF.iC, ErF.tI, b_iF⟩
  have eB : ErrT K mg "OutOfBounds" (He.ga K "OutOfBounds") (He.ma K (He.ga K "OutOfBounds") "__init__") fd_iB ["self"] := ⟨oB, (He.glo_ok X G (cd.fact 3 (f := .glo "OutOfBounds") rfl)), ErB.iC, ErB.tI, b_iB⟩
  have TP : PlT K (He.ga K "Plane") := ⟨He.cls_ok (cd.fact 37 (f := .cls "Plane") rfl), He.noat_ok (cd.fact 38 (f := .noat "Plane" "_axis") rfl), He.noat_ok (cd.fact 39 (f := .noat "Plane" "_at") rfl), He.noat_ok (cd.fact 40 (f := .noat "Plane" "_front") rfl)⟩
  have N : InsT K mg (He.ga K "Plane") := ⟨(He.glo_ok X G (cd.fact 4 (f := .glo "Plane") rfl)), PF.ha, PF.hn, PF.ht, PF.hm, PF.own⟩
  have MK : Mk K (He.ga K "Plane") (He.ma K (He.ga K "Plane") "__init__") := He.mkr_ok (cd.fact 41 (f := .mkr "Plane") rfl)
  have MT : MkT K (He.ga K "Plane") (He.ma K (He.ga K "Plane") "__init__") fd_pI := ⟨MK, B0⟩
  have AX : AxT K mg := ⟨⟨_, (He.glo_ok X G (cd.fact 20 (f := .glo "AXES") rfl)), PF.ax⟩⟩
  have PT : PlcT K w mg := plcT_of (He.glo_ok X G (cd.fact 21 (f := .glo "PLACES") rfl)) (c.t.tab 0) PF.plc
  have Dii : Dn K mg "is_integer" (He.ga K "is_integer") fd_is_integer ["value"] := ⟨(He.glo_ok X G (cd.fact 5 (f := .glo "is_integer") rfl)), F_is_integer.kp, b_is_integer⟩
  have Dwi : Dn K mg "is_within" (He.ga K "is_within") fd_is_within ["number"] := ⟨(He.glo_ok X G (cd.fact 6 (f := .glo "is_within") rfl)), F_is_within.kp, b_is_within⟩
  have Dax : Dn K mg "axis_index" (He.ga K "axis_index") fd_axis_index ["axis"] := ⟨(He.glo_ok X G (cd.fact 7 (f := .glo "axis_index") rfl)), F_axis_index.kp, b_axis_index⟩
  have Ddi : Dn K mg "direction_indexes" (He.ga K "direction_indexes") fd_direction_indexes ["axis"] := ⟨(He.glo_ok X G (cd.fact 8 (f := .glo "direction_indexes") rfl)), F_direction_indexes.kp, b_direction_indexes⟩
  have Dpen : Dn K mg "_law_pen" (He.ga K "_law_pen") fd_Lpen ["_law_script"] := ⟨(He.glo_ok X G (cd.fact 9 (f := .glo "_law_pen") rfl)), F_Lpen.kp, b_Lpen⟩
  have Ddraw : Dn K mg "_law_draw" (He.ga K "_law_draw") fd_Ldraw ["_law_pen_here", "_law_many"] := ⟨(He.glo_ok X G (cd.fact 10 (f := .glo "_law_draw") rfl)), F_Ldraw.kp, b_Ldraw⟩
  have Dpick : Dn K mg "_law_pick" (He.ga K "_law_pick") fd_Lpick ["_law_pen_here", "_law_options"] := ⟨(He.glo_ok X G (cd.fact 11 (f := .glo "_law_pick") rfl)), F_Lpick.kp, b_Lpick⟩
  have Daround : Dn K mg "_law_around" (He.ga K "_law_around") fd_Laround ["_law_pen_here", "_law_most"] := ⟨(He.glo_ok X G (cd.fact 12 (f := .glo "_law_around") rfl)), F_Laround.kp, b_Laround⟩
  have Dgreat : Dn K mg "_law_great" (He.ga K "_law_great") fd_Lgreat ["_law_pen_here", "_law_most"] := ⟨(He.glo_ok X G (cd.fact 13 (f := .glo "_law_great") rfl)), F_Lgreat.kp, b_Lgreat⟩
  have Dodd : Dn K mg "_law_odd" (He.ga K "_law_odd") fd_Lodd ["_law_pen_here"] := ⟨(He.glo_ok X G (cd.fact 14 (f := .glo "_law_odd") rfl)), F_Lodd.kp, b_Lodd⟩
  have Dlint : Dn K mg "_law_is_int" (He.ga K "_law_is_int") fd_Lis_int ["_law_value"] := ⟨(He.glo_ok X G (cd.fact 16 (f := .glo "_law_is_int") rfl)), F_Lis_int.kp, b_Lis_int⟩
  have Ddue : Dn K mg "_law_due" (He.ga K "_law_due") fd_Ldue ["_law_axis", "_law_place", "_law_front"] := ⟨(He.glo_ok X G (cd.fact 17 (f := .glo "_law_due") rfl)), F_Ldue.kp, b_Ldue⟩
  have Dright : Dn K mg "_law_right" (He.ga K "_law_right") fd_Lright psRt := ⟨(He.glo_ok X G (cd.fact 18 (f := .glo "_law_right") rfl)), F_Lright.kp, b_Lright⟩
  have RT : RefT K mg (He.ga K "InvalidAxis") (He.ga K "InvalidNumber") (He.ga K "InvalidFront") (He.ga K "OutOfBounds") :=
    { mA := (He.glo_ok X G (cd.fact 0 (f := .glo "InvalidAxis") rfl)), mN := (He.glo_ok X G (cd.fact 1 (f := .glo "InvalidNumber") rfl)), mF := (He.glo_ok X G (cd.fact 2 (f := .glo "InvalidFront") rfl)), mB := (He.glo_ok X G (cd.fact 3 (f := .glo "OutOfBounds") rfl)),
      aa := He.exm_ok (cd.fact 47 (f := .exm "InvalidAxis" "InvalidAxis" true) rfl), na := He.exm_ok (cd.fact 48 (f := .exm "InvalidNumber" "InvalidAxis" false) rfl), nn := He.exm_ok (cd.fact 49 (f := .exm "InvalidNumber" "InvalidNumber" true) rfl),
      fa := He.exm_ok (cd.fact 50 (f := .exm "InvalidFront" "InvalidAxis" false) rfl), fn := He.exm_ok (cd.fact 51 (f := .exm "InvalidFront" "InvalidNumber" false) rfl), ff := He.exm_ok (cd.fact 52 (f := .exm "InvalidFront" "InvalidFront" true) rfl),
      ba := He.exm_ok (cd.fact 53 (f := .exm "OutOfBounds" "InvalidAxis" false) rfl), bn := He.exm_ok (cd.fact 54 (f := .exm "OutOfBounds" "InvalidNumber" false) rfl), bf := He.exm_ok (cd.fact 55 (f := .exm "OutOfBounds" "InvalidFront" false) rfl), bb := He.exm_ok (cd.fact 56 (f := .exm "OutOfBounds" "OutOfBounds" true) rfl),
      xA := ⟨ErA.gb, ErA.gg, ErA.exC, ErA.hd⟩, xN := ⟨ErN.gb, ErN.gg, ErN.exC, ErN.hd⟩, xF := ⟨ErF.gb, ErF.gg, ErF.exC, ErF.hd⟩, vA := nvA, vN := nvN, vF := nvF,
      eA := ⟨ErA.gb, ErA.gg, ErA.exC, ErA.hd, ErA.cl, PF.hn, PF.ht, ErA.hm⟩, eN := ⟨ErN.gb, ErN.gg, ErN.exC, ErN.hd, ErN.cl, PF.hn, PF.ht, ErN.hm⟩, eF := ⟨ErF.gb, ErF.gg, ErF.exC, ErF.hd, ErF.cl, PF.hn, PF.ht, ErF.hm⟩, eB := ⟨ErB.gb, ErB.gg, ErB.exC, ErB.hd, ErB.cl, PF.hn, PF.ht, ErB.hm⟩,
      kA := ErA.kv, kN := ErN.kv, kF := ErF.kv, kB := ErB.kv, ve := (He.free_ok X G (cd.fact 22 (f := .free "ValueError") rfl)) }
  obtain ⟨cdR, RM⟩ : ∃ cdR, RefM K mg (He.ga K "_law_refused") fd_Lrefused cdR := by
    obtain ⟨oc, od, kV, doc, pm, an, cdv, ct, osl, e, lk, hcd⟩ := F_Lrefused.ex
    exact ⟨cdv, (He.glo_ok X G (cd.fact 15 (f := .glo "_law_refused") rfl)), F_Lrefused.kp, b_Lrefused, hcd, oc, od, _, kV, doc, pm, an, ct, osl, e, lk⟩
  have e := hfa.symm.trans (He.glo_ok X G (cd.fact 19 (f := .glo "law") rfl))
  cases e
  have ml : (("law", none) : He.Defn) ∈ tfL := List.mem_cons_self
  have mr : (("_law_right", none) : He.Defn) ∈ tfL := List.mem_cons_of_mem _ List.mem_cons_self
  refine ⟨fd_law, tfL.map (He.cT K), spLaw K [((He.cT K ("law", none)).2, "law.<locals>.<lambda>"), ((He.cT K ("_law_right", none)).2, "_law_right.<locals>.<lambda>")], ?_, ?_, ?_, ?_, ?_, ?_⟩
  · intro p hp
    obtain ⟨d, hd, rfl⟩ := List.mem_map.mp hp
    exact c.empty d hd
  · intro p hp
    obtain ⟨d, hd, rfl⟩ := List.mem_map.mp hp
    exact c.out d hd
  · intro p hp
    obtain ⟨d, hd, rfl⟩ := List.mem_map.mp hp
    exact PySem.W.codeHd_of_K X (c.hd d hd)
  · exact fun s u => FD_law.bindsA (ps := ["_law_script"]) (fun _ _ _ _ _ _ us hl => match us, hl with | [_], _ => rfl) s [u] rfl
  · intro H a ns hl _ hH hS
    refine ⟨a, ns, rfl, hS, hl, fun p hp => ?_, fun _ => rfl⟩
    rcases List.mem_cons.mp hp with rfl | hp
    · exact TabS.nil (hH _ (List.mem_map.mpr ⟨_, ml, rfl⟩))
    · rcases List.mem_cons.mp hp with rfl | hp
      · exact TabS.nil (hH _ (List.mem_map.mpr ⟨_, mr, rfl⟩))
      · cases hp
  · intro base Kb Nb TBs
    have TBl := TBs _ (List.mem_map.mpr ⟨_, ml, rfl⟩)
    have TBr := TBs _ (List.mem_map.mpr ⟨_, mr, rfl⟩)
    have GiA : FnOk _ w K mg base CX0 1 _ fd_iA _ _ := ok_initA (P := PySem.Challenge.rw_solidnames_k13_planes_as_objects.prog) F_iA TV oA nvA
    have GiN : FnOk _ w K mg base CX0 1 _ fd_iN _ _ := ok_initN (P := PySem.Challenge.rw_solidnames_k13_planes_as_objects.prog) F_iN TV oN nvN
    have GiF : FnOk _ w K mg base CX0 1 _ fd_iF _ _ := ok_initF (P := PySem.Challenge.rw_solidnames_k13_planes_as_objects.prog) F_iF TV oF nvF
    have GiB : FnOk _ w K mg base CX0 1 _ fd_iB _ _ := ok_initB (P := PySem.Challenge.rw_solidnames_k13_planes_as_objects.prog) F_iB TV oB
    have EA : ErrsT PySem.Challenge.rw_solidnames_k13_planes_as_objects.prog w K mg base "InvalidAxis" (He.ga K "InvalidAxis") := ⟨⟨_, _, eA, GiA⟩⟩
    have EN : ErrsT PySem.Challenge.rw_solidnames_k13_planes_as_objects.prog w K mg base "InvalidNumber" (He.ga K "InvalidNumber") := ⟨⟨_, _, eN, GiN⟩⟩
    have EF : ErrsT PySem.Challenge.rw_solidnames_k13_planes_as_objects.prog w K mg base "InvalidFront" (He.ga K "InvalidFront") := ⟨⟨_, _, eF, GiF⟩⟩
    have Gii : FnOk PySem.Challenge.rw_solidnames_k13_planes_as_objects.prog w K mg base CX0 1 _ fd_is_integer _ _ := ok_isInt F_is_integer T.toTxtI
    have Gwi : FnOk PySem.Challenge.rw_solidnames_k13_planes_as_objects.prog w K mg base CX0 1 _ fd_is_within _ _ := ok_within F_is_within T.toTxtI
    have Gax : FnOk PySem.Challenge.rw_solidnames_k13_planes_as_objects.prog w K mg base (L2.CX _ w) 3 _ fd_axis_index _ _ := ok_axis F_axis_index EA AX PT
    have GP := ok_pinit FD_pI TP Dii Gii Dwi Gwi Dax Gax EN EF (C := He.ga K "Plane")
    have Gneg := ok_pneg F_pN TP N MT GP
    have Gadd := ok_padd F_pA TP N MT GP Dii Gii Dwi Gwi EN eB GiB
    have Geq : FnOk PySem.Challenge.rw_solidnames_k13_planes_as_objects.prog w K mg base CX0 1 _ fd_pE _ _ := ok_peq F_pE TP T.toTxtI N
    have Gdi := ok_dirs F_direction_indexes Dax Gax
    have Gpd := ok_pdirs FgD TP Ddi Gdi AX
    have Gpp := ok_ppoint F_pP TP Ddi Gdi TTu
    have MM : PlM PySem.Challenge.rw_solidnames_k13_planes_as_objects.prog w K mg base (He.ga K "Plane") (He.ga K "InvalidAxis") (He.ga K "InvalidNumber") (He.ga K "InvalidFront") (He.ga K "OutOfBounds") :=
      { T := TP, N := N, ini := ⟨_, _, MK, B0, ⟨t1, B1⟩, GP⟩, neg := ⟨_, _, dunB_ok hn, b_pN, Gneg⟩, add := ⟨_, _, dunB_ok ha, b_pA, Gadd⟩, first := PF.first, noR := PF.noR, plus := fun T hT => (hB' T hT).1,
        eq := ⟨_, _, dunB_ok hq, b_pE, Geq⟩, ne := PF.ne, notI := fun T hT => (hB' T hT).2.1, ownI := PF.ownI, kitI := fun T hT => (hB' T hT).2.2,
        gA := ⟨_, _, ⟨_, propB_ok pa⟩, bgA, getter_ok FgA scGA rfl TP.cl TP.nA⟩, gT := ⟨_, _, ⟨_, propB_ok pt⟩, bgT, getter_ok FgT scGT rfl TP.cl TP.nT⟩, gF := ⟨_, _, ⟨_, propB_ok pf⟩, bgF, getter_ok FgF scGF rfl TP.cl TP.nF⟩,
        gD := ⟨_, _, ⟨_, propB_ok pd⟩, bgD, Gpd⟩, pt := ⟨_, _, He.meth_ok (cd.fact 42 (f := .meth "Plane" "point_at") rfl), b_pP, Gpp⟩ }
    have Gd := ok_draw (P := PySem.Challenge.rw_solidnames_k13_planes_as_objects.prog) (w := w) (base := base) F_Ldraw T.toTxtD (He.glo_ok X G (cd.fact 10 (f := .glo "_law_draw") rfl)) b_Ldraw
    have Glo := draw_lo (Gd 1 (by decide))
    have Ghi := draw_hi (Gd 4 (by decide))
    have Gpick := ok_pick F_Lpick T.toTxtB Ddraw Glo
    have Garound := ok_around F_Laround T.toTxtB Ddraw Ghi
    have Ggreat := ok_great F_Lgreat T.toTxtB Ddraw Glo Daround Garound Dpick Gpick
    have Godd := ok_odd F_Lodd Dpick Gpick
    have Gpen : FnOk PySem.Challenge.rw_solidnames_k13_planes_as_objects.prog w K mg base CX0 1 _ fd_Lpen _ _ := ok_pen F_Lpen T.toTxtB
    have Glint : FnOk PySem.Challenge.rw_solidnames_k13_planes_as_objects.prog w K mg base CX0 1 _ fd_Lis_int _ _ := ok_lint F_Lis_int T.toTxtI
    have Gdue := ok_due F_Ldue T Dlint Glint
    have Gright := ok_right (TT := [((He.cT K ("law", none)).2, "law.<locals>.<lambda>"), ((He.cT K ("_law_right", none)).2, "_law_right.<locals>.<lambda>")]) (funC (p := ("_law_right", none)) F_Lright) T TBr (List.mem_cons_of_mem _ List.mem_cons_self)
      (fun p hp e => by
        rcases List.mem_cons.mp hp with rfl | hp
        · exact absurd e hne
        · rcases List.mem_cons.mp hp with rfl | hp
          · rfl
          · cases hp) MM RT RM Ddraw Glo Dpick Gpick Daround Garound Dgreat Ggreat
    exact ok_law (funC (p := ("law", none)) F_law) T (He.free_ok X G (cd.fact 34 (f := .free "range") rfl)) TBl List.mem_cons_self
      (fun p hp e => by
        rcases List.mem_cons.mp hp with rfl | hp
        · rfl
        · rcases List.mem_cons.mp hp with rfl | hp
          · exact absurd e.symm hne
          · cases hp) MM RT RM Dpen Gpen Ddraw Glo Dpick Gpick Dgreat Ggreat Dodd Godd Dlint Glint Ddue Gdue Dright Gright
end Toy
end

section
set_option Elab.async false
set_option linter.all false
set_option maxRecDepth 100000
set_option maxHeartbeats 0
namespace Toy
open PySem PySem.Spec PyProof.Rows L2 Gd LamX
abbrev RR : PySem.W.OpenRow := PySem.W.OpenLaw.row PySem.Challenge.rw_solidnames_k13_planes_as_objects
abbrev hk : PySem.W.Hook := hookY 8 faL fnL tfL exB psL
def ob (s : PySem.W.SharedT) : hk.α := (He.obsX 8 faL fnL tsL tfL exB (HandSHeadRun.getT s), psL.map fun d => fnA (He.frT (HandSHeadRun.getT s) (He.asD (HandSHeadRun.getT s) 8)) (d.at_ (He.frT (HandSHeadRun.getT s) (He.asD (HandSHeadRun.getT s) 8))))
theorem ob_eq (s : PySem.W.SharedT) : ob s = hk.obs s.abs := by
  have e : HandSHeadRun.getT s = s.abs.heap.get? := funext (HandSHeadRun.getT_eq s)
  unfold ob
  rw [e] <;> rfl
def loose : List Str := ["InvalidAxis", "InvalidNumber", "InvalidFront", "OutOfBounds", "Plane", "is_integer", "is_within", "axis_index", "direction_indexes", "_law_pen", "_law_draw", "_law_pick", "_law_around", "_law_great", "_law_odd", "_law_refused", "_law_is_int", "_law_due", "_law_right", "AXES", "PLACES", "LIMIT"]
theorem run (w : World) : HandSHeadRun.RunEq RR (PySem.W.view RR.prog [27]) hk ob 3000 loose w :=
  PySem.W.byRow2 "special-get-raises" (P := fun w => HandSHeadRun.RunEq RR (PySem.W.view RR.prog [27]) hk ob 3000 loose w)
    (fun w => by
      intro os
      kernel_rfl)
    (fun w => by
      intro os
      kernel_rfl) w
end Toy
end

section
set_option Elab.async false
set_option linter.all false
set_option maxRecDepth 100000
set_option maxHeartbeats 0
open PySem PySem.W PySem.Calls PyProof.Rows
theorem PySem.Challenge.cw_solidnames_k13_planes_as_objects_holds : PySem.Challenge.rw_solidnames_k13_planes_as_objects.Holds := by
  w_on; o_law
  refine HandSHeadRun.head_any (r := OpenLaw.row PySem.Challenge.rw_solidnames_k13_planes_as_objects) (q := view (OpenLaw.row PySem.Challenge.rw_solidnames_k13_planes_as_objects).prog [27]) (H := Toy.hk) (ob := Toy.ob) (M := 3000) (loose := Toy.loose)
    (d := HandSHeadRun.topDef (OpenLaw.row PySem.Challenge.rw_solidnames_k13_planes_as_objects).prog 27) (kwd := []) Toy.ob_eq
    (by kernel_rfl) (fun s => by kernel_rfl) Toy.run (by kernel_rfl) (by kernel_rfl) (by kernel_rfl) (by rfl) (by first | assumption | decide +kernel) (by decide +kernel) ⟨rfl, rfl, rfl, rfl, rfl, by decide +kernel⟩ ?hw ?hc
  case hw => w_witness2
  case hc =>
    refine Toy.walk_gE (l := PySem.Challenge.rw_solidnames_k13_planes_as_objects) (n := 63) (k := 10) (x := "_law_script") (CX := L2.CX0) rfl (by decide) (by kernel_rfl) ⟨rfl, by decide, by decide⟩ ?F (fun _ _ _ _ z => z)
    intro w mg fa h Y G hmg0
    obtain ⟨K, KX, c, m⟩ := Y
    have hmg : mg ("law" : PySem.Str) = some (.ref fa) := by
      have e : (HandSHeadRun.topDef (OpenLaw.row PySem.Challenge.rw_solidnames_k13_planes_as_objects).prog 27).name = ("law" : PySem.Str) := by kernel_rfl
      rw [← e]
      exact hmg0
    exact ⟨K, KX, Toy.lawG KX G hmg c m⟩
end
