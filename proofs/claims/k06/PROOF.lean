import PyProof.Rows.All
import Wide.All
import OpenK.AllK
import Wide.FinOn
import KE.KStateDown
import HandS.ForMost
import HandS.Flow
import HandS.Deep
import HandS.Defaults
import HandS.SortRule
import HandS.SortInts
import HandS.Walk
import KE.KExcSuper
import HandS.Exc
import HandS.IsInst
import HandS.ExcOwn
import KE.GoesEnum
import KE.GoesZip
import KE.GoesMore
import HandS.Zip
import KE.KTupSum
import HandS.More
import HandS.SetFor
import HandS.Conv
import PyProof.TupleOfSeq
import HandS.ExcValue
import KE.DatumOrd
import HandS.TupLe
import KE.SortData
import HandS.RevTup
import HandS.TryOnly
import HandS.TupAny
import HandS.ExcIs
import HandS.HeadHook1
import KE.KExcIs
import HandS.Style
import HandS.TupMul
import HandS.Dict
import HandS.HeadEnd
import HandS.HeadHook2
import HandS.Head0
import HandS.Head1
import HandS.Head2
import PySem.Challenge.RW_liftedties_k06_tellers_and_what_is_a_dee
set_option Elab.async false
set_option linter.all false
set_option maxRecDepth 100000
set_option maxHeartbeats 2000000
namespace Lt
open PySem PySem.Spec PyProof.Rows L2
abbrev Slots := L2.St
/-! ## nobody's repr is under way: defs whose promise may use it -/
abbrev Still (A : Around) : Prop := A.guards = some []
structure FnG (P : Program) (w : World) (K : PySem.W.Frag) (mg : Str → Option Value) (base : Heap) (CX : CXT)
    (k : Nat) (f : Addr) (fd : FuncData) (ps : List Str) (sp : Sp) : Prop where
  arity : ∀ vs H Q E, sp vs H Q E → vs.length = ps.length
  go : ∀ (A : Around) (outer : List Env) (s : Shared) (H : Hp) (args : Args) (us : List Value) (vs : List V) (Q : VK) (E : XK),
    Still A → Room k A → Env0 P w K mg base A outer s H →
    BindsTo s fd args (ps.zip us) → Vals vs us → sp vs H Q E → codeAny (model P w) A (.call (.ref f) args) (CR CX outer P w H s Q E) s
section
variable {P : Program} {w : World} {K : PySem.W.Frag} {mg : Str → Option Value} {base : Heap} {CX : CXT}
  {k j : Nat} {f : Addr} {fd : FuncData} {ps : List Str} {sp : Sp}
theorem FnG.of (F : FnOk P w K mg base CX k f fd ps sp) : FnG P w K mg base CX k f fd ps sp :=
  ⟨F.len, fun A outer s H args us vs Q E _ => F.run A outer s H args us vs Q E⟩
theorem FnG.up (F : FnG P w K mg base CX j f fd ps sp) (h : j ≤ k) : FnG P w K mg base CX k f fd ps sp :=
  ⟨F.arity, fun A outer s H args us vs Q E g r => F.go A outer s H args us vs Q E g (r.mono h)⟩
end
section
variable {X : Cx} {CX : CXT} {k : Nat} {f : Addr} {fd : FuncData} {ps : List Str} {sp : Sp} {dvs : List V} {ds : List Value}
  {E : XK} {x : Str} {p pos : Pos} {e : Expr} {es : List Expr} {t : TA}
/-- what a call that has ended leaves to its caller -/
theorem back_ok {pins : List (Addr × Obj)} {σ : Slots} {H : Hp} {s : Shared} {Q : VK} (I : Inv X pins σ H s) {fl : Flow} {s' : Shared}
    (z : CR CX X.stack X.prog X.w H s Q E (.ok fl) s') : ∃ u, fl = .ret u ∧ EP X pins σ Q u s' := by
  cases fl
  case ret u => exact ⟨u, rfl, I.after z⟩
  all_goals exact z.elim
theorem goG {pins : List (Addr × Obj)} {σ : Slots} {H : Hp} {s : Shared} {Q : VK} {us ws : List Value} {vs : List V} {kw : List (Str × Value)}
    (F : FnG X.prog X.w X.K X.mg X.base CX k f fd ps sp) (hg : Still X.A) (hr : Room k X.A) (hx : Passes CX X E) (I : Inv X pins σ H s)
    (hb : ws.length = ps.length → BindsTo s fd ⟨us, kw⟩ (ps.zip ws)) (rv : Vals vs ws) (h : sp vs H Q E) :
    wpAny (model X.prog X.w) X.A (call (.ref f) us kw) (EP X pins σ Q) X.xe s := by
  have hlen : ws.length = ps.length := rv.length.symm.trans (F.arity _ _ _ _ h)
  have run := F.go X.A X.stack s H ⟨us, kw⟩ ws vs Q E hg hr I.env0 (hb hlen) rv h
  refine wpAny_call (codeAny_mono run fun r s' z => ?_)
  rcases r with er | fl
  · exact hx pins σ H s er s' I z
  · obtain ⟨u, rfl, q⟩ := back_ok I z
    exact q
theorem pe_callG (F : FnG X.prog X.w X.K X.mg X.base CX k f fd ps sp) (hs : Still X.A) (hr : Room k X.A) (hg : Gl X x) (hm : X.mg x = some (.ref f))
    (hk : PySem.W.keepIn X.K (.ref f) = true) (hb : Binds X.K fd ps ds) (hd : Vals dvs ds) (hx : Passes CX X E) (ha : PA X (e :: es) t)
    (hdb : (x == ("__debug__" : Str)) = false := by decide) (he : starEach (e :: es) X.env = (false, eval e X.env) :: starEach es X.env := by rfl)
    (hpl : (backTo pos (starEach es X.env)).any (·.1) = false := by rfl) : PE X (.Call (.Name x p) (e :: es) [] pos) (tCall sp dvs E t) := by
  constructor
  intro pins s σ H Q I h
  apply wpAny_Call_Name_kw
  apply ld_glob I hg hm ?_ hdb
  apply PySem.W.callWith_K (h₀ := X.base) I.ok.mod.kin hk ?_ he hpl
  refine thn (ha.run pos pins s σ H _ I h) ?_
  rintro us s1 ⟨vs, H1, I1, r, q⟩
  exact ⟨I1.kIn, goG F hs hr hx I1 (fun hl => hb s1 us I1.kIn hl) (r.append hd) q⟩
/-- how a call by names alone binds: the values ws of the names ks, put in the parameters' order by g -/
structure NBinds (K : PySem.W.Frag) (fd : FuncData) (ps ks : List Str) (g : {α : Type} → List α → List α) : Prop where
  to : ∀ (s : Shared) (ws : List Value), K.In s.heap → (g ws).length = ps.length → BindsTo s fd ⟨[], ks.zip ws⟩ (ps.zip (g ws))
  rel : ∀ {zs : List V} {ws : List Value}, Vals zs ws → Vals (g zs) (g ws)
def tCallN (sp : Sp) (g : {α : Type} → List α → List α) (E : XK) (tk : TA) : TE := fun σ H Q => tk σ H fun zs H1 => sp (g zs) H1 Q E
theorem pe_callGN {kws : List Keyword} {tk : TA} {ks : List Str} {g : {α : Type} → List α → List α}
    (F : FnG X.prog X.w X.K X.mg X.base CX k f fd ps sp) (hs : Still X.A) (hr : Room k X.A) (hg : Gl X x) (hm : X.mg x = some (.ref f))
    (hk : PySem.W.keepIn X.K (.ref f) = true) (hb : NBinds X.K fd ps ks g) (hx : Passes CX X E) (hkw : PK X kws tk)
    (hall : (backToKw pos (keywordEach kws X.env)).all (·.1.isSome) = true := by rfl) (hks : (backToKw pos (keywordEach kws X.env)).filterMap (·.1) = ks := by rfl)
    (hdb : (x == ("__debug__" : Str)) = false := by decide)
    (hpl : ((backTo pos (starEach [] X.env)).any (·.1) || (backToKw pos (keywordEach kws X.env)).any (·.1.isNone)) = false := by rfl) :
    PE X (.Call (.Name x p) [] kws pos) (tCallN sp g E tk) := by
  constructor
  intro pins s σ H Q I h
  apply wpAny_Call_Name_kw
  apply ld_glob I hg hm ?_ hdb
  apply PySem.W.callWith_KW0 (h₀ := X.base) I.ok.mod.kin hk hall ?_ hpl
  refine thn (hkw.run pos pins s σ H _ I h) ?_
  rintro ws s1 ⟨zs, H1, I1, r, q⟩
  refine ⟨I1.kIn, ?_⟩
  rw [hks]
  exact goG F hs hr hx I1 (fun hl => hb.to s1 ws I1.kIn hl) (hb.rel r) q
end
/-! ## a def's body, where nobody's repr is under way -/
section
variable {P : Program} {w : World} {K : PySem.W.Frag} {mg : Str → Option Value} {base : Heap} {CX : CXT} {x qual : Str} {params : Arguments}
  {body : List Stmt} {scope : Scope} {dvs : List V} {kws : List (Str × V)} {f : Addr} {fd : FuncData} {N ps : List Str} {k : Nat} {sp : Sp}
theorem par_kind {us : List Value} {n : Nat} (S : FnScope N ps scope) : ∀ y ∈ ps.zip us, scope.names.lookup y.1 = some .local ∨
    (scope.names.lookup y.1 = some .cell ∧ ((cellsFrom n scope.names []).lookup y.1).isSome = true) := by
  rintro ⟨m, v⟩ hy
  have hm : m ∈ ps := (List.of_mem_zip hy).1
  cases S.par m hm with
  | inl q => exact .inl q
  | inr q => exact .inr ⟨q, PySem.W.cellsFrom_some _ _ _ (.inl q)⟩
theorem okG (F : FunD K x qual params body scope dvs kws f fd) (S : FnScope N ps scope) (len : ∀ vs H Q E, sp vs H Q E → vs.length = ps.length)
    (bodyOk : ∀ (cdv : Value) (A : Around) (outer : List Env) (s : Shared) (H : Hp) (vs : List V) (Q : VK) (E : XK), Still A →
      Room k (A.deeper (envOfC qual scope s.heap.objs.size f cdv)) → sp vs H Q E →
      ∃ t, PSs (cxOf CX P w K mg base N qual scope f cdv A outer s H E) body t ∧ t { nx := fun _ H' => Q .non H', rt := Q } (start N vs) H) :
    FnG P w K mg base CX (k + 1) f fd ps sp := by
  obtain ⟨oc, od, dV, kV, doc, pm, an, cdv, ct, osl, rfl, lk, hcd, _, _⟩ := F.ex
  constructor
  · exact len
  intro A outer s H args us vs Q E hg hr e0 hb rv hsp
  have kept : ∀ b o, base.get? b = some o → s.heap.get? b = some o := fun b o e => (e0.bs b o e).1
  have KX : K.In s.heap := e0.mod.kin.keeps kept
  apply codeAny_call_function hr.depth (KX _ _ lk) rfl S.co S.gen rfl (PySem.W.codeRec_of KX hcd)
  apply hb
  refine wpAny_newFunctionEnv_cells S.kind (par_kind S) ?_
  rintro env rfl s1 ic
  refine ⟨(e0.mod.nolimit.keeps kept).keeps ic.toInCall.keep, codeAny_func ?_⟩
  obtain ⟨t, ht, hq⟩ := bodyOk cdv A outer s H vs Q E hg (hr.deeper _) hsp
  have I := inv_start (CX := CX) (P := P) (w := w) (K := K) (mg := mg) (base := base) (E := E) S hr.hd e0 (len _ _ _ _ hsp) rv ic
  refine wpAny_mono (ht.run [] s1 (start N vs) H _ I hq) ?_ (fun er s' z => z)
  intro fl s' z
  cases fl
  case ret u =>
    obtain ⟨v, σ', H', J, rv', q⟩ := z
    exact ⟨v, H', J.os, J.bare, J.base, J.hok, rv', q⟩
  case next =>
    obtain ⟨σ', H', J, q⟩ := z
    exact ⟨.non, H', J.os, J.bare, J.base, J.hok, rfl, q⟩
  all_goals
    obtain ⟨_, _, _, q⟩ := z
    exact q.elim
/-- the same of a def that lets no error out -/
theorem okG0 (F : FunD K x qual params body scope dvs kws f fd) (S : FnScope N ps scope) (len : ∀ vs H Q E, sp vs H Q E → vs.length = ps.length)
    (bodyOk : ∀ (cdv : Value) (A : Around) (outer : List Env) (s : Shared) (H : Hp) (vs : List V) (Q : VK) (E : XK), Still A →
      Room k (A.deeper (envOfC qual scope s.heap.objs.size f cdv)) → sp vs H Q E →
      ∃ t, PSs (cxOf CX P w K mg base N qual scope f cdv A outer s H E).nox body t ∧ t { nx := fun _ H' => Q .non H', rt := Q } (start N vs) H) :
    FnG P w K mg base CX (k + 1) f fd ps sp :=
  okG F S len fun cdv A outer s H vs Q E g r h => let ⟨t, a, b⟩ := bodyOk cdv A outer s H vs Q E g r h; ⟨t, a.nox, b⟩
theorem nbinds {ks : List Str} {g : {α : Type} → List α → List α} (F : FunD K x qual params body scope [] kws f fd)
    (h : ∀ (kV doc pm : Value) (an : Option Addr) (cdv ct : Value) (ws : List Value), (g ws).length = ps.length →
      bindArgs (PySem.W.fnOf x qual params body scope .none kV doc pm an cdv ct) ⟨[], ks.zip ws⟩ = pure (ps.zip (g ws)))
    (hrel : ∀ {zs : List V} {ws : List Value}, Vals zs ws → Vals (g zs) (g ws)) : NBinds K fd ps ks g := by
  obtain ⟨oc, od, dV, kV, doc, pm, an, cdv, ct, osl, rfl, lk, hcd, hD, hK⟩ := F.ex
  rcases hD with ⟨_, rfl⟩ | ⟨e, _⟩
  · exact ⟨fun s ws _ hl => .of_eq (h kV doc pm an cdv ct ws hl), hrel⟩
  · exact absurd rfl e
end
/-! ## the law's own end -/
section
variable {P : Program} {w : World} {K : PySem.W.Frag} {mg mb : Str → Option Value} {k : Nat} {fa a : Addr} {fd : FuncData} {x : Str} {sp : Sp}
  {s₁ : Shared} {vs : List Value} {ns : List Int}
theorem law_callG (KX : K.In s₁.heap) (hns : s₁.heap.Ns mainGlobals mg) (hb : s₁.heap.Ns builtinsNs mb) (hbb : ∀ x : Str, x ≠ "__name__" → mb x = bootBuiltins x)
    (hlim : s₁.heap.NoLimit) (hg : s₁.gens = #[]) (ha : s₁.heap.get? a = some { cls := .type "list", data := .seq vs.toArray }) (hi : IntsAre vs ns)
    (hl : ns.length ≤ sizeLine) (hr : Room k callerA) (F : ∀ base : Heap, K.In base → base.Ns mainGlobals mg → FnG P w K mg base CX0 k fa fd [x] sp)
    (hbind : ∀ (s : Shared) (u : Value), BindsTo s fd ⟨[u], []⟩ [(x, u)])
    (hsp : ∀ H : Hp, SqL K H a (ns.map V.int) → sp [.ref a] H (fun v _ => v = .bl true) fun _ _ _ => False) :
    codeAny (model P w) callerA (.call (.ref fa) ⟨[.ref a], []⟩)
      (fun r s' => r = .ok (.ret (.bool true)) ∧ OldK s₁.heap s'.heap ∧ s'.os = s₁.os ∧ AllBare s'.gens) s₁ := by
  have rv := vals_ints hi
  -- the script is tracked, locked, unless it is one of the module's own objects
  let ob : Obj := { cls := .type "list", data := .seq vs.toArray }
  let H : Hp := fun b => if b = a ∧ K.lookup a = none then some (.frz ob (.lst (ns.map V.int))) else none
  have hH : ∀ {b u}, H b = some u → b = a ∧ K.lookup a = none ∧ u = .frz ob (.lst (ns.map V.int)) := by
    intro b u e
    by_cases c : b = a ∧ K.lookup a = none
    · have e' := (if_pos c).symm.trans e
      exact ⟨c.1, c.2, (Option.some.inj e').symm⟩
    · have e' := (if_neg c).symm.trans e
      cases e'
  have hS : SqL K H a (ns.map V.int) := by
    cases c : K.lookup a with
    | none => exact .inl (.inr ⟨ob, if_pos ⟨rfl, c⟩⟩)
    | some o =>
      have e := KX a o c
      rw [ha] at e
      cases e
      exact .inr ⟨_, vs.toArray, _, c, rfl, rfl, rfl, by rw [List.size_toArray, hi.length]; exact hl, by simpa using rv⟩
  have hok : HOk P w H s₁.heap := by
    intro b u e
    obtain ⟨rfl, _, rfl⟩ := hH e
    exact ⟨ha, by rw [List.length_map]; exact hl, vs, _, rv, ha⟩
  have off : ∀ {b : Addr} {o : Obj}, K.lookup b = some o → H b = none := by
    intro b o e
    cases c : H b with
    | none => rfl
    | some u =>
      obtain ⟨rfl, n, _⟩ := hH c
      rw [n] at e
      cases e
  have offD : ∀ {b : Addr} {o : Obj} {es : Array DictEntry} {ep : Nat}, s₁.heap.get? b = some o → o.data = .dict es ep → H b = none := by
    intro b o es ep e d
    cases c : H b with
    | none => rfl
    | some u =>
      obtain ⟨rfl, _, _⟩ := hH c
      rw [ha] at e
      cases e
      cases d
  have ns_of : ∀ {b : Addr} {m : Str → Option Value}, s₁.heap.Ns b m → (hidT s₁.heap H).Ns b m := by
    rintro b m ⟨o, es, ep, e, d, r⟩
    exact ⟨o, es, ep, hidT_get e (offD e d), d, r⟩
  have kin : K.In (hidT s₁.heap H) := fun b o e => hidT_get (KX b o e) (off e)
  have md : Mod K mg (hidT s₁.heap H) := by
    obtain ⟨mc, h1, h2⟩ := hlim
    exact ⟨kin, ns_of hns, ⟨mb, ns_of hb, hbb⟩, mc, ns_of h1, h2⟩
  have e0 : Env0 P w K mg (hidT s₁.heap H) callerA [] s₁ H := by
    refine ⟨rfl, md, fun b o e => of_hidT e, Nat.le_of_eq (hidT_size _ _), trivial, ?_, hok, .of_eq hg⟩
    intro b z
    cases z
  have run := (F _ kin (ns_of hns)).go callerA [] s₁ H ⟨[.ref a], []⟩ [.ref a] [.ref a] _ _ rfl hr e0 (hbind s₁ (.ref a)) (.cons rfl .nil) (hsp H hS)
  refine codeAny_mono run ?_
  intro r s' z
  rcases r with er | fl
  · exact z.elim
  cases fl
  case ret u =>
    obtain ⟨v, H', os, bare, un, hok', rvu, q⟩ := z
    obtain rfl : v = .bl true := q
    obtain rfl : u = Value.bool true := rvu
    refine ⟨rfl, OldK.of_keep ?_, os, bare⟩
    intro b o e
    cases c : H b with
    | none =>
      refine un.keep b o e c ?_ (by simp)
      intro z
      cases z
    | some u =>
      obtain ⟨rfl, _, rfl⟩ := hH c
      have z2 := un.frzs _ ob _ c
      obtain ⟨e2, _⟩ := hok' _ _ z2
      rw [ha] at e
      cases e
      exact e2
  all_goals exact z.elim
theorem walk_ofG {l : PySem.W.OpenLaw} {n : Nat} {q : Program} {loose : List Str} {XP : (Str → Option Value) → Heap → Prop} {YP : World → Heap → Prop} {d : DefRec}
    (hn : l.most = some n) (hn2 : n ≤ sizeLine) (hdf : d.params.defaults = []) (hr : Room k callerA)
    (F : ∀ (w : World) (mg : Str → Option Value) (fa : Addr) (h : Heap), YP w h → h.Ns mainGlobals mg → mg d.name = some (.ref fa) →
      ∃ (K : PySem.W.Frag) (fd : FuncData) (sp : Sp), K.In h ∧ (∀ (s : Shared) (u : Value), BindsTo s fd ⟨[u], []⟩ [(x, u)]) ∧
        (∀ (H : Hp) (a : Addr) (ns : List Int), ns.length ≤ n → SqL K H a (ns.map V.int) → sp [.ref a] H (fun v _ => v = .bl true) fun _ _ _ => False) ∧
        ∀ base : Heap, K.In base → base.Ns mainGlobals mg → FnG l.prog w K mg base CX0 k fa fd [x] sp) :
    PySem.W.WalkO q loose XP YP l.row.toRowW d [] (fun f vs => PySem.call f vs) := by
  apply Att.attach_call hn hdf
  intro w s₀ s₁ mg mb fa o pm cd doc a vs ns G Y ho hd hcd hmg hobj hints hlen hg
  obtain ⟨K, fd, sp, KX, hb, hsp, hF⟩ := F w mg fa _ Y G.T.g hmg
  exact law_callG KX G.T.g G.T.b G.T.builtins G.T.nolimit hg hobj hints (Nat.le_trans hlen hn2) hr hF hb (fun H hS => hsp H a ns hlen hS)
end
end Lt

set_option Elab.async false
set_option linter.all false
set_option maxRecDepth 100000
set_option maxHeartbeats 4000000
namespace Lt
/-! ## an own error: def __init__(self, f): super().__init__("..") ; self.f = f -/
section
open PySem PySem.W PySem.Calls PyProof.Rows PySem.HandSPX
structure EPos where
  a : Pos
  b : Pos
  c : Pos
  d : Pos
  e : Pos
  f : Pos
  g : Pos
  h : Pos
  i : Pos
  j : Pos
  k : Pos
  l : Pos
def eA (f : Str) (p : EPos) : Arguments := { posonlyargs := [], args := [{ arg := "self", annotation := none, pos := p.a }, { arg := f, annotation := none, pos := p.b }], vararg := none, kwonlyargs := [], kw_defaults := [], kwarg := none, defaults := [] }
def eB (f msg : Str) (p : EPos) : List Stmt :=
  [.Expr (.Call (.Attribute (.Call (.Name "super" p.c) [] [] p.d) "__init__" p.e) [.Constant (.str msg) 0 p.f] [] p.g) p.h, .Assign [.Attribute (.Name "self" p.i) f p.j] (.Name f p.k) p.l]
def eS (f : Str) : Scope := { kind := .function, names := [(PySem.Str.ofString "self", .local), (f, .local), (PySem.Str.ofString "__class__", .free), (PySem.Str.ofString "super", .globalImplicit)], isGenerator := false, isCoroutine := false, more := [] }
/-- the field's name is none of the others -/
structure FOk (f : Str) : Prop where
  s : (("self" : Str) == f) = false
  s' : (f == ("self" : Str)) = false
  c : (("__class__" : Str) == f) = false
  u : (("super" : Str) == f) = false
  d : (f == ("__debug__" : Str)) = false
  b : ∀ (q : Str) (p : EPos) (B : List Stmt) (doc pm : Value) (an : Option Addr) (cd ct : Value) (cc : Addr) (a v : Value), bindArgs (ksFn "__init__" q (eA f p) B (eS f) .none .none doc pm an cd ct cc) ⟨[a, v], []⟩ = pure [(("self" : Str), a), (f, v)]
/-- what the written part says of the class x at C, and of its __init__, at fI -/
structure ErrTxt (P : Program) (K : Frag) (mg : Str → Option Value) (x f msg : Str) (C fI : Addr) : Prop where
  gC : mg x = some (.ref C)
  gS : mg "super" = none
  fok : FOk f
  cls : ∃ nm q N bs bm sn sub ab col dd k0 k1 k2 k3 k5, K.lookup C = some (excClassObj nm q C N bs bm true sn sub ab col dd k0 k1 k2 k3 k5 "ValueError.__new__") ∧ refsVE bm = true
  sa : findIn K (.ref C) "__setattr__" = some (some (.builtin "object.__setattr__"))
  ga : findIn K (.ref C) "__getattribute__" = some (some (.builtin "BaseException.__getattribute__"))
  gg : findIn K (.ref C) "__getattr__" = some none
  noN : findIn K (.ref C) f = some none
  iC : findIn K (.ref C) "__init__" = some (some (.ref fI))
  tC : typeIn K (.ref fI) = some (.type "function")
  kC : keepIn K (.ref C) = true
  exC : subIn K (.ref C) (.type "BaseException") = some true
  tyC : typeIn K (.ref C) = some (.type "type")
  hdC : hasDictIn K C = true
  te : exmOne K (.ref C) (.ref C) = some true
  op : nsIn K cStatics "thirdparty.any" = some none
  sup : ks_superIn K C C "__init__" = some (some (.builtin "ValueError.__init__"))
  sVE : subIn K (.ref C) (.type "ValueError") = some true
  self : mroIn K C (.ref C) = some true
  top : (P.main.scope.names.lookup ("super" : Str)).isSome = false
  fn : ∃ (oc : Value) (od : Option Addr) (q : Str) (p : EPos) (doc pm : Value) (an : Option Addr) (cda cc : Addr) (ct : Value) (osl : Array (Option Value)) (ccl : Value) (cdd : Option Addr) (vs : Array Value) (ccs : Array (Option Value)) (file : Str) (tf : Tok) (cl : Value) (cld : Option Addr) (csl : Array (Option Value)),
    K.lookup fI = some ⟨oc, od, .func (ksFn "__init__" q (eA f p) (eB f msg p) (eS f) .none .none doc pm an (.ref cda) ct cc), osl⟩ ∧ codeIn K (.ref cda) q = true ∧
    K.lookup cda = some ⟨ccl, cdd, .fields vs, ccs⟩ ∧ vs[2]? = some (.str file tf) ∧ ((P.main.file : Str) == file) = true ∧ K.lookup cc = some ⟨cl, cld, .cell (some (.ref C)), csl⟩ ∧ (p.e.endLine == p.g.line) = true
/-- what __init__ leaves of a fresh exception at x -/
structure InitEnd (h h' : Heap) (x C dx t1 : Addr) (f : Str) (v : Value) : Prop where
  keep : ∀ b o, b ≠ x → h.get? b = some o → h'.get? b = some o
  obj : h'.get? x = some { cls := .ref C, dict := some dx, data := .fields #[.ref t1, .none, .none, .none, .bool false, .none] }
  dbig : h.objs.size ≤ dx
  dne : dx ≠ x
  ns : h'.Ns1 dx (fun y => if y = f then some v else none)
theorem one_size (v : Value) : [v].length ≤ sizeLine := by
  rw [sizeLine_eq]
  exact (by decide : 1 ≤ 16777216)
theorem ev_call {o a : Expr} {name : Str} {apos pos : Pos} {env : Env} (hp : (apos.endLine == pos.line) = true) (hs : starEach [a] env = [(false, eval a env)]) : eval (.Call (.Attribute o name apos) [a] [] pos) env = (do
      let ov ← attributeBase o name env (eval o env)
      standAt apos.atName
      let (f, first) ← holding [ov] (getMethod ov name (do return (← importBound o env).getD true))
      callWith pos f first (backTo pos (starEach [a] env)) []) := by
  show (do
    let ov ← attributeBase o name env (eval o env)
    standAt apos.atName
    methodCall o name apos pos env ov 1 (backTo pos (starEach [a] env)) []) = _
  have hfew : methodCallForm 1 (backTo pos (starEach [a] env)) [] = true := by
    rw [hs]
    rfl
  unfold methodCall methodCallPos calleeOf
  simp only [hfew, hp, Bool.or_true, if_true, Bool.not_true, pure_bind]
variable {P : Program} {w : World} {A : Around} {E : Value → Shared → Prop} {R : Result → Shared → Prop} {s : Shared} {K : Frag} {mg mb : Str → Option Value} {x f msg : Str} {C fI : Addr}
theorem err_init (T : ErrTxt P K mg x f msg C fI) {e t0 : Addr} {v : Value} (X : K.In s.heap) (hg : s.heap.Ns mainGlobals mg) (hb : s.heap.Ns builtinsNs mb) (hbb : ∀ y : Str, y ≠ "__name__" → mb y = bootBuiltins y) (hlim : s.heap.NoLimit)
    (hx : s.heap.get? e = some (excO C t0)) (hnx : K.lookup e = none) (hroom : A.depth < recursionLimit)
    (hq : ∀ h' tk dx t1, InitEnd s.heap h' e C dx t1 f v → R (.ok (.ret .none)) { s with heap := h', toks := tk }) :
    codeAny (model P w) A (.call (.ref fI) ⟨[.ref e, v], []⟩) R s := by
  obtain ⟨oc, od, q, p, doc, pm, an, cda, cc, ct, osl, ccl, cdd, vs, ccs, file, tf, cl, cld, csl, ho, hcd, hcode, hvs, hfile, hcell, hline⟩ := T.fn
  obtain ⟨nm, qq, N, bs, bm, sn, sub, ab, col, dd, k0, k1, k2, k3, k5, hC, hbm⟩ := T.cls
  have Ff := T.fok
  have hclK : clsIn K C = some { name := nm, bases := bs, mro := .ref C :: bm, ns := N, qualname := qq, hasDict := true, slotNames := sn, subclasses := sub, abstract := ab, collection := col, hasDel := false } := by unfold clsIn; rw [hC] <;> rfl
  have kf : (eS f).names.lookup f = some .local := by
    show List.lookup f ((PySem.Str.ofString "self", NameKind.local) :: (f, .local) :: _) = _
    simp [List.lookup, Ff.s']
  have kc : (eS f).names.lookup ("__class__" : Str) = some .free := by
    show List.lookup ("__class__" : Str) [(PySem.Str.ofString "self", NameKind.local), (f, .local), (PySem.Str.ofString "__class__", .free), (PySem.Str.ofString "super", .globalImplicit)] = _
    have h0 : (("__class__" : Str) == PySem.Str.ofString "self") = false := by decide
    have h1 := Ff.c
    simp [List.lookup, h0, h1]
  have ku : (eS f).names.lookup ("super" : Str) = some .globalImplicit := by
    show List.lookup ("super" : Str) [(PySem.Str.ofString "self", NameKind.local), (f, .local), (PySem.Str.ofString "__class__", .free), (PySem.Str.ofString "super", .globalImplicit)] = _
    have h0 : (("super" : Str) == PySem.Str.ofString "self") = false := by decide
    have h2 : (("super" : Str) == PySem.Str.ofString "__class__") = false := by decide
    have h1 := Ff.u
    simp [List.lookup, h0, h1, h2]
  refine ks_codeAny_call_defAt (fd := ksFn "__init__" q (eA f p) (eB f msg p) (eS f) .none .none doc pm an (.ref cda) ct cc) (body := eB f msg p) (binds := [("self", .ref e), (f, v)]) hroom (X _ _ ho) rfl hlim (codeRec_of X hcd) rfl (BindsTo.of_eq (Ff.b _ _ _ _ _ _ _ _ _ _ _)) ?_ ?_ (fun h₁ hns k => ?_) rfl rfl rfl
  · intro y hy
    simp only [eS, List.mem_cons, List.not_mem_nil, or_false] at hy
    rcases hy with rfl | rfl | rfl | rfl <;> (intro z; cases z)
  · intro y hy
    simp only [List.mem_cons, List.not_mem_nil, or_false] at hy
    rcases hy with rfl | rfl
    · rfl
    · exact kf
  have X₁ : K.In h₁ := X.keeps k
  have hx₁ := k _ _ hx
  have hg₁ : h₁.Ns mainGlobals mg := hg.keeps k
  have hb₁ : h₁.Ns builtinsNs mb := hb.keeps k
  have hself : ∀ y : Str, y = "self" → ([("self", Value.ref e), (f, v)] : List (Str × Value)).reverse.lookup y = some (.ref e) := by
    intro y hy
    subst hy
    simp [List.lookup, Ff.s]
  have hf : ([("self", Value.ref e), (f, v)] : List (Str × Value)).reverse.lookup f = some v := by
    simp [List.lookup]
  have hD : h₁.get? C = _ := X₁ _ _ hC
  have hnc : ∀ c, (excO C t0).data ≠ .cls c := fun c z => by cases z
  have hxC : e ≠ C := fun z => by
    rw [z, hD] at hx₁
    cases hx₁
  have hBI : Looks (model P w) h₁ (isInstance (.ref e) (.type "ValueError")) true :=
    (show Looks (model P w) h₁ (typeOf (.ref e)) (.ref C) from fun A Q E s k' q' => wpAny_typeOf_ref (k' _ _ hx₁) q').andThen (looks_subIn X₁ T.sVE)
  refine ks_wpAt_execs_cons (ks_wpAt_Expr_any (ks_wpAt_MethodCall (he := ev_call hline rfl) ?_))
  refine ks_wpAt_super_base (f := fI) (cc := cda) (ar := { arg := "self", annotation := none, pos := p.a }) (fd := ksFn "__init__" q (eA f p) (eB f msg p) (eS f) .none .none doc pm an (.ref cda) ct cc) ku kc (by decide) rfl (X₁ _ _ ho) rfl rfl rfl (X₁ _ _ hcode) rfl hvs hfile T.top ?_
  refine ks_loadName_global rfl ku (loadGlobal_builtin hg₁ T.gS hb₁ ((hbb _ (by decide)).trans (by first | rfl | kernel_rfl)) ⟨rfl, ?_⟩)
  refine wpAny_loadName_free rfl kc rfl ⟨_, X₁ _ _ hcell, rfl⟩ ?_
  refine wpAny_loadName_local rfl rfl hns (hself _ rfl) ?_
  refine ks_wpAny_isType_cls hD rfl ⟨rfl, ?_⟩
  refine ks_wpAny_call_super hD rfl hx₁ rfl hnc (looks_mroIn X₁ T.self) (fun h₂ hso k₂ => ?_)
  have X₂ : K.In h₂ := X₁.keeps k₂
  have hx₂ := k₂ _ _ hx₁
  refine kxs_getMethod kxs_ValueError hso (looks_opaque X₂ T.op) (l₀ := .ref C :: bm) ?_ rfl X₂ ?_ (hBI.keeps k₂) hxC (by decide) ?_
  · exact fun A Q E s k q => wpAny_bind ((looks_clsIn X₂ hclK) A _ E s k (wpAny_pure q))
  · have z := T.sup
    unfold ks_superIn at z
    rw [hclK] at z
    exact z
  have k₃ : ∀ b o, h₂.get? b = some o → (h₂.push (kxs_mw "ValueError.__init__" e)).get? b = some o := fun b o z => Heap.get?_push_of_some _ z
  have hu : (h₂.push (kxs_mw "ValueError.__init__" e)).get? h₂.objs.size = some (kxs_mw "ValueError.__init__" e) := Heap.get?_push_at rfl rfl
  have hC₃ := k₃ _ _ (k₂ _ _ (X₁ _ _ hC))
  have hx₃ := k₃ _ _ hx₂
  refine kxs_callWith (i := "ValueError.__init__") (x := e) rfl ?_
  refine evalArgs_plain (spliced_cons (Constant_str (k := 0) (pos := p.f) (spliced_nil ⟨hu, ?_⟩)))
  show wpAny _ _ (call (.ref h₂.objs.size) [_]) _ _ _
  refine wpAny_call (codeAny_of_tree ?_)
  show wpAny _ _ (callAny (.ref h₂.objs.size) ⟨[_], []⟩) _ _ _
  simp only [callAny]
  refine wpAny_bind (wpAny_load hu ?_)
  simp only [kxs_mw, show (Value.type "method-wrapper" == Value.type "method" || Value.type "method-wrapper" == Value.type "builtin_function_or_method" || Value.type "method-wrapper" == Value.type "method-wrapper") = true by decide, if_true]
  refine KFB.if_so (by decide) ?_
  refine wpAny_bind (check_bound_init F.excBase_ValueError.toExcCallFacts hC₃ hx₃ rfl ?_)
  refine wpAny_bind (wpAny_pure (wpAny_pure ?_))
  refine ⟨plainId_quiet F.excBase_ValueError.init.plain _, codeAny_builtin F.excBase_ValueError.initEntry ?_⟩
  refine exc_init_tree (cls := .ref C) (t0 := t0) (dv := none) (c2 := .none) (c3 := .none) (b4 := .bool false) hx₃ (one_size _) (fun h₄ k₄ hx₄ _ => ?_)
  have keep : ∀ b o, b ≠ e → s.heap.get? b = some o → h₄.get? b = some o := fun b o nb z => k₄ b o nb (k₃ b o (k₂ b o (k b o z)))
  have X₄ : K.In h₄ := fun b o z => keep b o (fun y => by rw [y, hnx] at z; cases z) (X b o z)
  obtain ⟨oL, es, ep, hL, rL⟩ := hns
  have hLe : s.heap.objs.size ≠ e := Nat.ne_of_gt (Heap.lt_size hx)
  have hn₄ : h₄.Ns s.heap.objs.size (fun y => ([("self", Value.ref e), (f, v)] : List (Str × Value)).reverse.lookup y) := ⟨oL, es, ep, k₄ _ _ hLe (k₃ _ _ (k₂ _ _ hL)), rL⟩
  have size4 : s.heap.objs.size ≤ h₄.objs.size := Nat.le_of_lt (Heap.lt_size (k₄ _ _ hLe (k₃ _ _ (k₂ _ _ hL))))
  show PySem.wpAt _ _ _ (execs [.Assign [.Attribute (.Name "self" p.i) f p.j] (.Name f p.k) p.l] _) _ _ _
  refine wpAt_of_wpAny (wpAny_execs_cons (plainObj_wpAny_Assign_Attribute (hs := by rfl) ?_))
  refine wpAny_Name (wpAny_loadName_local rfl kf hn₄ hf ?_) Ff.d
  refine wpAny_Name (wpAny_loadName_local rfl rfl hn₄ (hself _ rfl) ?_) (by decide)
  refine set_plain X₄ (ox := excO C (h₂.push (kxs_mw "ValueError.__init__" e)).objs.size) (od := none) ⟨hx₄, rfl, rfl, trivial⟩ T.sa ?_
  refine exc_osa X₄ hx₄ hclK (show refsVE (.ref C :: bm) = true from hbm) rfl T.noN (fun h₅ tk₅ dx k₅ dn dne hx₅ hn₅ => ?_)
  show wpAny _ _ (execs _ _) _ _ _
  exact wpAny_execs_nil (hq h₅ tk₅ dx _ ⟨fun b o nb z => k₅ b o nb (keep b o nb z), hx₅, Nat.le_trans size4 dn, dne, hn₅⟩)
end
end Lt

set_option Elab.async false
set_option linter.all false
set_option maxRecDepth 100000
set_option maxHeartbeats 2000000
namespace Lt
open PySem PySem.Spec PyProof.Rows L2
/-! ## data made of tuples alone -/
mutual
inductive Tp (H : Hp) : V → PyData → Prop
  | non : Tp H .non .none
  | bl (b : Bool) : Tp H (.bl b) (.bool b)
  | int (i : Int) : Tp H (.int i) (.int i)
  | str (x : Str) : Tp H (.str x) (.str x)
  | tup {a : Addr} {xs : List V} {ds : List PyData} : H a = some (.tup xs) → Tps H xs ds → Tp H (.ref a) (.tuple ds)
inductive Tps (H : Hp) : List V → List PyData → Prop
  | nil : Tps H [] []
  | cons {v : V} {vs : List V} {d : PyData} {ds : List PyData} : Tp H v d → Tps H vs ds → Tps H (v :: vs) (d :: ds)
end
section
variable {K : PySem.W.Frag} {H H' H'' : Hp}
mutual
theorem Tp.dp : ∀ {d : PyData} {v : V}, Tp H v d → Dp K H v d
  | _, _, .non => .non
  | _, _, .bl b => .bl b
  | _, _, .int i => .int i
  | _, _, .str x => .str x
  | _, _, .tup h t => .tup (SqT.of h) (Tps.dp t)
theorem Tps.dp : ∀ {ds : List PyData} {vs : List V}, Tps H vs ds → DpAll K H vs ds
  | _, _, .nil => .nil
  | _, _, .cons a b => .cons (Tp.dp a) (Tps.dp b)
end
mutual
theorem Tp.mv (e : ∀ b xs, H b = some (.tup xs) → H' b = some (.tup xs)) : ∀ {d : PyData} {v : V}, Tp H v d → Tp H' v d
  | _, _, .non => .non
  | _, _, .bl b => .bl b
  | _, _, .int i => .int i
  | _, _, .str x => .str x
  | _, _, .tup h t => .tup (e _ _ h) (Tps.mv e t)
theorem Tps.mv (e : ∀ b xs, H b = some (.tup xs) → H' b = some (.tup xs)) : ∀ {ds : List PyData} {vs : List V}, Tps H vs ds → Tps H' vs ds
  | _, _, .nil => .nil
  | _, _, .cons a b => .cons (Tp.mv e a) (Tps.mv e b)
end
theorem Tps.length : ∀ {vs : List V} {ds : List PyData}, Tps H vs ds → vs.length = ds.length
  | _, _, .nil => rfl
  | _, _, .cons _ t => congrArg (· + 1) (Tps.length t)
theorem Tps.at : ∀ {vs : List V} {ds : List PyData} {i : Nat} {v : V}, Tps H vs ds → vs[i]? = some v → ∃ d, ds[i]? = some d ∧ Tp H v d
  | _, _, 0, _, .cons a _, e => by
    cases e
    exact ⟨_, rfl, a⟩
  | _, _, i + 1, _, .cons _ t, e => Tps.at (i := i) t e
theorem Tps.atD : ∀ {vs : List V} {ds : List PyData} {i : Nat} {d : PyData}, Tps H vs ds → ds[i]? = some d → ∃ v, vs[i]? = some v ∧ Tp H v d
  | _, _, 0, _, .cons a _, e => by
    cases e
    exact ⟨_, rfl, a⟩
  | _, _, i + 1, _, .cons _ t, e => Tps.atD (i := i) t e
theorem Tps.app : ∀ {vs ws : List V} {ds es : List PyData}, Tps H vs ds → Tps H ws es → Tps H (vs ++ ws) (ds ++ es)
  | _, _, _, _, .nil, r => r
  | _, _, _, _, .cons a t, r => .cons a (Tps.app t r)
theorem Tps.one {v : V} {d : PyData} (h : Tp H v d) : Tps H [v] [d] := .cons h .nil
theorem Tps.take : ∀ {vs : List V} {ds : List PyData} (n : Nat), Tps H vs ds → Tps H (vs.take n) (ds.take n)
  | _, _, 0, _ => .nil
  | _, _, _ + 1, .nil => .nil
  | _, _, n + 1, .cons a t => .cons a (Tps.take n t)
theorem Tps.drop : ∀ {vs : List V} {ds : List PyData} (n : Nat), Tps H vs ds → Tps H (vs.drop n) (ds.drop n)
  | _, _, 0, h => h
  | _, _, _ + 1, .nil => .nil
  | _, _, n + 1, .cons _ t => Tps.drop n t
theorem Tps.erase : ∀ {vs : List V} {ds : List PyData} (n : Nat), Tps H vs ds → Tps H (vs.eraseIdx n) (ds.eraseIdx n)
  | _, _, _, .nil => .nil
  | _, _, 0, .cons _ t => t
  | _, _, n + 1, .cons a t => .cons a (Tps.erase n t)
theorem Tps.ints : ∀ ns : List Int, Tps H (ns.map V.int) (ns.map PyData.int)
  | [] => .nil
  | n :: ns => .cons (.int n) (Tps.ints ns)
theorem Tps.ints_inv : ∀ {vs : List V} {ns : List Int}, Tps H vs (ns.map PyData.int) → vs = ns.map V.int
  | _, [], .nil => rfl
  | _, n :: ns, .cons (.int _) t => by rw [List.map_cons, Tps.ints_inv t]
theorem Tp.tup_inv {v : V} {ds : List PyData} (h : Tp H v (.tuple ds)) : ∃ a xs, v = .ref a ∧ H a = some (.tup xs) ∧ Tps H xs ds := by
  cases h with
  | tup h t => exact ⟨_, _, rfl, h, t⟩
theorem Tp.int_inv {v : V} {i : Int} (h : Tp H v (.int i)) : v = .int i := by
  cases h
  rfl
theorem Tps.two_inv {vs : List V} {d e : PyData} (h : Tps H vs [d, e]) : ∃ v w, vs = [v, w] ∧ Tp H v d ∧ Tp H w e := by
  cases h with
  | cons a t => cases t with
    | cons b t => cases t with
      | nil => exact ⟨_, _, rfl, a, b⟩
end
/-! ## pairs and webs -/
abbrev Pr := Nat × Nat
def dP (p : Pr) : PyData := .tuple [.int p.1, .int p.2]
abbrev dPs (ps : List Pr) : List PyData := ps.map dP
abbrev dT (ps : List Pr) : PyData := .tuple (dPs ps)
abbrev dW (n : Nat) (ps : List Pr) : PyData := .tuple [.int n, dT ps]
section
variable {H : Hp}
theorem Tp.pr_inv {v : V} {p : Pr} (h : Tp H v (dP p)) : ∃ a, v = .ref a ∧ H a = some (.tup [.int p.1, .int p.2]) := by
  obtain ⟨a, xs, rfl, e, t⟩ := h.tup_inv
  obtain ⟨x, y, rfl, hx, hy⟩ := t.two_inv
  cases hx
  cases hy
  exact ⟨a, rfl, e⟩
theorem Tp.pr {a : Addr} {p : Pr} (h : H a = some (.tup [.int p.1, .int p.2])) : Tp H (.ref a) (dP p) := .tup h (.cons (.int _) (.cons (.int _) .nil))
theorem Tp.web_inv {v : V} {n : Nat} {ps : List Pr} (h : Tp H v (dW n ps)) : ∃ a t xs, v = .ref a ∧ H a = some (.tup [.int n, .ref t]) ∧ H t = some (.tup xs) ∧ Tps H xs (dPs ps) := by
  obtain ⟨a, xs, rfl, e, t⟩ := h.tup_inv
  obtain ⟨x, y, rfl, hx, hy⟩ := t.two_inv
  cases hx
  obtain ⟨b, ys, rfl, e2, t2⟩ := hy.tup_inv
  exact ⟨a, b, ys, rfl, e, e2, t2⟩
theorem Tp.web {a t : Addr} {n : Nat} {xs : List V} {ps : List Pr} (h : H a = some (.tup [.int n, .ref t])) (h2 : H t = some (.tup xs)) (h3 : Tps H xs (dPs ps)) : Tp H (.ref a) (dW n ps) :=
  .tup h (.cons (.int _) (.cons (.tup h2 h3) .nil))
theorem Tps.len {vs : List V} {ps : List Pr} (h : Tps H vs (dPs ps)) : vs.length = ps.length := by
  rw [h.length, List.length_map]
theorem Tps.pr_at {vs : List V} {ps : List Pr} {i : Nat} {v : V} (h : Tps H vs (dPs ps)) (e : vs[i]? = some v) : ∃ p, ps[i]? = some p ∧ Tp H v (dP p) := by
  obtain ⟨d, e1, hd⟩ := h.at e
  rw [List.getElem?_map] at e1
  obtain ⟨p, e2, rfl⟩ := Option.map_eq_some_iff.mp e1
  exact ⟨p, e2, hd⟩
end
/-! ## what stays: all that stood, but for the cells S -/
structure Fr (S : List Addr) (H H' : Hp) : Prop where
  keep : ∀ b o, H b = some o → b ∉ S → H' b = some o
  tups : ∀ b xs, H b = some (.tup xs) → H' b = some (.tup xs)
  live : ∀ b, H b ≠ none → H' b ≠ none
section
variable {S : List Addr} {H H0 H1 H2 : Hp} {p a : Addr} {o : HO}
theorem Fr.refl : Fr S H H := ⟨fun _ _ e _ => e, fun _ _ e => e, fun _ e => e⟩
theorem Fr.trans (a : Fr S H0 H1) (b : Fr S H1 H2) : Fr S H0 H2 :=
  ⟨fun c o e n => b.keep c o (a.keep c o e n) n, fun c xs e => b.tups c xs (a.tups c xs e), fun c e => b.live c (a.live c e)⟩
theorem Fr.more {T : List Addr} (h : ∀ x ∈ S, x ∈ T) (a : Fr S H0 H1) : Fr T H0 H1 := ⟨fun b o e n => a.keep b o e fun m => n (h b m), a.tups, a.live⟩
theorem Fr.of0 (a : Fr [] H0 H1) : Fr S H0 H1 := a.more fun x m => absurd m List.not_mem_nil
theorem Fr.set (h : Fr S H0 H) (hp : H0 p = none ∨ p ∈ S) (ht : ∀ xs, H p ≠ some (.tup xs)) : Fr S H0 (upd H p o) where
  keep b u e n := by
    have ne : b ≠ p := by
      intro z
      subst z
      rcases hp with hp | hp
      · rw [hp] at e
        cases e
      · exact n hp
    rw [upd_ne ne]
    exact h.keep b u e n
  tups b xs e := by
    have e2 := h.tups b xs e
    have ne : b ≠ p := by
      intro z
      subst z
      exact ht xs e2
    rw [upd_ne ne]
    exact e2
  live b e := by
    by_cases c : b = p
    · subst c
      rw [upd_same]
      simp
    · rw [upd_ne c]
      exact h.live b e
theorem Fr.new (h : H p = none) : Fr S H (upd H p o) := Fr.refl.set (.inl h) (fun xs e => by rw [h] at e; cases e)
theorem Fr.add (a : Fr S H0 H) (h : H p = none) : Fr S H0 (upd H p o) := a.trans (Fr.new h)
theorem Fr.free (a : Fr S H H1) (h : H1 p = none) : H p = none := by
  cases c : H p with
  | none => rfl
  | some o => exact absurd h (a.live p (by rw [c]; simp))
theorem Fr.same (a : Fr [] H H1) : Same H H1 := fun b o e => a.keep b o e List.not_mem_nil
theorem Tp.fr {v : V} {d : PyData} (h : Tp H v d) (a : Fr S H H1) : Tp H1 v d := h.mv a.tups
theorem Tps.fr {vs : List V} {ds : List PyData} (h : Tps H vs ds) (a : Fr S H H1) : Tps H1 vs ds := h.mv a.tups
theorem Fr.seqL {K : PySem.W.Frag} {xs : List V} (f : Fr S H H1) (n : a ∉ S) (h : SqL K H a xs) : SqL K H1 a xs := by
  rcases h with (h | ⟨o, h⟩) | h
  · exact .inl (.inl (f.keep _ _ h n))
  · exact .inl (.inr ⟨o, f.keep _ _ h n⟩)
  · exact .inr h
theorem ne_new {b : Addr} {u : HO} (h : H b = some u) (n : H p = none) : b ≠ p := ne_of_none h n
theorem at_add {b : Addr} {u : HO} (h : H b = some u) (n : H p = none) : upd H p o b = some u := by
  rw [upd_ne (ne_of_none h n)]
  exact h
end
/-! ## sizes -/
theorem szl {n : Nat} (h : n ≤ 100000) : n ≤ sizeLine := by rw [sizeLine_eq]; omega
theorem szlt {n : Nat} (h : n < 100000) : n < sizeLine := by rw [sizeLine_eq]; omega
/-! ## comprehensions whose items are data -/
section
variable {K : PySem.W.Frag} {S : List Addr} {J : Hp → Prop} {M : Nat → List PyData → Prop} {g : TG} {tt : TT} {te : TE} {vs : List Nat} {σ : Slots} {H1 : Hp} {D a : Addr} {Qd : Hp → Prop} {xs : List V}
/-- the state of a comprehension ahead of turn i: ds is what is made so far -/
def LcAt (S : List Addr) (J : Hp → Prop) (M : Nat → List PyData → Prop) (H1 : Hp) (D : Addr) (i : Nat) (H : Hp) : Prop :=
  ∃ ys ds, M i ds ∧ ds.length ≤ i ∧ J H ∧ Fr S H1 H ∧ H D = some (.lst ys) ∧ Tps H ys ds
/-- one turn -/
def LcTurn (S : List Addr) (J : Hp → Prop) (M : Nat → List PyData → Prop) (g : TG) (tt : TT) (te : TE) (vs : List Nat) (σ : Slots) (i : Nat) (ds : List PyData) (x : V) (H : Hp) : Prop :=
  g x (wipe σ vs) H fun σ2 H2 => wipe σ2 vs = wipe σ vs ∧ tt σ2 H2 fun b H3 =>
    if b = true then te σ2 H3 fun y H4 => Fr S H H4 ∧ J H4 ∧ ∃ d, Tp H4 y d ∧ M (i + 1) (ds ++ [d])
    else Fr S H H3 ∧ J H3 ∧ M (i + 1) ds
end
/-- a reading hangs on what it hands on -/
def MonoG (g : TG) : Prop := ∀ (x : V) (σ : Slots) (H : Hp) (Q Q' : Slots → Hp → Prop), (∀ σ H, Q σ H → Q' σ H) → g x σ H Q → g x σ H Q'
def MonoT (t : TT) : Prop := ∀ (σ : Slots) (H : Hp) (Q Q' : Bool → Hp → Prop), (∀ b H, Q b H → Q' b H) → t σ H Q → t σ H Q'
def MonoE (t : TE) : Prop := ∀ (σ : Slots) (H : Hp) (Q Q' : VK), (∀ v H, Q v H → Q' v H) → t σ H Q → t σ H Q'
end Lt

set_option Elab.async false
set_option linter.all false
set_option maxRecDepth 100000
set_option maxHeartbeats 2000000
namespace Lt
open PySem PySem.Spec PyProof.Rows L2
/-! ## data of small size -/
structure Sm (n w : Nat) (d : PyData) : Prop where
  lay : d.canLay0 = true
  dep : d.depth ≤ n
  wt : d.weight ≤ w
  sh : d.showable = true
  ls : d.intsShort 13 = true
theorem Sm.mono {n w n' w' : Nat} {d : PyData} (h : Sm n w d) (hn : n ≤ n') (hw : w ≤ w') : Sm n' w' d := ⟨h.lay, Nat.le_trans h.dep hn, Nat.le_trans h.wt hw, h.sh, h.ls⟩
theorem log_lt {i k : Nat} (hi : i < 2 ^ k) (hk : 0 < k) : i.log2 < k := by
  by_cases h : i = 0
  · subst h
    simpa using hk
  · exact (Nat.log2_lt h).mpr hi
theorem Sm.int {i : Int} (h : i.natAbs < 10 ^ 12) : Sm 0 64 (.int i) := by
  have hl : i.natAbs.log2 < 64 := log_lt (Nat.lt_trans h (by decide)) (by decide)
  refine ⟨rfl, Nat.le_refl _, ?_, ?_, ?_⟩
  · unfold PyData.weight
    split <;> omega
  · unfold PyData.showable
    exact decide_eq_true (by omega)
  · unfold PyData.intsShort
    exact decide_eq_true (PyData.shown_int_le h)
theorem Sm.nat {i : Nat} (h : i < 10 ^ 12) : Sm 0 64 (.int i) := Sm.int (by simpa using h)
theorem Sm.bl (b : Bool) : Sm 0 0 (.bool b) := ⟨rfl, Nat.le_refl _, Nat.le_refl _, rfl, rfl⟩
theorem Sm.non : Sm 0 0 .none := ⟨rfl, Nat.le_refl _, Nat.le_refl _, rfl, rfl⟩
theorem sm_all {n w : Nat} : ∀ {ds : List PyData}, (∀ d ∈ ds, Sm n w d) → PyData.canLayAll0 ds = true ∧ PyData.depthAll ds ≤ n ∧ PyData.weightAll ds ≤ ds.length * (w + 1) ∧ PyData.showableAll ds = true ∧ PyData.intsShortAll 13 ds = true
  | [], _ => ⟨rfl, Nat.zero_le _, by unfold PyData.weightAll; omega, rfl, rfl⟩
  | d :: ds, h => by
    obtain ⟨a1, a2, a3, a4, a5⟩ := sm_all fun e m => h e (List.mem_cons_of_mem _ m)
    have b := h d List.mem_cons_self
    refine ⟨?_, ?_, ?_, ?_, ?_⟩
    · unfold PyData.canLayAll0
      rw [b.lay, a1]
      rfl
    · unfold PyData.depthAll
      exact Nat.max_le.mpr ⟨b.dep, a2⟩
    · unfold PyData.weightAll
      have := b.wt
      rw [List.length_cons, Nat.add_mul]
      omega
    · unfold PyData.showableAll
      rw [b.sh, a4]
      rfl
    · unfold PyData.intsShortAll
      rw [b.ls, a5]
      rfl
theorem Sm.tup {n w m : Nat} {ds : List PyData} (h : ∀ d ∈ ds, Sm n w d) (hm : ds.length ≤ m) : Sm (n + 1) (m * (w + 1)) (.tuple ds) := by
  obtain ⟨a1, a2, a3, a4, a5⟩ := sm_all h
  refine ⟨a1, ?_, ?_, a4, a5⟩
  · unfold PyData.depth
    omega
  · unfold PyData.weight
    exact Nat.le_trans a3 (Nat.mul_le_mul_right _ hm)
theorem Sm.lst {n w m : Nat} {ds : List PyData} (h : ∀ d ∈ ds, Sm n w d) (hm : ds.length ≤ m) : Sm (n + 1) (m * (w + 1)) (.list ds) := by
  obtain ⟨a1, a2, a3, a4, a5⟩ := sm_all h
  refine ⟨a1, ?_, ?_, a4, a5⟩
  · unfold PyData.depth
    omega
  · unfold PyData.weight
    exact Nat.le_trans a3 (Nat.mul_le_mul_right _ hm)
theorem Sm.shaped {n w : Nat} {d : PyData} (h : Sm n w d) (hn : n ≤ 64) : SeqAt.shaped d = true := by
  unfold SeqAt.shaped
  rw [h.lay, decide_eq_true (Nat.le_trans h.dep hn)]
  rfl
theorem Sm.shown {n w : Nat} {d : PyData} (h : Sm n w d) (hw : w ≤ 2 ^ 20) : d.shown.length ≤ sizeLine :=
  PyData.shown_fits (B := 13) (by decide) (by decide) (PyData.leavesShort_of_canLay0 13 d h.lay h.ls) (Nat.le_trans h.wt hw)
/-! ## repr of data -/
/-- what repr shows of data; never looked into -/
@[irreducible] def txt (d : PyData) : Str := d.shown
theorem txt_eq (d : PyData) : txt d = d.shown := by
  unfold txt
  rfl
def rRepr (K : PySem.W.Frag) : List V → Hp → VK → Prop := fun xs H Q => ∃ x d n w, xs = [x] ∧ Dp K H x d ∧ Sm n w d ∧ n ≤ 64 ∧ w ≤ 2 ^ 20 ∧ Q (.str (txt d)) H
theorem call_reprD {X : Cx} (hg : Still X.A) (hu : X.A.units + 80 < cLine) : CallR X (.builtin "repr") (rRepr X.K) := by
  intro pins s σ H vs us Q I r h
  obtain ⟨x, d, n, w, rfl, hd, hS, hn, hw, q⟩ := h
  obtain ⟨u, rfl, ru⟩ := vals1 r
  obtain ⟨as, rd⟩ := Dp.reads I d x u hd ru
  rw [txt_eq] at q
  have hz := hS.shown hw
  have hdep := hS.dep
  cases rd with
  | none => exact PySem.P.repr_of_none ⟨.str _, H, I.tok _, ⟨_, rfl⟩, by simpa only [PyData.shown] using q⟩
  | bool b => exact PySem.P.repr_of_bool ⟨.str _, H, I.tok _, ⟨_, rfl⟩, by simpa only [PyData.shown] using q⟩
  | int i t =>
    have := hS.sh
    exact PySem.P.repr_of_int (by simpa [PyData.showable] using this) ⟨.str _, H, I.tok _, ⟨_, rfl⟩, by simpa only [PyData.shown] using q⟩
  | str z t => exact PySem.P.repr_of_str ⟨.str _, H, I.tok _, ⟨_, rfl⟩, by simpa only [PyData.shown] using q⟩ (by simpa only [PyData.shown] using hz)
  | list h1 h2 h3 h4 =>
    refine repr_of_reads' (.list h1 h2 h3 h4) hS.sh (PyData.noDict_hsm (PyData.hasDict_of_canLay _ hS.lay)) hg (by omega) (fun _ _ e => e) ?_ hz
    intro h' u tk hk
    exact ⟨.str _, H, I.kept hk, ⟨_, rfl⟩, q⟩
  | tuple h1 h2 h3 h4 =>
    refine repr_of_reads' (.tuple h1 h2 h3 h4) hS.sh (PyData.noDict_hsm (PyData.hasDict_of_canLay _ hS.lay)) hg (by omega) (fun _ _ e => e) ?_ hz
    intro h' u tk hk
    exact ⟨.str _, H, I.kept hk, ⟨_, rfl⟩, q⟩
  | dict => cases hd
theorem reprT {K : PySem.W.Frag} {H : Hp} {Q : VK} {x : V} {d : PyData} {n w : Nat} (h : Tp H x d) (s : Sm n w d) (q : Q (.str (txt d)) H) (hn : n ≤ 64 := by decide) (hw : w ≤ 2 ^ 20 := by decide) : rRepr K [x] H Q :=
  ⟨x, d, n, w, rfl, h.dp, s, hn, hw, q⟩
theorem reprL {K : PySem.W.Frag} {H : Hp} {Q : VK} {a : Addr} {xs : List V} {ds : List PyData} {n w : Nat} (h : H a = some (.lst xs)) (t : Tps H xs ds) (s : Sm n w (.list ds)) (q : Q (.str (txt (.list ds))) H) (hn : n ≤ 64 := by decide) (hw : w ≤ 2 ^ 20 := by decide) : rRepr K [.ref a] H Q :=
  ⟨_, _, n, w, rfl, .lst (SqL.of h) t.dp, s, hn, hw, q⟩
/-! ## in, not in, over tuples of data -/
def rInT (K : PySem.W.Frag) : R2 := fun x y H Q => ∃ d ds, Dp K H x d ∧ Dp K H y (.tuple ds) ∧ SeqAt.shaped d = true ∧ SeqAt.shaped (.tuple ds) = true ∧ Q (.bl (ds.any fun z => PyData.eqv z d)) H
def rNotInT (K : PySem.W.Frag) : R2 := fun x y H Q => ∃ d ds, Dp K H x d ∧ Dp K H y (.tuple ds) ∧ SeqAt.shaped d = true ∧ SeqAt.shaped (.tuple ds) = true ∧ Q (.bl (!ds.any fun z => PyData.eqv z d)) H
theorem in_room {A : Around} {d : PyData} {ds : List PyData} (h : SeqAt.shaped d = true) (hu : A.units + 80 < cLine) : A.units + 1 + min (PyData.depthAll ds) d.depth < cLine := by
  have h1 := SeqAt.depth_of_shaped h
  have h2 : min (PyData.depthAll ds) d.depth ≤ d.depth := Nat.min_le_right _ _
  omega
theorem op_inT {X : Cx} (hu : X.A.units + 80 < cLine) : OpR X (compareOp .In) (rInT X.K) := by
  intro pins s σ H x y v u Q I rx ry h
  obtain ⟨d, ds, hd, he, sd, se, q⟩ := h
  obtain ⟨as, r1⟩ := Dp.reads I d x v hd rx
  obtain ⟨bs, r2⟩ := Dp.reads I (.tuple ds) y u he ry
  exact SeqAt.in_tuple_reads r2 r1 (SeqAt.canLay_of_shaped se) (SeqAt.canLay_of_shaped sd) (in_room sd hu) ⟨.bl _, H, I, rfl, q⟩
theorem op_notInT {X : Cx} (hu : X.A.units + 80 < cLine) : OpR X (compareOp .NotIn) (rNotInT X.K) := by
  intro pins s σ H x y v u Q I rx ry h
  obtain ⟨d, ds, hd, he, sd, se, q⟩ := h
  obtain ⟨as, r1⟩ := Dp.reads I d x v hd rx
  obtain ⟨bs, r2⟩ := Dp.reads I (.tuple ds) y u he ry
  exact SeqAt.notIn_tuple_reads r2 r1 (SeqAt.canLay_of_shaped se) (SeqAt.canLay_of_shaped sd) (in_room sd hu) ⟨.bl _, H, I, rfl, q⟩
/-- in and not in, whatever it is over -/
def rMem (K : PySem.W.Frag) : R2 := fun x y H Q => rInT K x y H Q ∨ rInD K x y H Q
def rNMem (K : PySem.W.Frag) : R2 := fun x y H Q => rNotInT K x y H Q ∨ rNotInD K x y H Q
theorem op_mem {X : Cx} (hu : X.A.units + 80 < cLine) : OpR X (compareOp .In) (rMem X.K) := (op_inT hu).or (op_inD (by omega))
theorem op_nmem {X : Cx} (hu : X.A.units + 80 < cLine) : OpR X (compareOp .NotIn) (rNMem X.K) := (op_notInT hu).or (op_notInD (by omega))
/-! ## equality of data without bools is =  -/
mutual
def cln : PyData → Bool
  | .none | .int _ | .str _ => true
  | .bool _ | .dict _ => false
  | .list xs | .tuple xs => clnAll xs
def clnAll : List PyData → Bool
  | [] => true
  | x :: xs => cln x && clnAll xs
end
mutual
theorem eqv_iff : ∀ {d e : PyData}, cln d = true → cln e = true → (PyData.eqv d e = true ↔ d = e)
  | .none, e, _, he => by cases e <;> simp_all [PyData.eqv, cln]
  | .int i, e, _, he => by cases e <;> simp_all [PyData.eqv, cln]
  | .str i, e, _, he => by cases e <;> simp_all [PyData.eqv, cln]
  | .bool _, _, h, _ => by simp [cln] at h
  | .dict _, _, h, _ => by simp [cln] at h
  | .list xs, e, h, he => by
    cases e with
    | list ys =>
      have := eqvAll_iff (xs := xs) (ys := ys) (by simpa [cln] using h) (by simpa [cln] using he)
      simpa [PyData.eqv] using this
    | _ => simp_all [PyData.eqv, cln]
  | .tuple xs, e, h, he => by
    cases e with
    | tuple ys =>
      have := eqvAll_iff (xs := xs) (ys := ys) (by simpa [cln] using h) (by simpa [cln] using he)
      simpa [PyData.eqv] using this
    | _ => simp_all [PyData.eqv, cln]
theorem eqvAll_iff : ∀ {xs ys : List PyData}, clnAll xs = true → clnAll ys = true → (PyData.eqvAll xs ys = true ↔ xs = ys)
  | [], [], _, _ => by simp [PyData.eqvAll]
  | [], _ :: _, _, _ => by simp [PyData.eqvAll]
  | _ :: _, [], _, _ => by simp [PyData.eqvAll]
  | x :: xs, y :: ys, h, h' => by
    have h1 : cln x = true ∧ clnAll xs = true := by simpa [clnAll] using h
    have h2 : cln y = true ∧ clnAll ys = true := by simpa [clnAll] using h'
    have a := eqv_iff h1.1 h2.1
    have b := eqvAll_iff h1.2 h2.2
    simp [PyData.eqvAll, a, b]
end
theorem any_eqv {d : PyData} {ds : List PyData} (hd : cln d = true) (hs : ∀ e ∈ ds, cln e = true) {p : Prop} [Decidable p] (hp : p ↔ d ∈ ds) : (ds.any fun z => PyData.eqv z d) = decide p := by
  cases c : (ds.any fun z => PyData.eqv z d) with
  | true =>
    obtain ⟨z, m, e⟩ := List.any_eq_true.mp c
    have := (eqv_iff (hs z m) hd).mp e
    subst this
    exact (decide_eq_true (hp.mpr m)).symm
  | false =>
    refine (decide_eq_false fun h => ?_).symm
    have := List.any_eq_false.mp c d (hp.mp h)
    exact this ((eqv_iff hd hd).mpr rfl)
theorem dP_inj {p q : Pr} (h : dP p = dP q) : p = q := by
  obtain ⟨a, b⟩ := p
  obtain ⟨c, d⟩ := q
  simp only [dP, PyData.tuple.injEq, List.cons.injEq, PyData.int.injEq, and_true] at h
  have h1 : a = c := by omega
  have h2 : b = d := by omega
  rw [h1, h2]
theorem dPs_mem {p : Pr} {ps : List Pr} : p ∈ ps ↔ dP p ∈ dPs ps := by
  constructor
  · exact fun m => List.mem_map.mpr ⟨p, m, rfl⟩
  · intro m
    obtain ⟨q, mq, e⟩ := List.mem_map.mp m
    rw [← dP_inj e]
    exact mq
theorem dPs_inj : ∀ {ps qs : List Pr}, dPs ps = dPs qs → ps = qs
  | [], [], _ => rfl
  | [], _ :: _, h => by cases h
  | _ :: _, [], h => by cases h
  | p :: ps, q :: qs, h => by
    have h' := List.cons.inj h
    rw [dP_inj h'.1, dPs_inj h'.2]
theorem cln_dP (p : Pr) : cln (dP p) = true := rfl
theorem cln_dPs : ∀ ps : List Pr, clnAll (dPs ps) = true
  | [] => rfl
  | p :: ps => by
    show (cln (dP p) && clnAll (dPs ps)) = true
    rw [cln_dP, cln_dPs ps]
    rfl
theorem dT_inj {ps qs : List Pr} (h : dT ps = dT qs) : ps = qs := dPs_inj (PyData.tuple.inj h)
/-- pairs below a bound -/
abbrev Below (n : Nat) (ps : List Pr) : Prop := ∀ p ∈ ps, p.1 < n ∧ p.2 < n
theorem sm_dP {p : Pr} (h1 : p.1 < 10 ^ 12) (h2 : p.2 < 10 ^ 12) : Sm 1 130 (dP p) :=
  Sm.tup (n := 0) (w := 64) (m := 2) (by
    intro d m
    simp only [List.mem_cons, List.not_mem_nil, or_false] at m
    rcases m with rfl | rfl
    · exact Sm.nat h1
    · exact Sm.nat h2) (Nat.le_refl 2)
theorem sm_dPs {ps : List Pr} {m : Nat} (h : Below 100 ps) (hm : ps.length ≤ m) : Sm 2 (m * 131) (dT ps) :=
  Sm.tup (n := 1) (w := 130) (m := m) (by
    intro d mm
    obtain ⟨p, mp, rfl⟩ := List.mem_map.mp mm
    have := h p mp
    exact sm_dP (by omega) (by omega)) (by rw [List.length_map]; exact hm)
theorem sm_lPs {ps : List Pr} {m : Nat} (h : Below 100 ps) (hm : ps.length ≤ m) : Sm 2 (m * 131) (.list (dPs ps)) :=
  Sm.lst (n := 1) (w := 130) (m := m) (by
    intro d mm
    obtain ⟨p, mp, rfl⟩ := List.mem_map.mp mm
    have := h p mp
    exact sm_dP (by omega) (by omega)) (by rw [List.length_map]; exact hm)
theorem sm_dW {n : Nat} {ps : List Pr} (hn : n < 100) (h : Below 100 ps) (hm : ps.length ≤ 200) : Sm 3 60000 (dW n ps) :=
  (Sm.tup (n := 2) (w := 200 * 131) (m := 2) (ds := [.int n, dT ps]) (by
    intro d m
    simp only [List.mem_cons, List.not_mem_nil, or_false] at m
    rcases m with rfl | rfl
    · exact (Sm.nat (by omega)).mono (by decide) (by decide)
    · exact sm_dPs h hm) (Nat.le_refl 2)).mono (Nat.le_refl _) (by decide)
section
variable {K : PySem.W.Frag} {H : Hp} {Q : VK} {x : V} {a : Addr} {xs : List V} {p : Pr} {ps : List Pr}
theorem mem_tP (hx : Tp H x (dP p)) (h : H a = some (.tup xs)) (t : Tps H xs (dPs ps)) (b1 : p.1 < 100 ∧ p.2 < 100) (b : Below 100 ps) (hl : ps.length ≤ 1000) (q : Q (.bl (decide (p ∈ ps))) H) : rMem K x (.ref a) H Q := by
  refine .inl ⟨dP p, dPs ps, hx.dp, .tup (SqT.of h) t.dp, (sm_dP (by omega) (by omega)).shaped (by decide), (sm_dPs b hl).shaped (by decide), ?_⟩
  rw [any_eqv (p := p ∈ ps) (cln_dP p) (fun e m => by obtain ⟨q, _, rfl⟩ := List.mem_map.mp m; exact cln_dP q) dPs_mem]
  exact q
theorem nmem_tP (hx : Tp H x (dP p)) (h : H a = some (.tup xs)) (t : Tps H xs (dPs ps)) (b1 : p.1 < 100 ∧ p.2 < 100) (b : Below 100 ps) (hl : ps.length ≤ 1000) (q : Q (.bl (!decide (p ∈ ps))) H) : rNMem K x (.ref a) H Q := by
  refine .inl ⟨dP p, dPs ps, hx.dp, .tup (SqT.of h) t.dp, (sm_dP (by omega) (by omega)).shaped (by decide), (sm_dPs b hl).shaped (by decide), ?_⟩
  rw [any_eqv (p := p ∈ ps) (cln_dP p) (fun e m => by obtain ⟨q, _, rfl⟩ := List.mem_map.mp m; exact cln_dP q) dPs_mem]
  exact q
theorem nmem_lP (hx : Tp H x (dP p)) (h : H a = some (.lst xs)) (t : Tps H xs (dPs ps)) (b1 : p.1 < 100 ∧ p.2 < 100) (b : Below 100 ps) (hl : ps.length ≤ 1000) (q : Q (.bl (!decide (p ∈ ps))) H) : rNMem K x (.ref a) H Q := by
  refine .inr ⟨dP p, dPs ps, hx.dp, .lst (SqL.of h) t.dp, (sm_dP (by omega) (by omega)).shaped (by decide), (sm_lPs b hl).shaped (by decide), ?_⟩
  rw [any_eqv (p := p ∈ ps) (cln_dP p) (fun e m => by obtain ⟨q, _, rfl⟩ := List.mem_map.mp m; exact cln_dP q) dPs_mem]
  exact q
theorem mem_lP (hx : Tp H x (dP p)) (h : H a = some (.lst xs)) (t : Tps H xs (dPs ps)) (b1 : p.1 < 100 ∧ p.2 < 100) (b : Below 100 ps) (hl : ps.length ≤ 1000) (q : Q (.bl (decide (p ∈ ps))) H) : rMem K x (.ref a) H Q := by
  refine .inr ⟨dP p, dPs ps, hx.dp, .lst (SqL.of h) t.dp, (sm_dP (by omega) (by omega)).shaped (by decide), (sm_lPs b hl).shaped (by decide), ?_⟩
  rw [any_eqv (p := p ∈ ps) (cln_dP p) (fun e m => by obtain ⟨q, _, rfl⟩ := List.mem_map.mp m; exact cln_dP q) dPs_mem]
  exact q
/-- places as data -/
abbrev dN (i : Nat) : PyData := .int i
abbrev dNs (is : List Nat) : List PyData := is.map dN
theorem dNs_mem {i : Nat} {is : List Nat} : i ∈ is ↔ dN i ∈ dNs is := by
  constructor
  · exact fun m => List.mem_map.mpr ⟨i, m, rfl⟩
  · intro m
    obtain ⟨q, mq, e⟩ := List.mem_map.mp m
    have : q = i := by
      have e := PyData.int.inj e
      omega
    rw [← this]
    exact mq
theorem sm_dNs {is : List Nat} {m : Nat} (h : ∀ i ∈ is, i < 1000) (hm : is.length ≤ m) : Sm 1 (m * 65) (.tuple (dNs is)) :=
  Sm.tup (n := 0) (w := 64) (m := m) (by
    intro d mm
    obtain ⟨i, mi, rfl⟩ := List.mem_map.mp mm
    have := h i mi
    exact Sm.nat (by omega)) (by rw [List.length_map]; exact hm)
theorem sm_lNs {is : List Nat} {m : Nat} (h : ∀ i ∈ is, i < 1000) (hm : is.length ≤ m) : Sm 1 (m * 65) (.list (dNs is)) :=
  Sm.lst (n := 0) (w := 64) (m := m) (by
    intro d mm
    obtain ⟨i, mi, rfl⟩ := List.mem_map.mp mm
    have := h i mi
    exact Sm.nat (by omega)) (by rw [List.length_map]; exact hm)
theorem mem_tN {i : Nat} {is : List Nat} (h : H a = some (.tup xs)) (t : Tps H xs (dNs is)) (b1 : i < 1000) (b : ∀ i ∈ is, i < 1000) (hl : is.length ≤ 1000) (q : Q (.bl (decide (i ∈ is))) H) : rMem K (.int i) (.ref a) H Q := by
  refine .inl ⟨dN i, dNs is, .int _, .tup (SqT.of h) t.dp, (Sm.nat (by omega)).shaped (by decide), (sm_dNs b hl).shaped (by decide), ?_⟩
  rw [any_eqv (p := i ∈ is) rfl (fun e m => by obtain ⟨q, _, rfl⟩ := List.mem_map.mp m; rfl) dNs_mem]
  exact q
theorem nmem_tN {i : Nat} {is : List Nat} (h : H a = some (.tup xs)) (t : Tps H xs (dNs is)) (b1 : i < 1000) (b : ∀ i ∈ is, i < 1000) (hl : is.length ≤ 1000) (q : Q (.bl (!decide (i ∈ is))) H) : rNMem K (.int i) (.ref a) H Q := by
  refine .inl ⟨dN i, dNs is, .int _, .tup (SqT.of h) t.dp, (Sm.nat (by omega)).shaped (by decide), (sm_dNs b hl).shaped (by decide), ?_⟩
  rw [any_eqv (p := i ∈ is) rfl (fun e m => by obtain ⟨q, _, rfl⟩ := List.mem_map.mp m; rfl) dNs_mem]
  exact q
end
end Lt

set_option Elab.async false
set_option linter.all false
set_option maxRecDepth 100000
set_option maxHeartbeats 4000000
namespace Lt
/-! ## the error made, raised, read -/
section
open PySem PySem.W PySem.Calls PyProof.Rows PySem.HandSPX
structure ErrMade (h h' : Heap) (e C d : Addr) (f : Str) (v : Value) : Prop where
  keep : ∀ b o, h.get? b = some o → h'.get? b = some o
  new : h.objs.size ≤ e
  obj : ∃ oe vs, h'.get? e = some oe ∧ oe.cls = .ref C ∧ oe.dict = some d ∧ oe.data = .fields vs ∧ vs[1]? = some .none
  dbig : h.objs.size ≤ d
  dne : d ≠ e
  ns : h'.Ns1 d (fun y => if y = f then some v else none)
variable {P : Program} {w : World} {A : Around} {R : Result → Shared → Prop} {s : Shared} {K : Frag} {mg mb : Str → Option Value} {x f msg : Str} {C fI : Addr}
theorem err_made (T : ErrTxt P K mg x f msg C fI) {v : Value} (X : K.In s.heap) (hg : s.heap.Ns mainGlobals mg) (hb : s.heap.Ns builtinsNs mb) (hbb : ∀ y : Str, y ≠ "__name__" → mb y = bootBuiltins y) (hlim : s.heap.NoLimit) (hroom : A.depth + 1 < recursionLimit)
    (hq : ∀ h' tk e d, ErrMade s.heap h' e C d f v → R (.ok (.ret (.ref e))) { s with heap := h', toks := tk }) : codeAny (model P w) A (.call (.ref C) ⟨[v], []⟩) R s := by
  obtain ⟨nm, q, N, bs, bm, sn, sub, ab, col, dd, k0, k1, k2, k3, k5, hC, hbm⟩ := T.cls
  obtain ⟨hp, g, dr, tk, os⟩ := s
  have k : ∀ b o, hp.get? b = some o → ((hp.push (kdv_tup [v])).push (excO C hp.objs.size)).get? b = some o := fun b o e => Heap.get?_push_of_some _ (Heap.get?_push_of_some _ e)
  have hget : ((hp.push (kdv_tup [v])).push (excO C hp.objs.size)).get? (hp.objs.size + 1) = some (excO C hp.objs.size) := by heap_get
  have hnx : K.lookup (hp.objs.size + 1) = none := by
    cases e : K.lookup (hp.objs.size + 1) with
    | none => rfl
    | some o =>
      have z : hp.get? (hp.objs.size + 1) = some o := X _ _ e
      exact absurd (Nat.lt_of_succ_lt (Heap.lt_size z)) (Nat.lt_irrefl _)
  refine call_own F.excBase_ValueError (fun X => refsVE_contains X bm hbm) (X _ _ hC) (looks_findIn X T.iC) (fun self => bind_fn X self T.tC) (one_size v) ?_
  refine err_init (s := ⟨(hp.push (kdv_tup [v])).push (excO C hp.objs.size), g, dr, tk, os⟩) T (X.keeps k) (hg.keeps k) (hb.keeps k) hbb (hlim.keeps k) hget hnx hroom fun h' tk' dx t1 ⟨k', hx, dn, dne, hns⟩ => ?_
  have old : ∀ b o, hp.get? b = some o → h'.get? b = some o := fun b o e => k' b o (Nat.ne_of_lt (Nat.lt_succ_of_lt (Heap.lt_size e))) (k b o e)
  have z : hp.objs.size + 1 + 1 ≤ dx := by
    have q := dn
    rw [Heap.size_push, Heap.size_push] at q
    exact q
  exact ⟨rfl, hq h' tk' (hp.objs.size + 1) dx ⟨old, Nat.le_succ _, ⟨_, _, hx, rfl, rfl, rfl, rfl⟩, Nat.le_trans (Nat.le_trans (Nat.le_succ _) (Nat.le_succ _)) z, dne, hns⟩⟩
end
section
open PySem PySem.Spec PyProof.Rows L2
theorem relO_one {v : V} {v' : Value} (r : RelV v v') (f g : Str) : RelO (List.lookup g [(f, v)]) (if g = f then some v' else none) := by
  rw [show List.lookup g [(f, v)] = (if g = f then some v else none) by
    by_cases h : g = f
    · subst h
      simp [List.lookup]
    · have e : (g == f) = false := by simpa using h
      simp [List.lookup, e, h]]
  by_cases h : g = f
  · rw [if_pos h, if_pos h]
    exact r
  · rw [if_neg h, if_neg h]
    trivial
variable {X : Cx} {C fI : Addr} {x f msg : Str}
/-- x(e) -/
def tMkErr (f : Str) (C : Addr) (ta : TA) : Slots → Hp → XK → Prop := fun σ H Q => ta σ H fun vs H1 => ∃ v, vs = [v] ∧ ∀ d, H1 d = none → Q (.ref C) (some d) (upd H1 d (.xd [(f, v)]))
theorem pmk_err {a : Expr} {ta : TA} {p pos : Pos} {k : Nat} (T : ErrTxt X.prog X.K X.mg x f msg C fI) (hr : Room k X.A) (ha : PA X [a] ta) (hg : Gl X x) (hdb : (x == ("__debug__" : Str)) = false := by decide)
    (he : starEach (a :: []) X.env = (false, eval a X.env) :: starEach [] X.env := by rfl) (hpl : (backTo pos (starEach [] X.env)).any (·.1) = false := by rfl) :
    PMk X (.Call (.Name x p) [a] [] pos) (tMkErr f C ta) := by
  intro pins s σ H Q I h
  refine wpAny_Call_Name_kw (ld_glob I hg T.gC ?_ hdb)
  refine PySem.W.callWith_K (h₀ := X.base) I.ok.mod.kin T.kC (thn (ha.run pos pins s σ H _ I h) fun us s1 hh => ?_) he hpl
  obtain ⟨vs, H1, I1, r1, v, ev, q1⟩ := hh
  subst ev
  refine ⟨I1.kIn, ?_⟩
  cases r1 with
  | cons rv rn =>
    rename_i v' us'
    cases rn
    show wpAny _ _ (call (.ref C) [v']) _ _ _
    have hlim := I1.nolimit
    have hgl := I1.mod.glob.keeps I1.bk
    obtain ⟨mb, hbl, hbb⟩ := I1.mod.blt
    have hbl' := hbl.keeps I1.bk
    obtain ⟨hp, g, dr, tk, os⟩ := s1
    refine wpAny_call (err_made T I1.kIn hgl hbl' hbb hlim (by have := hr.dp; omega) fun h' tk' e d M => ?_)
    show MkP X pins σ Q (.ref e) ⟨h', g, dr, tk', os⟩
    obtain ⟨oe, fv, hoe, hc, hd, hdat, h1⟩ := M.obj
    have hns := M.ns
    obtain ⟨G', g1, g2⟩ := restrict h' fun b => decide (b ≠ e)
    have gk : ∀ b, b ≠ e → G'.get? b = h'.get? b := fun b hb => g1 b (decide_eq_true hb)
    have ge : G'.get? e = none := g2 e (by simp)
    have old : ∀ b o, hp.get? b = some o → G'.get? b = some o := fun b o q => (gk b (Nat.ne_of_lt (Nat.lt_of_lt_of_le (Heap.lt_size q) M.new))).trans (M.keep b o q)
    have ob : ObjOk X.prog X.w (upd H1 d (.xd [(f, v)])) G' d (.xd [(f, v)]) := ⟨_, hns.at (fun o q => (gk d M.dne).trans q), fun g => relO_one rv f g⟩
    have J : Inv X pins σ (upd H1 d (.xd [(f, v)])) ⟨G', g, dr, tk', os⟩ := I1.laid (t' := tk') old M.dbig ob
    refine ⟨e, oe, fv, ⟨G', g, dr, tk', os⟩, _, .ref C, some d, rfl, J, fun b o q => ?_, ge, hoe, ⟨hc, hd⟩, hdat, h1, ?_, rfl, I1.bare, raises_own T.exC T.tyC, q1 d (I1.hok.fresh M.dbig)⟩
    · by_cases hb : b = e
      · have q' : G'.get? b = some o := q
        rw [hb, ge] at q'
        cases q'
      · exact (gk b hb).symm.trans q
    · rw [upd_ne (Ne.symm M.dne)]
      exact I1.hok.fresh M.new
/-- raise x(e) -/
def tRaiseErr (f : Str) (C : Addr) (W : WX) (ta : TA) : TS := fun _ σ H => tMkErr f C ta σ H fun cls d H' => W cls d σ H'
theorem ps_raiseErr {a : Expr} {ta : TA} {W : WX} {p pos pos2 : Pos} {k : Nat} (hc : X.calm = true) (T : ErrTxt X.prog X.K X.mg x f msg C fI) (hr : Room k X.A) (tk : Takes X W) (ha : PA X [a] ta) (hg : Gl X x := by rfl) (hdb : (x == ("__debug__" : Str)) = false := by decide)
    (he : starEach (a :: []) X.env = (false, eval a X.env) :: starEach [] X.env := by rfl) (hpl : (backTo pos (starEach [] X.env)).any (·.1) = false := by rfl) :
    PS X (.Raise (some (.Call (.Name x p) [a] [] pos)) none pos2) (tRaiseErr f C W ta) := ps_raise hc tk (pmk_err T hr ha hg hdb he hpl)
/-- n.f, n the exception that the suite holds (at a; its class cls, its dict d) -/
def tByErr (f : Str) (C : Addr) (a : Addr) (cls : Value) (d : Option Addr) (te : TE) : TE := fun σ H Q => te σ H fun x H1 => x = .ref a ∧ cls = .ref C ∧ ∃ (dd : Addr) (v : V), d = some dd ∧ H1 dd = some (.xd [(f, v)]) ∧ Q v H1
theorem pe_byErr {a : Addr} {oe : Obj} {cls : Value} {d : Option Addr} {pn : List (Addr × Obj)} {e : Expr} {te : TE} {pos : Pos} (T : ErrTxt X.prog X.K X.mg x f msg C fI) (hz : Zc cls d oe) (hf : ∃ vs, oe.data = .fields vs) (he : PE (X.suite a ((a, oe) :: pn)) e te)
    (hb : attributeBase e f X.env (eval e X.env) = eval e X.env := by rfl) :
    PE (X.suite a ((a, oe) :: pn)) (.Attribute e f pos) (tByErr f C a cls d te) := by
  refine ⟨fun pins s σ H Q I h => ?_⟩
  refine attr_of hb (thn (he.run pins s σ H _ I h) fun u s1 hh => ?_)
  obtain ⟨x, H1, I1, rx, ex, ec, dd, v, ed, ea, q⟩ := hh
  subst ex
  obtain rfl : u = Value.ref a := rx
  subst ec
  subst ed
  obtain ⟨ha, _⟩ := I1.pin (a, oe) (List.mem_append_left _ List.mem_cons_self)
  obtain ⟨vs, hd⟩ := hf
  have hx : ObjOk X.prog X.w H1 s1.heap dd (.xd [(f, v)]) := I1.hok dd _ ea
  obtain ⟨mA, hns, hr⟩ := hx
  obtain ⟨od, ho, hl⟩ := lookIn_ns hns
  have l : List.lookup f [(f, v)] = some v := by simp [List.lookup]
  obtain ⟨u, hu, ru⟩ := RelO.some_of (v := v) (o := mA f) (by rw [← l]; exact hr f)
  have J : PySem.W.InstAt s1.heap a oe C (some od) := ⟨ha, hz.1, by unfold PySem.W.notCls; rw [hd] <;> rfl, by rw [hz.2]; exact ho⟩
  exact PySem.HandSPX.exc_get I1.kIn J T.ga T.gg T.exC (PySem.W.findObj_own T.hdC T.noN rfl (by rw [hl, hu])) (handed_of ru) ⟨v, H1, I1.tok _, ru, q⟩
/-! ## calls whose error a clause takes -/
variable {CX : CXT} {k : Nat} {g : Addr} {fd : FuncData} {ps : List Str} {sp : Sp} {dvs : List V} {ds : List Value} {E : Slots → XK} {p pos : Pos} {e : Expr} {es : List Expr} {t : TA}
theorem goGS {pins : List (Addr × Obj)} {σ : Slots} {H : Hp} {s : Shared} {Q : VK} {us ws : List Value} {vs : List V} {kw : List (Str × Value)}
    (F : FnG X.prog X.w X.K X.mg X.base CX k g fd ps sp) (hg : Still X.A) (hr : Room k X.A) (hx : PassesAt CX X σ (E σ)) (I : Inv X pins σ H s)
    (hb : ws.length = ps.length → BindsTo s fd ⟨us, kw⟩ (ps.zip ws)) (rv : Vals vs ws) (h : sp vs H Q (E σ)) :
    wpAny (model X.prog X.w) X.A (call (.ref g) us kw) (EP X pins σ Q) X.xe s := by
  have hlen : ws.length = ps.length := rv.length.symm.trans (F.arity _ _ _ _ h)
  have run := F.go X.A X.stack s H ⟨us, kw⟩ ws vs Q (E σ) hg hr I.env0 (hb hlen) rv h
  refine wpAny_call (codeAny_mono run fun r s' z => ?_)
  rcases r with er | fl
  · exact hx pins H s er s' I z
  · obtain ⟨u, rfl, q⟩ := back_ok I z
    exact q
def tCallX (sp : Sp) (dvs : List V) (E : Slots → XK) (t : TA) : TE := fun σ H Q => t σ H fun vs H1 => sp (vs ++ dvs) H1 Q (E σ)
theorem pe_callGS {y : Str} (F : FnG X.prog X.w X.K X.mg X.base CX k g fd ps sp) (hs : Still X.A) (hr : Room k X.A) (hg : Gl X y) (hm : X.mg y = some (.ref g))
    (hk : PySem.W.keepIn X.K (.ref g) = true) (hb : Binds X.K fd ps ds) (hd : Vals dvs ds) (hx : ∀ σ, PassesAt CX X σ (E σ)) (ha : PA X (e :: es) t)
    (hdb : (y == ("__debug__" : Str)) = false := by decide) (he : starEach (e :: es) X.env = (false, eval e X.env) :: starEach es X.env := by rfl)
    (hpl : (backTo pos (starEach es X.env)).any (·.1) = false := by rfl) : PE X (.Call (.Name y p) (e :: es) [] pos) (tCallX sp dvs E t) := by
  constructor
  intro pins s σ H Q I h
  apply wpAny_Call_Name_kw
  apply ld_glob I hg hm ?_ hdb
  apply PySem.W.callWith_K (h₀ := X.base) I.ok.mod.kin hk ?_ he hpl
  refine thn (ha.run pos pins s σ H _ I h) ?_
  rintro us s1 ⟨vs, H1, I1, r, q⟩
  exact ⟨I1.kIn, goGS F hs hr (hx σ) I1 (fun hl => hb s1 us I1.kIn hl) (r.append hd) q⟩
def tCallNX (sp : Sp) (g : {α : Type} → List α → List α) (E : Slots → XK) (tk : TA) : TE := fun σ H Q => tk σ H fun zs H1 => sp (g zs) H1 Q (E σ)
theorem pe_callGNS {y : Str} {kws : List Keyword} {tk : TA} {ks : List Str} {γ : {α : Type} → List α → List α}
    (F : FnG X.prog X.w X.K X.mg X.base CX k g fd ps sp) (hs : Still X.A) (hr : Room k X.A) (hg : Gl X y) (hm : X.mg y = some (.ref g))
    (hk : PySem.W.keepIn X.K (.ref g) = true) (hb : NBinds X.K fd ps ks γ) (hx : ∀ σ, PassesAt CX X σ (E σ)) (hkw : PK X kws tk)
    (hall : (backToKw pos (keywordEach kws X.env)).all (·.1.isSome) = true := by rfl) (hks : (backToKw pos (keywordEach kws X.env)).filterMap (·.1) = ks := by rfl)
    (hdb : (y == ("__debug__" : Str)) = false := by decide)
    (hpl : ((backTo pos (starEach [] X.env)).any (·.1) || (backToKw pos (keywordEach kws X.env)).any (·.1.isNone)) = false := by rfl) :
    PE X (.Call (.Name y p) [] kws pos) (tCallNX sp γ E tk) := by
  constructor
  intro pins s σ H Q I h
  apply wpAny_Call_Name_kw
  apply ld_glob I hg hm ?_ hdb
  apply PySem.W.callWith_KW0 (h₀ := X.base) I.ok.mod.kin hk hall ?_ hpl
  refine thn (hkw.run pos pins s σ H _ I h) ?_
  rintro ws s1 ⟨zs, H1, I1, r, q⟩
  refine ⟨I1.kIn, ?_⟩
  rw [hks]
  exact goGS F hs hr (hx σ) I1 (fun hl => hb.to s1 ws I1.kIn hl) (hb.rel r) q
end
end Lt

set_option Elab.async false
set_option linter.all false
set_option maxRecDepth 100000
set_option maxHeartbeats 2000000
namespace Lt
open PySem PySem.Spec PyProof.Rows L2
section
variable {K : PySem.W.Frag} {S : List Addr} {J : Hp → Prop} {M : Nat → List PyData → Prop} {g : TG} {tt : TT} {te : TE} {vs : List Nat} {σ : Slots} {H1 H H4 : Hp} {D a : Addr} {Qd : Hp → Prop} {xs ys : List V} {ds : List PyData} {i : Nat}
/-- what a comprehension over an iterator asks -/
abbrev LcGoal (it : It) (g : TG) (tt : TT) (te : TE) (vs : List Nat) (σ : Slots) (H1 : Hp) (D : Addr) (Qd : Hp → Prop) : Prop :=
  ∃ W : Nat → Nat → Hp → Prop, (∃ m, W 0 m (upd H1 D (.lst []))) ∧ ∀ (i m : Nat) (H : Hp), W i m H →
    (it.stop i H ∧ Qd H) ∨ (it.go i H ∧ ∃ Nx : Hp → Prop, (∀ H', Nx H' → ∃ m', m' < m ∧ W (i + 1) m' H') ∧
      ∀ (x : V) (H' : Hp), it.yld i H x H' → g x (wipe σ vs) H' fun σ2 H2 => wipe σ2 vs = wipe σ vs ∧ tt σ2 H2 fun b H3 =>
        if b = true then te σ2 H3 fun y H4 => ∃ acc, H4 D = some (.lst acc) ∧ acc.length < sizeLine ∧ Nx (upd H4 D (.lst (acc ++ [y]))) else Nx H3)
/-- where a comprehension stands: its list is new, the cells S may change, J is kept whatever its list holds -/
structure LcC (S : List Addr) (J : Hp → Prop) (H1 : Hp) (D : Addr) : Prop where
  new : H1 D = none
  off : D ∉ S
  own : ∀ H o, J H → J (upd H D o)
/-- ahead of turn i: ds is made -/
structure LcS (S : List Addr) (J : Hp → Prop) (M : Nat → List PyData → Prop) (H1 : Hp) (D : Addr) (i : Nat) (H : Hp) (ys : List V) (ds : List PyData) : Prop where
  m : M i ds
  len : ds.length ≤ i
  j : J H
  fr : Fr S H1 H
  at_ : H D = some (.lst ys)
  dat : Tps H ys ds
def LcAny (S : List Addr) (J : Hp → Prop) (M : Nat → List PyData → Prop) (H1 : Hp) (D : Addr) (i : Nat) (H : Hp) : Prop := ∃ ys ds, LcS S J M H1 D i H ys ds
theorem LcC.zero (C : LcC S J H1 D) (j0 : J H1) (m0 : M 0 []) : LcAny S J M H1 D 0 (upd H1 D (.lst [])) :=
  ⟨[], [], m0, Nat.le_refl _, C.own _ _ j0, Fr.new C.new, upd_same, .nil⟩
theorem put_at (new : H1 D = none) (off : D ∉ S) (fr : Fr S H1 H) (at_ : H D = some (.lst ys)) (dat : Tps H ys ds) (hl : ds.length < 50000) (f : Fr S H H4) {y : V} {d : PyData} (t : Tp H4 y d) :
    H4 D = some (.lst ys) ∧ ys.length < sizeLine ∧ Fr S H1 (upd H4 D (.lst (ys ++ [y]))) ∧ upd H4 D (.lst (ys ++ [y])) D = some (.lst (ys ++ [y])) ∧ Tps (upd H4 D (.lst (ys ++ [y]))) (ys ++ [y]) (ds ++ [d]) := by
  have e := f.keep _ _ at_ off
  have h2 := dat.length
  have f2 : Fr [D] H4 (upd H4 D (.lst (ys ++ [y]))) := Fr.refl.set (.inr List.mem_cons_self) (fun xs z => by rw [e] at z; cases z)
  exact ⟨e, szlt (by omega), (fr.trans f).set (.inl new) (fun xs z => by rw [e] at z; cases z), upd_same, ((dat.fr f).fr f2).app (Tps.one (t.fr f2))⟩
/-- the turn keeps its item -/
theorem LcS.put (C : LcC S J H1 D) (L : LcS S J M H1 D i H ys ds) (hi : i < 50000) (f : Fr S H H4) (j : J H4) {y : V} {d : PyData} (t : Tp H4 y d) (m : M (i + 1) (ds ++ [d])) :
    ∃ acc, H4 D = some (.lst acc) ∧ acc.length < sizeLine ∧ LcAny S J M H1 D (i + 1) (upd H4 D (.lst (acc ++ [y]))) := by
  have e := f.keep _ _ L.at_ C.off
  have hl := L.dat.length
  have h1 := L.len
  refine ⟨ys, e, szlt (by omega), ys ++ [y], ds ++ [d], m, ?_, C.own _ _ j, ?_, upd_same, ?_⟩
  · rw [List.length_append]
    exact Nat.add_le_add_right h1 1
  · exact (L.fr.trans f).set (.inl C.new) (fun xs z => by rw [e] at z; cases z)
  · have f2 : Fr [D] H4 (upd H4 D (.lst (ys ++ [y]))) := Fr.refl.set (.inr List.mem_cons_self) (fun xs z => by rw [e] at z; cases z)
    exact ((L.dat.fr f).fr f2).app (Tps.one (t.fr f2))
/-- the turn drops its item -/
theorem LcS.skip (L : LcS S J M H1 D i H ys ds) (C : LcC S J H1 D) (f : Fr S H H4) (j : J H4) (m : M (i + 1) ds) : LcAny S J M H1 D (i + 1) H4 :=
  ⟨ys, ds, m, Nat.le_succ_of_le L.len, j, L.fr.trans f, f.keep _ _ L.at_ C.off, L.dat.fr f⟩
abbrev TurnGoal (S : List Addr) (J : Hp → Prop) (M : Nat → List PyData → Prop) (g : TG) (tt : TT) (te : TE) (vs : List Nat) (σ : Slots) (H1 : Hp) (D : Addr) (i : Nat) (x : V) (H : Hp) : Prop :=
  g x (wipe σ vs) H fun σ2 H2 => wipe σ2 vs = wipe σ vs ∧ tt σ2 H2 fun b H3 =>
    if b = true then te σ2 H3 fun y H4 => ∃ acc, H4 D = some (.lst acc) ∧ acc.length < sizeLine ∧ LcAny S J M H1 D (i + 1) (upd H4 D (.lst (acc ++ [y]))) else LcAny S J M H1 D (i + 1) H3
theorem lcl (C : LcC S J H1 D) (hs : SqL K H1 a xs) (ha : a ∉ S) (j0 : J H1) (m0 : M 0 [])
    (turn : ∀ i x H ys ds, xs[i]? = some x → LcS S J M H1 D i H ys ds → TurnGoal S J M g tt te vs σ H1 D i x H)
    (done : ∀ H ys ds, LcS S J M H1 D xs.length H ys ds → Qd H) : LcGoal (Itl K a) g tt te vs σ H1 D Qd :=
  lc_list (K := K) (a := a) (xs := xs) (LcAny S J M H1 D) (C.zero j0 m0) (fun i H _ ⟨ys, ds, L⟩ => L.fr.seqL ha hs) (fun i x H hx ⟨ys, ds, L⟩ => turn i x H ys ds hx L) (fun H ⟨ys, ds, L⟩ => done H ys ds L)
theorem lct (C : LcC S J H1 D) (hs : H1 a = some (.tup xs)) (j0 : J H1) (m0 : M 0 [])
    (turn : ∀ i x H ys ds, xs[i]? = some x → LcS S J M H1 D i H ys ds → TurnGoal S J M g tt te vs σ H1 D i x H)
    (done : ∀ H ys ds, LcS S J M H1 D xs.length H ys ds → Qd H) : LcGoal (L2.Itt K a) g tt te vs σ H1 D Qd :=
  lc_tup (K := K) (a := a) (xs := xs) (LcAny S J M H1 D) (C.zero j0 m0) (fun i H _ ⟨ys, ds, L⟩ => SqT.of (L.fr.tups _ _ hs)) (fun i x H hx ⟨ys, ds, L⟩ => turn i x H ys ds hx L) (fun H ⟨ys, ds, L⟩ => done H ys ds L)
theorem lcr {lo : Int} {n : Nat} (C : LcC S J H1 D) (j0 : J H1) (m0 : M 0 [])
    (turn : ∀ (i : Nat) H ys ds, i < n → LcS S J M H1 D i H ys ds → TurnGoal S J M g tt te vs σ H1 D i (.int (lo + i)) H)
    (done : ∀ H ys ds, LcS S J M H1 D n H ys ds → Qd H) : LcGoal (Itr lo n) g tt te vs σ H1 D Qd :=
  L2.lc_range (lo := lo) (n := n) (LcAny S J M H1 D) (C.zero j0 m0) (fun i H hi ⟨ys, ds, L⟩ => turn i H ys ds hi L) (fun H ⟨ys, ds, L⟩ => done H ys ds L)
end
abbrev cMin2 : List V → Hp → VK → Prop := fun xs H Q => ∃ i j, xs = [.int i, .int j] ∧ Q (.int (if j < i then j else i)) H
abbrev cMax2 : List V → Hp → VK → Prop := fun xs H Q => ∃ i j, xs = [.int i, .int j] ∧ Q (.int (if j > i then j else i)) H
abbrev cAbs : List V → Hp → VK → Prop := fun xs H Q => ∃ i, xs = [.int i] ∧ Q (.int (if i < 0 then -i else i)) H
abbrev cInt1 : List V → Hp → VK → Prop := fun xs H Q => (∃ i, xs = [.int i] ∧ Q (.int i) H) ∨ ∃ k, xs = [.bl k] ∧ Q (.int (if k then 1 else 0)) H
abbrev rAddI : R2 := rI0 fun i j => .int (i + j)
abbrev rSubI : R2 := rI0 fun i j => .int (i - j)
abbrev rMulI : R2 := rI CMul fun i j => .int (i * j)
abbrev rModI : R2 := rI (fun _ j => 0 < j) fun i j => .int (i % j)
abbrev rDivI : R2 := rI CDivN fun i j => .int (i.fdiv j)
abbrev rPowI : R2 := rI CPow fun i j => .int (i ^ j.toNat)
abbrev rLtI : R2 := rI0 fun i j => .bl (decide (i < j))
abbrev rLeI : R2 := rI0 fun i j => .bl (decide (i ≤ j))
abbrev rGtI : R2 := rI0 fun i j => .bl (decide (j < i))
abbrev rGeI : R2 := rI0 fun i j => .bl (decide (j ≤ i))
abbrev rNegI : V → Hp → VK → Prop := rU fun i => .int (-i)
abbrev rIsNo : R2 := fun x y H Q => y = .non ∧ Q (.bl (decide (x = .non))) H
abbrev rNotNo : R2 := fun x y H Q => y = .non ∧ Q (.bl (!decide (x = .non))) H
/-! ## the rules that name the written part, where a block runs, too -/
section
variable {X : Cx} (K : PySem.W.Frag)
theorem ixL (h : X.K = K := by rfl) : IxR X (rIxL K) := h ▸ ix_list
theorem ixT (h : X.K = K := by rfl) : IxR X (rIxT K) := h ▸ ix_tup
theorem memK (hu : X.A.units + 80 < cLine) (h : X.K = K := by rfl) : OpR X (compareOp .In) (rMem K) := h ▸ op_mem hu
theorem nmemK (hu : X.A.units + 80 < cLine) (h : X.K = K := by rfl) : OpR X (compareOp .NotIn) (rNMem K) := h ▸ op_nmem hu
theorem eqK (hu : X.A.units + 64 < cLine) (h : X.K = K := by rfl) : OpR X (compareOp .Eq) (rEqD K) := h ▸ op_eqD hu
theorem neK (hu : X.A.units + 64 < cLine) (h : X.K = K := by rfl) : OpR X (compareOp .NotEq) (rNeD K) := h ▸ op_neD hu
theorem slL (h : X.K = K := by rfl) : SlR X (rSlL K) := h ▸ sl_list
theorem slT (h : X.K = K := by rfl) : SlR X (rSlT K) := h ▸ sl_tup
theorem reprK (hg : Still X.A) (hu : X.A.units + 80 < cLine) (h : X.K = K := by rfl) : CallR X (.builtin "repr") (rRepr K) := h ▸ call_reprD hg hu
theorem catT (h : X.K = K := by rfl) : OpR X (binaryOp .Add) (rCatT K) := h ▸ op_catT
def rLen (K : PySem.W.Frag) : List V → Hp → VK → Prop := fun xs H Q => ∃ p ys, xs = [.ref p] ∧ (SqL K H p ys ∨ SqT K H p ys) ∧ Q (.int ys.length) H
theorem lenK (h : X.K = K := by rfl) : CallR X (.builtin "len") (rLen K) := h ▸ call_len_seq
def rTupOf (K : PySem.W.Frag) : List V → Hp → VK → Prop := fun xs H Q => ∃ p ys, xs = [.ref p] ∧ ((SqL K H p ys ∧ ∀ l, H l = none → Q (.ref l) (upd H l (.tup ys))) ∨ (SqT K H p ys ∧ Q (.ref p) H))
theorem tupOfK (h : X.K = K := by rfl) : CallR X (.type "tuple") (rTupOf K) := h ▸ call_tuple_of
def rLstOf (K : PySem.W.Frag) : List V → Hp → VK → Prop := fun xs H Q => ∃ p ys, xs = [.ref p] ∧ (SqL K H p ys ∨ SqT K H p ys) ∧ ∀ l, H l = none → Q (.ref l) (upd H l (.lst ys))
theorem lstOfK (h : X.K = K := by rfl) : CallR X (.type "list") (rLstOf K) := h ▸ call_list_of
theorem pg_tupK {es : List Expr} {k : Nat} {t : TGs} {n : Nat} {pos : Pos} (hc : X.calm = true) (h : PGs X es t) (hn : (assignEach es X.env).length = n := by rfl) (hst : (assignEach es X.env).findIdx? (·.1) = none := by rfl)
    (hk : X.K = K := by rfl) : PG X (.Tuple es k pos) (gTup K n t) := hk ▸ pg_tup hc h hn hst
theorem sumK (hc : X.calm = true) (h : X.K = K := by rfl) : CallR X (.builtin "sum") (rSum K) := h ▸ cr_sum hc
theorem sortedPK (h : X.K = K := by rfl) : CallR X (.builtin "sorted") (rSortedPO K) := h ▸ cr_sortedPO
theorem sortedIK (h : X.K = K := by rfl) : CallR X (.builtin "sorted") (rSortedI K) := h ▸ cr_sortedI
end
theorem tyes {A B : Hp → Prop} {σ : Slots} {H : Hp} (h : A H) : tYes σ H (fun b H1 => if b = true then A H1 else B H1) := by
  show (if true = true then A H else B H)
  rw [if_pos rfl]
  exact h
theorem hu80_of {k : Nat} {A : Around} (hr : Room k A) : A.units + 80 < cLine := by
  have := hr.un
  omega
abbrev FnP (K : PySem.W.Frag) (x : Str) (st : Stmt) (f : Addr) (fd : FuncData) : Prop := FunD K x x (defArgs st) (defBody st) (defScope st) [] [] f fd
end Lt

set_option Elab.async false
set_option linter.all false
set_option maxRecDepth 100000
set_option maxHeartbeats 2000000
namespace Lt
open PySem PySem.Spec PyProof.Rows L2
/-! ## what is walked, turn by turn -/
section
variable {K : PySem.W.Frag} {Hs : Hp} {Qd : Hp → Prop} {T : V → Hp → (Hp → Prop) → Prop} {a : Addr} {xs : List V}
abbrev WalkGoal (it : It) (Hs : Hp) (Qd : Hp → Prop) (T : V → Hp → (Hp → Prop) → Prop) : Prop :=
  ∃ W : Nat → Nat → Hp → Prop, (∃ m, W 0 m Hs) ∧ ∀ (i m : Nat) (H : Hp), W i m H →
    (it.stop i H ∧ Qd H) ∨ (it.go i H ∧ ∃ Nx : Hp → Prop, (∀ H', Nx H' → ∃ m', m' < m ∧ W (i + 1) m' H') ∧ ∀ (x : V) (H' : Hp), it.yld i H x H' → T x H' Nx)
theorem walk_r {lo : Int} {n : Nat} (Pv : Nat → Hp → Prop) (h0 : Pv 0 Hs) (hs : ∀ (i : Nat) H, i < n → Pv i H → T (.int (lo + i)) H (Pv (i + 1))) (hd : ∀ H, Pv n H → Qd H) : WalkGoal (Itr lo n) Hs Qd T := by
  refine ⟨fun i m H => m + i = n ∧ Pv i H, ⟨n, by omega, h0⟩, ?_⟩
  rintro i m H ⟨e, p⟩
  by_cases c : i < n
  · refine .inr ⟨c, Pv (i + 1), fun H' p' => ⟨m - 1, by omega, by omega, p'⟩, ?_⟩
    rintro x H' ⟨rfl, rfl⟩
    exact hs i H' c p
  · obtain rfl : i = n := by omega
    exact .inl ⟨Nat.le_refl _, hd H p⟩
theorem walk_l (Pv : Nat → Hp → Prop) (h0 : Pv 0 Hs) (hl : ∀ i H, i ≤ xs.length → Pv i H → SqL K H a xs) (hs : ∀ (i : Nat) x H, xs[i]? = some x → Pv i H → T x H (Pv (i + 1))) (hd : ∀ H, Pv xs.length H → Qd H) : WalkGoal (Itl K a) Hs Qd T := by
  refine ⟨fun i m H => m + i = xs.length ∧ Pv i H, ⟨xs.length, by omega, h0⟩, ?_⟩
  rintro i m H ⟨e, p⟩
  have q := hl i H (by omega) p
  by_cases c : i < xs.length
  · refine .inr ⟨⟨xs, xs[i], q, List.getElem?_eq_getElem c⟩, Pv (i + 1), fun H' p' => ⟨m - 1, by omega, by omega, p'⟩, ?_⟩
    rintro x H' ⟨rfl, y⟩
    have ex := y xs q
    exact hs i x H' ex p
  · obtain rfl : i = xs.length := by omega
    exact .inl ⟨⟨xs, q, Nat.le_refl _⟩, hd H p⟩
theorem walk_t (Pv : Nat → Hp → Prop) (h0 : Pv 0 Hs) (hl : ∀ i H, i ≤ xs.length → Pv i H → SqT K H a xs) (hs : ∀ (i : Nat) x H, xs[i]? = some x → Pv i H → T x H (Pv (i + 1))) (hd : ∀ H, Pv xs.length H → Qd H) : WalkGoal (L2.Itt K a) Hs Qd T := by
  refine ⟨fun i m H => m + i = xs.length ∧ Pv i H, ⟨xs.length, by omega, h0⟩, ?_⟩
  rintro i m H ⟨e, p⟩
  have q := hl i H (by omega) p
  by_cases c : i < xs.length
  · refine .inr ⟨⟨xs, xs[i], q, List.getElem?_eq_getElem c⟩, Pv (i + 1), fun H' p' => ⟨m - 1, by omega, by omega, p'⟩, ?_⟩
    rintro x H' ⟨rfl, y⟩
    have ex := y xs q
    exact hs i x H' ex p
  · obtain rfl : i = xs.length := by omega
    exact .inl ⟨⟨xs, q, Nat.le_refl _⟩, hd H p⟩
end
/-! ## what a def hands back -/
abbrev Ret (H : Hp) (d : PyData) (Q : VK) : Prop := ∀ H' r, Fr [] H H' → Tp H' r d → Q r H'
abbrev RetL (H : Hp) (ds : List PyData) (Q : VK) : Prop := ∀ H' p ys, Fr [] H H' → H p = none → H' p = some (.lst ys) → Tps H' ys ds → Q (.ref p) H'
theorem dPs_app (a b : List Pr) : dPs (a ++ b) = dPs a ++ dPs b := List.map_append
/-! ## what a comprehension has made of the items ahead -/
section
variable {α β : Type} {as : List α} {a : α} {b : β} {i : Nat} {f : α → Option β} {en : β → PyData}
abbrev made (as : List α) (f : α → Option β) (en : β → PyData) (i : Nat) : List PyData := ((as.take i).filterMap f).map en
theorem made_some (e : as[i]? = some a) (h : f a = some b) : made as f en (i + 1) = made as f en i ++ [en b] := by
  unfold made
  rw [List.take_add_one, e, List.filterMap_append, List.map_append]
  simp [h]
theorem made_none (e : as[i]? = some a) (h : f a = none) : made as f en (i + 1) = made as f en i := by
  unfold made
  rw [List.take_add_one, e, List.filterMap_append, List.map_append]
  simp [h]
theorem made_all {n : Nat} (h : as.length ≤ n) : made as f en n = (as.filterMap f).map en := by
  unfold made
  rw [List.take_of_length_le h]
theorem range_at {n i : Nat} (h : i < n) : (List.range n)[i]? = some i := List.getElem?_range h
theorem filterMap_if (p : α → Bool) : as.filterMap (fun a => if p a = true then some a else none) = as.filter p := by
  induction as with
  | nil => rfl
  | cons x xs ih =>
    rw [List.filterMap_cons, List.filter_cons]
    cases c : p x <;> simp [ih]
theorem filterMap_one (g : α → β) : as.filterMap (fun a => some (g a)) = as.map g := by
  induction as with
  | nil => rfl
  | cons x xs ih => simp [ih]
end
/-! ## pairs of places -/
def rowUp (n a : Nat) : List Pr := (List.range (n - (a + 1))).map fun j => (a, a + 1 + j)
def pairsTo (n k : Nat) : List Pr := (List.range k).flatMap (rowUp n)
abbrev pairsOf (n : Nat) : List Pr := pairsTo n n
theorem pairsTo_succ (n k : Nat) : pairsTo n (k + 1) = pairsTo n k ++ rowUp n k := by
  unfold pairsTo
  rw [List.range_succ, List.flatMap_append]
  simp
theorem mem_rowUp {n a : Nat} {p : Pr} : p ∈ rowUp n a ↔ p.1 = a ∧ a < p.2 ∧ p.2 < n := by
  unfold rowUp
  rw [List.mem_map]
  constructor
  · rintro ⟨j, hj, rfl⟩
    have := List.mem_range.mp hj
    exact ⟨rfl, by show a < a + 1 + j; omega, by show a + 1 + j < n; omega⟩
  · rintro ⟨h1, h2, h3⟩
    refine ⟨p.2 - (a + 1), List.mem_range.mpr (by omega), ?_⟩
    obtain ⟨x, y⟩ := p
    simp only at h1 h2 h3
    subst h1
    simp only [Prod.mk.injEq, true_and]
    omega
theorem mem_pairsTo {n k : Nat} {p : Pr} : p ∈ pairsTo n k ↔ p.1 < k ∧ p.1 < p.2 ∧ p.2 < n := by
  unfold pairsTo
  rw [List.mem_flatMap]
  constructor
  · rintro ⟨a, ha, hp⟩
    have h1 := List.mem_range.mp ha
    obtain ⟨rfl, h2, h3⟩ := mem_rowUp.mp hp
    exact ⟨h1, h2, h3⟩
  · rintro ⟨h1, h2, h3⟩
    exact ⟨p.1, List.mem_range.mpr h1, mem_rowUp.mpr ⟨rfl, h2, h3⟩⟩
theorem mem_pairsOf {n : Nat} {p : Pr} : p ∈ pairsOf n ↔ p.1 < p.2 ∧ p.2 < n := by
  rw [mem_pairsTo]
  omega
theorem rowUp_len (n a : Nat) : (rowUp n a).length = n - (a + 1) := by
  unfold rowUp
  rw [List.length_map, List.length_range]
theorem pairsTo_len (n : Nat) : ∀ k, (pairsTo n k).length ≤ k * n
  | 0 => by simp [pairsTo]
  | k + 1 => by
    rw [pairsTo_succ, List.length_append, rowUp_len, Nat.add_mul]
    have := pairsTo_len n k
    omega
theorem pairsOf_len {n : Nat} (h : n ≤ 20) : (pairsOf n).length ≤ 400 := Nat.le_trans (pairsTo_len n n) (Nat.mul_le_mul h h)
theorem pairsOf_len12 : ∀ n, n ≤ 12 → (pairsOf n).length ≤ 66 := by decide
theorem pairsOf_below {n : Nat} (h : n ≤ 100) : Below 100 (pairsOf n) := fun p m => by
  have := mem_pairsOf.mp m
  omega
/-- the order of pairs -/
abbrev Up (p q : Pr) : Prop := p.1 < q.1 ∨ (p.1 = q.1 ∧ p.2 < q.2)
theorem rowUp_up (n a : Nat) : (rowUp n a).Pairwise Up := by
  unfold rowUp
  rw [List.pairwise_map]
  exact List.pairwise_lt_range.imp fun h => .inr ⟨rfl, by omega⟩
theorem pairsTo_up (n : Nat) : ∀ k, (pairsTo n k).Pairwise Up
  | 0 => by simp [pairsTo]
  | k + 1 => by
    rw [pairsTo_succ, List.pairwise_append]
    refine ⟨pairsTo_up n k, rowUp_up n k, fun p hp q hq => .inl ?_⟩
    have h1 := mem_pairsTo.mp hp
    have h2 := mem_rowUp.mp hq
    omega
theorem up_nodup {ps : List Pr} (h : ps.Pairwise Up) : ps.Nodup := h.imp fun {p q} u e => by
  subst e
  rcases u with u | u <;> omega
/-- two lists in order with the same pairs are one -/
theorem up_uniq : ∀ {ps qs : List Pr}, ps.Pairwise Up → qs.Pairwise Up → (∀ p, p ∈ ps ↔ p ∈ qs) → ps = qs
  | [], [], _, _, _ => rfl
  | [], q :: qs, _, _, h => absurd ((h q).mpr List.mem_cons_self) List.not_mem_nil
  | p :: ps, [], _, _, h => absurd ((h p).mp List.mem_cons_self) List.not_mem_nil
  | p :: ps, q :: qs, h1, h2, h => by
    have a1 := List.pairwise_cons.mp h1
    have a2 := List.pairwise_cons.mp h2
    have e : p = q := by
      rcases List.mem_cons.mp ((h p).mp List.mem_cons_self) with e | m1
      · exact e
      · rcases List.mem_cons.mp ((h q).mpr List.mem_cons_self) with e | m2
        · exact e.symm
        · have u1 := a2.1 p m1
          have u2 := a1.1 q m2
          rcases u1 with u1 | u1 <;> rcases u2 with u2 | u2 <;> omega
    subst e
    congr 1
    refine up_uniq a1.2 a2.2 fun r => ?_
    have hr := h r
    simp only [List.mem_cons] at hr
    constructor
    · intro m
      rcases hr.mp (.inr m) with e | e
      · subst e
        have := a1.1 _ m
        rcases this with u | u <;> omega
      · exact e
    · intro m
      rcases hr.mpr (.inr m) with e | e
      · subst e
        have := a2.1 _ m
        rcases this with u | u <;> omega
      · exact e
/-! ## webs -/
structure WebOk (n : Nat) (ps : List Pr) : Prop where
  lo : 1 ≤ n
  hi : n ≤ 12
  up : ps.Pairwise Up
  ins : ∀ p ∈ ps, p ∈ pairsOf n
theorem WebOk.eq {n : Nat} {ps : List Pr} (w : WebOk n ps) : (pairsOf n).filter (fun p => decide (p ∈ ps)) = ps := by
  refine up_uniq ((pairsTo_up n n).sublist List.filter_sublist) w.up fun p => ?_
  rw [List.mem_filter, decide_eq_true_iff]
  exact ⟨fun h => h.2, fun h => ⟨w.ins p h, h⟩⟩
theorem WebOk.below {n : Nat} {ps : List Pr} (w : WebOk n ps) : Below 100 ps := fun p m => by
  have := mem_pairsOf.mp (w.ins p m)
  have := w.hi
  omega
theorem WebOk.len {n : Nat} {ps : List Pr} (w : WebOk n ps) : ps.length ≤ 66 := by
  rw [← w.eq]
  exact Nat.le_trans (List.length_filter_le _ _) (pairsOf_len12 n w.hi)
theorem WebOk.sm {n : Nat} {ps : List Pr} (w : WebOk n ps) : Sm 3 60000 (dW n ps) := sm_dW (by have := w.hi; omega) w.below (by have := w.len; omega)
def opp (n : Nat) (ps : List Pr) : List Pr := (pairsOf n).filter fun p => !decide (p ∈ ps)
theorem mem_opp {n : Nat} {ps : List Pr} {p : Pr} : p ∈ opp n ps ↔ p ∈ pairsOf n ∧ p ∉ ps := by
  unfold opp
  rw [List.mem_filter]
  simp
theorem WebOk.opp {n : Nat} {ps : List Pr} (w : WebOk n ps) : WebOk n (opp n ps) :=
  ⟨w.lo, w.hi, (pairsTo_up n n).sublist List.filter_sublist, fun p m => (mem_opp.mp m).1⟩
theorem WebOk.opp2 {n : Nat} {ps : List Pr} (w : WebOk n ps) : Lt.opp n (Lt.opp n ps) = ps := by
  refine up_uniq w.opp.opp.up w.up fun p => ?_
  rw [mem_opp, mem_opp]
  constructor
  · rintro ⟨h1, h2⟩
    by_cases c : p ∈ ps
    · exact c
    · exact absurd ⟨h1, c⟩ h2
  · intro m
    exact ⟨w.ins p m, fun h => h.2 m⟩
/-! ## what is asked of webs -/
def rowOf (n : Nat) (ps : List Pr) : List Nat := (pairsOf n).map fun p => if p ∈ ps then 1 else 0
def tied (ps : List Pr) (i j : Nat) : Bool := decide ((min i j, max i j) ∈ ps)
def nbs (n : Nat) (ps : List Pr) (i : Nat) : List Nat := (List.range n).filter fun j => tied ps i j
def nums (n : Nat) (ps : List Pr) : List Nat := (List.range n).map fun i => (nbs n ps i).length
def odds (n : Nat) (ps : List Pr) : List Nat := (List.range n).filter fun i => (nbs n ps i).length % 2 == 1
theorem nbs_len (n : Nat) (ps : List Pr) (i : Nat) : (nbs n ps i).length ≤ n := by
  have := List.length_filter_le (fun j => tied ps i j) (List.range n)
  rw [List.length_range] at this
  exact this
theorem nbs_lt {n : Nat} {ps : List Pr} {i j : Nat} (h : j ∈ nbs n ps i) : j < n := List.mem_range.mp (List.mem_filter.mp h).1
theorem odds_lt {n : Nat} {ps : List Pr} {j : Nat} (h : j ∈ odds n ps) : j < n := List.mem_range.mp (List.mem_filter.mp h).1
end Lt

set_option Elab.async false
set_option linter.all false
set_option maxRecDepth 100000
set_option maxHeartbeats 4000000
namespace Lt
open PySem PySem.Spec PyProof.Rows L2
/-! ## enumerate(t), t a tuple -/
theorem enum_meets {v : Value} {o : Obj} {H : Heap → Prop} (B : Begins v o H) :
    Meets (Builtin.«enumerate.__new__» ⟨[.type "enumerate", v], []⟩) (fun _ R s => H s.heap ∧
      R (.ok (.ret (.ref (s.heap.push o).objs.size)))
        { s with heap := (s.heap.push o).push { cls := .type "enumerate", data := .fields #[.none, .bool false, .ref s.heap.objs.size, rawInt 0, .none, .none] } }) := by
  refine .of_wp fun prog w A R s z => ?_
  obtain ⟨h0, gs, dr, tk, os⟩ := s
  obtain ⟨z1, z2⟩ := z
  have sub := sub_enumerate
  have begins : ∀ {A' : Around} {E : Value → Shared → Prop} {Q : Value → Shared → Prop}, Q (.ref h0.objs.size) ⟨h0.push o, gs, dr, tk, os⟩ →
      wpAny (model prog w) A' (pyIter v) Q E ⟨h0, gs, dr, tk, os⟩ := fun q => B.iter prog w _ _ ⟨h0, gs, dr, tk, os⟩ _ z1 q
  wp_walk using begins
  refine wpAny_stack_any fun st => wpAny_pure ?_
  split
  next c _ _ _ _ _ =>
    cases (c == Value.type "enumerate") <;> (wp_walk using begins; exact ⟨_, rfl, z2⟩)
  next =>
    wp_walk using begins
    exact ⟨_, rfl, z2⟩
theorem enum_over {prog : Program} {w : World} {A : Around} {E : Value → Shared → Prop} {s : Shared} {e it t : Addr} {i : Nat} {items : Array Value} {old : Value} {Q : Option Value → Shared → Prop}
    (hh : A.handled = none) (he : IsEnum s.heap e it i old) (hit : s.heap.IsTupleIter it t i) (ht : s.heap.IsTuple t items) (hx : items[i]? = none)
    (hQ : ∀ h', Heap.ExtBut it s.heap h' → Q none { s with heap := h' }) : wpAny (model prog w) A (pyNext (.ref e)) Q E s := by
  have ty : s.TypeIs (.ref e) "enumerate" := ⟨_, he, rfl⟩
  unfold pyNext
  apply wpAny_bind
  apply wpAny_attempt
  refine wpAny_callSpecial?_slot (name := Str.ofString "__next__") ty F.slot_enumerate_next ?_
  refine wpAny_call_entry F.slot_enumerate_next ty F.entry_enumerate_next ?_ (F.args_enumerate_next_1 _)
  show wpAny _ _ (field (.ref e) 2 >>= _) _ _ _
  apply wpAny_bind
  refine wpAny_field he rfl (x := .ref it) rfl ?_
  apply wpAny_bind
  refine wpAny_nextOf_tuple_end hh hit ht hx ?_
  rintro h' x z ⟨o, ho, hc⟩
  apply wpAny_bind
  refine wpAny_isInstance (T := "StopIteration") (b := true) ⟨o, ho, hc⟩ isSubtype_stop ?_
  exact wpAny_pure (hQ _ z)
/-- the tuple at a as it stands at each turn, each item in a new pair -/
def ItE (K : PySem.W.Frag) (a : Addr) : It where
  go i H := ∃ (xs : List V) (x : V), SqT K H a xs ∧ xs[i]? = some x
  yld i H v H' := ∃ T x, v = .ref T ∧ H T = none ∧ H' = upd H T (.tup [.int (i : Nat), x]) ∧ ∀ xs, SqT K H a xs → xs[i]? = some x
  stop i H := ∃ xs : List V, SqT K H a xs ∧ xs.length ≤ i
theorem enum_turn {P : Program} {w : World} {K : PySem.W.Frag} {elts : List Expr} {kk : Nat} {tpos : Pos} (a e it : Addr) :
    Turn P w K (.Tuple elts kk tpos) (ItE K a) [e, it] e (fun i h => (∃ old, IsEnum h e it ((i : Nat) : Int) old) ∧ h.IsTupleIter it a i ∧ e ≠ it ∧ e ≠ a) where
  mem := List.mem_cons_self
  obj := by
    rintro i h ⟨⟨old, he⟩, ⟨o, ho, _, hd⟩, _⟩ b hb
    simp only [List.mem_cons, List.not_mem_nil, or_false] at hb
    rcases hb with rfl | rfl
    · exact ⟨_, he, fun v q => nomatch q⟩
    · exact ⟨o, ho, fun v q => by rw [hd] at q; cases q⟩
  keep := by
    rintro i h h' ⟨⟨old, he⟩, hi, n1, n2⟩ kp
    exact ⟨⟨old, kp e (by simp) _ he⟩, hi.at fun o q => kp it (by simp) o q, n1, n2⟩
  item := by
    rintro X rfl rfl rfl hc i pins s σ H E I hf ⟨⟨old, he⟩, hit, n1, n2⟩ ⟨xs, x, hq, hx⟩
    obtain ⟨its, rv, tp, _⟩ := I.tuple hq
    obtain ⟨u, hu, ru⟩ := rv.get hx
    have el : e < s.heap.objs.size := Heap.lt_size he
    have il : it < s.heap.objs.size := by
      obtain ⟨_, q, _⟩ := hit
      exact Heap.lt_size q
    have ai : a ≠ it := by
      intro z
      subst z
      obtain ⟨o1, q1, c1, _⟩ := hit
      obtain ⟨o2, q2, c2, _⟩ := tp
      rw [q1] at q2
      cases q2
      rw [c1] at c2
      exact absurd (Value.type.inj c2) (by decide)
    have hlt : i < its.toArray.size := by
      have := (List.getElem?_eq_some_iff.mp hu).1
      simpa using this
    have D := Draws.tuple (prog := X.prog) (w := X.w) (A := X.A.in1) (I.ok.hd hc) it a ai its.toArray
    refine wpAny_pyNext_enum_itemD D he ⟨hit, tp⟩ hlt n1 (by simp [n1, n2]) fun y h' tk hy ho st hT hsz hk => ?_
    have ey : y = u := by
      have hy' : its[i]? = some y := by simpa using hy
      rw [hu] at hy'
      exact (Option.some.inj hy').symm
    subst ey
    refine ⟨_, rfl, wpAny_letOwnedTupleGo_enum (s := { s with heap := h', toks := tk + 1 }) ho fun h'' he' sb => ?_⟩
    have hT2 : h''.get? s.heap.objs.size = some { cls := .type "tuple", data := .seq #[.int i tk, y] } := (sb.2 _ (Nat.ne_of_gt el)).trans hT
    have made : ObjOk X.prog X.w (upd H s.heap.objs.size (.tup [.int (i : Nat), x])) h'' s.heap.objs.size (.tup [.int (i : Nat), x]) :=
      ⟨by show 2 ≤ sizeLine; decide, [.int i tk, y], .cons ⟨_, rfl⟩ (.cons ru .nil), ⟨_, hT2, rfl, _, rfl⟩⟩
    have kp : ∀ b ob, b ∉ [e, it] → s.heap.get? b = some ob → h''.get? b = some ob := by
      intro b ob hb q
      simp only [List.mem_cons, List.not_mem_nil, or_false, not_or] at hb
      exact (sb.2 b hb.1).trans (hk b ob hb.1 hb.2 q)
    have I1 : Inv X pins σ (upd H s.heap.objs.size (.tup [.int (i : Nat), x])) { s with heap := h'', toks := tk + 1 } := I.turnedNew kp hf (Nat.le_refl _) made
    refine ⟨.ref s.heap.objs.size, _, I1, rfl, ⟨_, x, rfl, I.hok.fresh (Nat.le_refl _), rfl, fun ys hy => by rw [I.tuple_inj hy hq]; exact hx⟩, ⟨⟨y, ?_⟩, st.1.at fun o q => (sb.2 it (Ne.symm n1)).trans q, n1, n2⟩, ?_⟩
    · have ei : ((i + 1 : Nat) : Int) = (i : Int) + 1 := by omega
      rw [ei]
      exact he'
    · intro b hb
      have hz : b < s.heap.objs.size := by
        simp only [List.mem_cons, List.not_mem_nil, or_false] at hb
        rcases hb with rfl | rfl
        · exact el
        · exact il
      rw [upd_ne (Nat.ne_of_lt hz)]
      exact (hf b hb).1
  done := by
    rintro X rfl rfl rfl hc i pins s σ H E I hf ⟨⟨old, he⟩, hit, n1, n2⟩ ⟨xs, hq, hx⟩
    obtain ⟨its, rv, tp, _⟩ := I.tuple hq
    have ai : a ≠ it := by
      intro z
      subst z
      obtain ⟨o1, q1, c1, _⟩ := hit
      obtain ⟨o2, q2, c2, _⟩ := tp
      rw [q1] at q2
      cases q2
      rw [c1] at c2
      exact absurd (Value.type.inj c2) (by decide)
    obtain ⟨f0, f1, f2, f3, f4, f5⟩ := hf it (by simp)
    have hl := rv.length
    exact enum_over (I.ok.hd hc) he hit tp (by simp; omega) fun h' eb => ⟨rfl, I.turned (t' := s.toks) (fun b o hb q => eb b o hb q) f0 f1 f3 f4 f5⟩
  self := by
    rintro A i s Q E ⟨⟨_, he⟩, _⟩ h
    exact wpAny_pyIter_enum he h
theorem call_enumT {prog : Program} {w : World} {A : Around} {E : Value → Shared → Prop} {s : Shared} {t : Addr} {items : Array Value} {Q : Value → Shared → Prop} (hT : s.heap.IsTuple t items)
    (h : ∀ h', IsEnum h' (s.heap.objs.size + 1) s.heap.objs.size 0 .none → h'.IsTupleIter s.heap.objs.size t 0 →
      (∀ b o, s.heap.get? b = some o → h'.get? b = some o) → Q (.ref (s.heap.objs.size + 1)) { s with heap := h' }) :
    wpAny (model prog w) A (call (.type "enumerate") [.ref t]) Q E s := by
  let ob : Obj := { cls := .type "tuple_iterator", data := .fields #[.ref t, .int 0 0] }
  let en : Obj := { cls := .type "enumerate", data := .fields #[.none, .bool false, .ref s.heap.objs.size, rawInt 0, .none, .none] }
  refine callType_new F.called_enumerate (by decide) (F.typeCall_enumerate_1 _) (F.newCall_enumerate_1 _) (fun obj => F.args_object_init_2 obj _) F.entry_enumerate_new (enum_meets (begins_tuple t items)) ⟨hT, ?_⟩
  have hz : (s.heap.push ob).objs.size = s.heap.objs.size + 1 := Heap.size_push ..
  show _ ∧ _
  have he : ((s.heap.push ob).push en).get? (s.heap.objs.size + 1) = some en := by
    have z := Heap.get?_push_size (s.heap.push ob) (o := en) rfl
    rw [hz] at z
    exact z
  have kp : ∀ b o, s.heap.get? b = some o → ((s.heap.push ob).push en).get? b = some o := fun b o q => Heap.get?_push_of_some _ (Heap.get?_push_of_some _ q)
  have hi : ((s.heap.push ob).push en).get? s.heap.objs.size = some ob := Heap.get?_push_of_some _ (Heap.get?_push_size _ rfl)
  have fin := h ((s.heap.push ob).push en) he ⟨ob, hi, rfl, rfl⟩ kp
  rw [← hz] at fin he
  exact ⟨⟨en, he, rfl⟩, fin⟩
def iEnumT (K : PySem.W.Frag) (ta : TA) : TI := fun σ H R => ta σ H fun vs H1 => ∃ a xs, vs = [.ref a] ∧ SqT K H1 a xs ∧ R (ItE K a) H1
theorem pi_enumT {X : Cx} {e : Expr} {ta : TA} {p pos tpos : Pos} {elts : List Expr} {kk : Nat} (hg : Gl X "enumerate") (hm : X.mg "enumerate" = none) (ha : PA X [e] ta) (hs : starEach [e] X.env = [(false, eval e X.env)] := by rfl) :
    PI X (.Tuple elts kk tpos) (.Call (.Name "enumerate" p) [e] [] pos) (iEnumT X.K ta) := by
  constructor
  intro pins s σ H R I h
  refine Call_ (ld_blt I hg hm boot_enumerate (PyProof.Rows.callWith_type1 (thn (ha.run pos pins s σ H _ I h) ?_) hs rfl))
  rintro us s1 ⟨vs, H1, I1, r1, a, xs, rfl, hq, q⟩
  obtain ⟨u, rfl, ru⟩ := vals1 r1
  cases ru
  obtain ⟨its, rv, tp, _⟩ := I1.tuple hq
  refine call_enumT tp fun h' he hit hk => wpAny_pyIter_enum he ?_
  have I2 : Inv X pins σ H1 { s1 with heap := h' } := I1.kept (t' := s1.toks) hk
  have ea : s1.heap.objs.size + 1 ≠ a := by
    intro z
    obtain ⟨o, q, _⟩ := tp
    have h1 := Heap.lt_size q
    have h2 : s1.heap.objs.size < a := z ▸ Nat.lt_succ_self _
    exact Nat.lt_asymm h1 h2
  refine ⟨s1.heap.objs.size + 1, [s1.heap.objs.size + 1, s1.heap.objs.size], _, _, H1, rfl, I2, enum_turn a (s1.heap.objs.size + 1) s1.heap.objs.size, ⟨⟨.none, he⟩, hit, Nat.succ_ne_self _, ea⟩, ?_, q⟩
  intro b hb
  simp only [List.mem_cons, List.not_mem_nil, or_false] at hb
  have hle : s1.heap.objs.size ≤ b := by
    rcases hb with rfl | rfl
    · exact Nat.le_add_right _ _
    · exact Nat.le_refl _
  exact I1.fpOk hle (I1.hok.fresh hle)
/-- its turns -/
theorem walk_e {K : PySem.W.Frag} {Hs : Hp} {Qd : Hp → Prop} {T : V → Hp → (Hp → Prop) → Prop} {a : Addr} {xs : List V} (Pv : Nat → Hp → Prop) (h0 : Pv 0 Hs) (hl : ∀ i H, i ≤ xs.length → Pv i H → H a = some (.tup xs))
    (hs : ∀ (i : Nat) x H p, xs[i]? = some x → Pv i H → H p = none → T (.ref p) (upd H p (.tup [.int i, x])) (Pv (i + 1))) (hd : ∀ H, Pv xs.length H → Qd H) : WalkGoal (ItE K a) Hs Qd T := by
  refine ⟨fun i m H => m + i = xs.length ∧ Pv i H, ⟨xs.length, by omega, h0⟩, ?_⟩
  rintro i m H ⟨e, p⟩
  have q := SqT.of (K := K) (hl i H (by omega) p)
  by_cases c : i < xs.length
  · refine .inr ⟨⟨xs, xs[i], q, List.getElem?_eq_getElem c⟩, Pv (i + 1), fun H' p' => ⟨m - 1, by omega, by omega, p'⟩, ?_⟩
    rintro x H' ⟨t, y, rfl, nt, rfl, ey⟩
    exact hs i y H t (ey xs q) p nt
  · obtain rfl : i = xs.length := by omega
    exact .inl ⟨⟨xs, q, Nat.le_refl _⟩, hd H p⟩
/-- a comprehension over enumerate(t) -/
theorem lce {K : PySem.W.Frag} {S : List Addr} {J : Hp → Prop} {M : Nat → List PyData → Prop} {g : TG} {tt : TT} {te : TE} {vs : List Nat} {σ : Slots} {H1 : Hp} {D a : Addr} {Qd : Hp → Prop} {xs : List V}
    (C : LcC S J H1 D) (hs : H1 a = some (.tup xs)) (j0 : J H1) (m0 : M 0 [])
    (turn : ∀ i x p H ys ds, xs[i]? = some x → LcS S J M H1 D i H ys ds → H p = none → TurnGoal S J M g tt te vs σ H1 D i (.ref p) (upd H p (.tup [.int (i : Nat), x])))
    (done : ∀ H ys ds, LcS S J M H1 D xs.length H ys ds → Qd H) : LcGoal (ItE K a) g tt te vs σ H1 D Qd :=
  walk_e (K := K) (a := a) (xs := xs) (LcAny S J M H1 D) (C.zero j0 m0) (fun i H _ ⟨ys, ds, L⟩ => L.fr.tups _ _ hs) (fun i x H p hx ⟨ys, ds, L⟩ hp => turn i x p H ys ds hx L hp) (fun H ⟨ys, ds, L⟩ => done H ys ds L)
end Lt

set_option Elab.async false
set_option linter.all false
set_option maxRecDepth 100000
set_option maxHeartbeats 2000000
namespace Lt
open PySem PySem.Spec PyProof.Rows L2
/-! ## opposites, counted -/
theorem pair_of_two {n i j : Nat} (hi : i < n) (hj : j < n) : (min i j, max i j) ∈ pairsOf n ↔ i ≠ j := by
  rw [mem_pairsOf]
  show min i j < max i j ∧ max i j < n ↔ i ≠ j
  omega
theorem tied_self {n : Nat} {ps : List Pr} (w : WebOk n ps) {i : Nat} : tied ps i i = false := by
  refine decide_eq_false fun h => ?_
  have := mem_pairsOf.mp (w.ins _ h)
  simp only at this
  omega
theorem tied_opp {n : Nat} {ps : List Pr} (w : WebOk n ps) {i j : Nat} (hi : i < n) (hj : j < n) : tied (opp n ps) i j = (!decide (j = i) && !tied ps i j) := by
  unfold tied
  have h := pair_of_two hi hj
  have hm := mem_opp (n := n) (ps := ps) (p := (min i j, max i j))
  by_cases e : j = i
  · subst e
    rw [decide_eq_true rfl, decide_eq_false (fun z => (h.mp (hm.mp z).1) rfl)]
    rfl
  · rw [decide_eq_false e]
    by_cases c : (min i j, max i j) ∈ ps
    · rw [decide_eq_true c, decide_eq_false (fun z => (hm.mp z).2 c)]
      rfl
    · rw [decide_eq_false c, decide_eq_true (hm.mpr ⟨h.mpr (fun z => e z.symm), c⟩)]
      rfl
theorem filter_congr' {α : Type} {p q : α → Bool} {l : List α} (h : ∀ x ∈ l, p x = q x) : l.filter p = l.filter q := List.filter_congr h
theorem nbs_opp {n : Nat} {ps : List Pr} (w : WebOk n ps) {i : Nat} (hi : i < n) : nbs n (opp n ps) i = (List.range n).filter fun j => !decide (j = i) && !tied ps i j :=
  filter_congr' fun j m => tied_opp w hi (List.mem_range.mp m)
theorem count3 {t : Nat → Bool} {i : Nat} (hs : t i = false) : ∀ n, ((List.range n).filter t).length + ((List.range n).filter fun j => !decide (j = i) && !t j).length + (if i < n then 1 else 0) = n
  | 0 => by simp
  | n + 1 => by
    have ih := count3 hs n
    rw [List.range_succ, List.filter_append, List.filter_append, List.length_append, List.length_append]
    by_cases e : n = i
    · subst e
      have h1 : ([n].filter t) = [] := by simp [hs]
      have h2 : ([n].filter fun j => !decide (j = n) && !t j) = [] := by simp
      rw [h1, h2]
      simp only [List.length_nil, Nat.lt_irrefl, if_false, Nat.lt_succ_self, if_true] at ih ⊢
      omega
    · have h3 : (if i < n + 1 then 1 else 0) = (if i < n then 1 else 0 : Nat) := by
        by_cases c : i < n
        · rw [if_pos c, if_pos (by omega)]
        · rw [if_neg c, if_neg (by omega)]
      rw [h3]
      cases c : t n with
      | true =>
        have h1 : ([n].filter t) = [n] := by simp [c]
        have h2 : ([n].filter fun j => !decide (j = i) && !t j) = [] := by simp [c]
        rw [h1, h2]
        simp only [List.length_cons, List.length_nil]
        omega
      | false =>
        have h1 : ([n].filter t) = [] := by simp [c]
        have h2 : ([n].filter fun j => !decide (j = i) && !t j) = [n] := by simp [c, e]
        rw [h1, h2]
        simp only [List.length_cons, List.length_nil]
        omega
theorem nbs_opp_len {n : Nat} {ps : List Pr} (w : WebOk n ps) {i : Nat} (hi : i < n) : (nbs n ps i).length + (nbs n (opp n ps) i).length + 1 = n := by
  rw [nbs_opp w hi]
  have h := count3 (t := fun j => tied ps i j) (i := i) (tied_self w) n
  rw [if_pos hi] at h
  exact h
theorem nums_opp {n : Nat} {ps : List Pr} (w : WebOk n ps) : nums n (opp n ps) = (nums n ps).map fun k => n - 1 - k := by
  unfold nums
  rw [List.map_map]
  refine List.map_congr_left fun i m => ?_
  have := nbs_opp_len w (List.mem_range.mp m)
  show _ = n - 1 - (nbs n ps i).length
  omega
theorem nums_lt {n : Nat} {ps : List Pr} (w : WebOk n ps) {k : Nat} (h : k ∈ nums n ps) : k + 1 ≤ n := by
  unfold nums at h
  obtain ⟨i, m, rfl⟩ := List.mem_map.mp h
  have := nbs_opp_len w (List.mem_range.mp m)
  omega
theorem mem_odds {n : Nat} {ps : List Pr} {i : Nat} : i ∈ odds n ps ↔ i < n ∧ (nbs n ps i).length % 2 = 1 := by
  unfold odds
  rw [List.mem_filter, List.mem_range, beq_iff_eq]
theorem odds_opp_odd {n : Nat} {ps : List Pr} (w : WebOk n ps) (h : n % 2 = 1) : odds n (opp n ps) = odds n ps := by
  unfold odds
  refine filter_congr' fun i m => ?_
  have := nbs_opp_len w (List.mem_range.mp m)
  rw [Bool.eq_iff_iff, beq_iff_eq, beq_iff_eq]
  omega
theorem odds_opp_even {n : Nat} {ps : List Pr} (w : WebOk n ps) (h : n % 2 = 0) : odds n (opp n ps) = (List.range n).filter fun i => !decide (i ∈ odds n ps) := by
  unfold odds
  refine filter_congr' fun i m => ?_
  have := nbs_opp_len w (List.mem_range.mp m)
  have hm := mem_odds (n := n) (ps := ps) (i := i)
  have hi := List.mem_range.mp m
  rw [Bool.eq_iff_iff, beq_iff_eq, Bool.not_eq_true', decide_eq_false_iff_not]
  show _ ↔ ¬ i ∈ odds n ps
  rw [hm]
  omega
theorem opp_len {n : Nat} {ps : List Pr} (w : WebOk n ps) : ps.length + (opp n ps).length = (pairsOf n).length := by
  have h : ∀ l : List Pr, (l.filter fun p => decide (p ∈ ps)).length + (l.filter fun p => !decide (p ∈ ps)).length = l.length := by
    intro l
    induction l with
    | nil => rfl
    | cons x xs ih =>
      rw [List.filter_cons, List.filter_cons]
      by_cases c : x ∈ ps
      · simp only [c, decide_true, if_true, Bool.not_true, Bool.false_eq_true, if_false, List.length_cons]
        omega
      · simp only [c, decide_false, Bool.false_eq_true, if_false, Bool.not_false, if_true, List.length_cons]
        omega
  have := h (pairsOf n)
  rw [w.eq] at this
  exact this
theorem row_opp {n : Nat} {ps : List Pr} : rowOf n (opp n ps) = (rowOf n ps).map fun k => 1 - k := by
  unfold rowOf
  rw [List.map_map]
  refine List.map_congr_left fun p m => ?_
  show (if p ∈ opp n ps then 1 else 0) = 1 - (if p ∈ ps then 1 else 0)
  have := mem_opp (n := n) (ps := ps) (p := p)
  by_cases c : p ∈ ps
  · rw [if_pos c, if_neg (fun z => (this.mp z).2 c)]
  · rw [if_neg c, if_pos (this.mpr ⟨m, c⟩)]
theorem row_le {n : Nat} {ps : List Pr} {k : Nat} (h : k ∈ rowOf n ps) : k ≤ 1 := by
  unfold rowOf at h
  obtain ⟨p, m, rfl⟩ := List.mem_map.mp h
  split <;> omega
theorem row_len (n : Nat) (ps : List Pr) : (rowOf n ps).length = (pairsOf n).length := List.length_map ..
theorem opp_inj {n : Nat} {ps qs : List Pr} (w : WebOk n ps) (w' : WebOk n qs) (h : opp n ps = opp n qs) : ps = qs := by
  rw [← w.opp2, h, w'.opp2]
/-- a dP-web's equality -/
theorem dW_inj {n m : Nat} {ps qs : List Pr} (h : dW n ps = dW m qs) : n = m ∧ ps = qs := by
  simp only [dW, PyData.tuple.injEq, List.cons.injEq, PyData.int.injEq, and_true] at h
  exact ⟨by omega, dPs_inj h.2⟩
theorem cln_dW (n : Nat) (ps : List Pr) : cln (dW n ps) = true := by
  show (true && (clnAll (dPs ps) && true)) = true
  rw [cln_dPs]
  rfl
theorem eqv_dW {n m : Nat} {ps qs : List Pr} : PyData.eqv (dW n ps) (dW m qs) = decide (n = m ∧ ps = qs) := by
  rw [Bool.eq_iff_iff, eqv_iff (cln_dW _ _) (cln_dW _ _), decide_eq_true_iff]
  constructor
  · exact dW_inj
  · rintro ⟨rfl, rfl⟩
    rfl
end Lt

set_option Elab.async false
set_option linter.all false
set_option maxRecDepth 100000
set_option maxHeartbeats 4000000
namespace Lt
open PySem PySem.Spec PyProof.Rows L2
/-! ## zip(l, t), l a list, t a tuple -/
/-- the list at a and the tuple at b as they stand at each turn, the items in new pairs -/
def ItzM (K : PySem.W.Frag) (a b : Addr) : It :=
  ⟨fun i H => ∃ (xs ys : List V) (x y : V), SqL K H a xs ∧ SqT K H b ys ∧ xs[i]? = some x ∧ ys[i]? = some y,
    fun i H v H' => ∃ T x y, v = .ref T ∧ H T = none ∧ H' = upd H T (.tup [x, y]) ∧ (∀ xs, SqL K H a xs → xs[i]? = some x) ∧ ∀ ys, SqT K H b ys → ys[i]? = some y,
    fun i H => ∃ xs ys : List V, SqL K H a xs ∧ SqT K H b ys ∧ xs.length = i ∧ ys.length = i⟩
theorem sep_of {z TI TO i1 i2 a b : Addr} (D : ZipApart z TI TO i1 i2 a b) : ZipSep2 z TI TO i1 i2 [i1, a] [i2, b] where
  TIz := D.TIz
  TOz := D.TOz
  TITO := D.TITO
  TIi1 := D.TIi1
  mem1 := by simp
  zf1 := by simp [D.i1z.symm, D.l1z.symm]
  Tf1 := by simp [D.TOi1, D.l1TO.symm]
  TIi2 := D.TIi2
  mem2 := by simp
  zf2 := by simp [D.i2z.symm, D.l2z.symm]
  Tf2 := by simp [D.TOi2, D.l2TO.symm]
  sep1_2 := by simp [D.i12, D.l2i1.symm]
  sep2_1 := by simp [D.i12.symm, D.l1i2.symm]
theorem turn_zipM {P : Program} {w : World} {K : PySem.W.Frag} {elts : List Expr} {kk : Nat} {tpos : Pos} {a b z TI TO i1 i2 : Addr} (D : ZipApart z TI TO i1 i2 a b) :
    Turn P w K (.Tuple elts kk tpos) (ItzM K a b) [z, TI, TO, i1, i2] z (fun i h => IsZip h z TI TO .none ∧ IsTupOf2 h TI (.ref i1) (.ref i2) ∧ (∃ x y, IsTupOf2 h TO x y) ∧ h.IsListIter i1 a i ∧ h.IsTupleIter i2 b i) where
  mem := by simp
  obj := fun i h st c hc => by
    obtain ⟨hz, hTI, ⟨x, y, hTO⟩, ⟨o1, e1, _, d1⟩, ⟨o2, e2, _, d2⟩⟩ := st
    have e' : c = z ∨ c = TI ∨ c = TO ∨ c = i1 ∨ c = i2 := by simpa using hc
    rcases e' with q | q | q | q | q
    · rw [q]; exact ⟨_, hz, fun v q => nomatch q⟩
    · rw [q]; exact ⟨_, hTI, fun v q => nomatch q⟩
    · rw [q]; exact ⟨_, hTO, fun v q => nomatch q⟩
    · rw [q]; exact ⟨o1, e1, fun v q => by rw [d1] at q; cases q⟩
    · rw [q]; exact ⟨o2, e2, fun v q => by rw [d2] at q; cases q⟩
  keep := fun i h h' st k => by
    obtain ⟨hz, hTI, ⟨x, y, hTO⟩, h1, h2⟩ := st
    exact ⟨k z (by simp) _ hz, k TI (by simp) _ hTI, ⟨x, y, k TO (by simp) _ hTO⟩, h1.at fun o q => k i1 (by simp) o q, h2.at fun o q => k i2 (by simp) o q⟩
  item := by
    intro X hP hw hK hc i pins s σ H E I hf st hg
    subst hP hw hK
    obtain ⟨hz, hTI, ⟨x0, y0, hTO⟩, h1, h2⟩ := st
    obtain ⟨xs, ys, x, y, hqx, hqy, hx, hy⟩ := hg
    obtain ⟨its, rv, p, _⟩ := I.list hqx
    obtain ⟨its2, rv2, p2, _⟩ := I.tuple hqy
    obtain ⟨u, hu, ru⟩ := rv.get hx
    obtain ⟨u2, hu2, ru2⟩ := rv2.get hy
    have hzl : z < s.heap.objs.size := Heap.lt_size hz
    have D1 := Draws.list (prog := X.prog) (w := X.w) (A := X.A.in1) (I.ok.hd hc) i1 a D.l1i1 its.toArray
    have D2 := Draws.tuple (prog := X.prog) (w := X.w) (A := X.A.in1) (I.ok.hd hc) i2 b D.l2i2 its2.toArray
    have hlt1 : i < its.toArray.size := by
      have := (List.getElem?_eq_some_iff.mp hu).1
      simpa using this
    have hlt2 : i < its2.toArray.size := by
      have := (List.getElem?_eq_some_iff.mp hu2).1
      simpa using this
    refine wpAny_pyNext_zipD2_item (sep_of D) D1 D2 hz hTI hTO ⟨h1, p.isList⟩ ⟨h2, p2⟩ hlt1 hlt2 fun v1 v2 h' tk hv1 hv2 z' TO' st1' st2' hT hsz hk => ?_
    have e1 : v1 = u := by
      have hy' : its[i]? = some v1 := by simpa using hv1
      rw [hu] at hy'
      exact (Option.some.inj hy').symm
    have e2 : v2 = u2 := by
      have hy' : its2[i]? = some v2 := by simpa using hv2
      rw [hu2] at hy'
      exact (Option.some.inj hy').symm
    subst e1 e2
    refine ⟨_, rfl, wpAny_letOwnedTupleGo_zip (s := { s with heap := h', toks := tk }) z' fun h'' z'' sb => ?_⟩
    have hT2 : h''.get? s.heap.objs.size = some { cls := .type "tuple", data := .seq #[v1, v2] } := (sb.2 _ (Nat.ne_of_gt hzl)).trans hT
    have new : ObjOk X.prog X.w (upd H s.heap.objs.size (.tup [x, y])) h'' s.heap.objs.size (.tup [x, y]) :=
      ⟨by show 2 ≤ sizeLine; decide, [v1, v2], .cons ru (.cons ru2 .nil), ⟨_, hT2, rfl, _, rfl⟩⟩
    have I1 : Inv X pins σ (upd H s.heap.objs.size (.tup [x, y])) { s with heap := h'', toks := tk } :=
      I.turnedNew (t' := tk) (ch := [z, TI, TO, i1, i2]) (fun c o hb q => (sb.2 c (fun q' => hb (by simp [q']))).trans (hk c o (fun q' => hb (by simp [q'])) (fun q' => hb (by simp [q'])) (fun q' => hb (by simp [q'])) (fun q' => hb (by simp [q'])) q)) hf (Nat.le_refl _) new
    refine ⟨.ref s.heap.objs.size, _, I1, rfl, ⟨_, x, y, rfl, I.hok.fresh (Nat.le_refl _), rfl, fun l hl => by rw [I.list_inj hl hqx]; exact hx, fun l hl => by rw [I.tuple_inj hl hqy]; exact hy⟩, ⟨z'', ?_, ⟨v1, v2, ?_⟩, ?_, ?_⟩, fun c hcm => ?_⟩
    · exact (sb.2 _ D.TIz).trans (hk _ _ D.TIz D.TITO D.TIi1 D.TIi2 hTI)
    · exact (sb.2 _ D.TOz).trans TO'
    · exact st1'.1.at fun o q => (sb.2 _ D.i1z).trans q
    · exact st2'.1.at fun o q => (sb.2 _ D.i2z).trans q
    · have hlt : c < s.heap.objs.size := by
        have e' : c = z ∨ c = TI ∨ c = TO ∨ c = i1 ∨ c = i2 := by simpa using hcm
        rcases e' with q | q | q | q | q
        · rw [q]; exact hzl
        · rw [q]; exact Heap.lt_size hTI
        · rw [q]; exact Heap.lt_size hTO
        · rw [q]; obtain ⟨_, e1, _⟩ := h1; exact Heap.lt_size e1
        · rw [q]; obtain ⟨_, e2, _⟩ := h2; exact Heap.lt_size e2
      rw [upd_ne (Nat.ne_of_lt hlt)]
      exact (hf c hcm).1
  done := by
    intro X hP hw hK hc i pins s σ H E I hf st hg
    subst hP hw hK
    obtain ⟨hz, hTI, ⟨x0, y0, hTO⟩, h1, h2⟩ := st
    obtain ⟨xs, ys, hqx, hqy, ex, ey⟩ := hg
    obtain ⟨its, rv, p, _⟩ := I.list hqx
    obtain ⟨its2, rv2, p2, _⟩ := I.tuple hqy
    have l1 := rv.length
    have l2 := rv2.length
    have D1 := Draws.list (prog := X.prog) (w := X.w) (A := X.A.in1) (I.ok.hd hc) i1 a D.l1i1 its.toArray
    have D2 := Draws.tuple (prog := X.prog) (w := X.w) (A := X.A.in1) (I.ok.hd hc) i2 b D.l2i2 its2.toArray
    refine wpAny_pyNext_zipD2_end (sep_of D) D1 D2 hz hTI hTO ⟨h1, p.isList⟩ ⟨h2, p2⟩ (by simp; omega) (by simp; omega) (.inl (by simp; omega)) fun h' tk hk => ⟨rfl, I.turnedL (t' := tk) (ch := [z, TI, TO, i1, i2]) (fun c o hb q =>
      hk c o (fun q' => hb (by simp [q'])) (fun q' => hb (by simp [q'])) (fun q' => hb (by simp [q'])) (fun q' => hb (by simp [q'])) q) hf⟩
  self := fun A i s Q E st h => wpAny_pyIter_zip st.1 h
def iZipM (K : PySem.W.Frag) (ta : TA) : TI := fun σ H R => ta σ H fun vs H1 => ∃ a b xs ys, vs = [.ref a, .ref b] ∧ SqL K H1 a xs ∧ SqT K H1 b ys ∧ R (ItzM K a b) H1
theorem pi_zipM {X : Cx} {e e2 : Expr} {ta : TA} {p pos tpos : Pos} {elts : List Expr} {kk : Nat} (hg : Gl X "zip") (hm : X.mg "zip" = none) (ha : PA X [e, e2] ta)
    (hs : starEach [e, e2] X.env = (false, eval e X.env) :: starEach [e2] X.env := by rfl) (hpl : (backTo pos (starEach [e2] X.env)).any (·.1) = false := by rfl) :
    PI X (.Tuple elts kk tpos) (.Call (.Name "zip" p) [e, e2] [] pos) (iZipM X.K ta) := by
  refine ⟨fun pins s σ H R I h => ?_⟩
  refine Call_ (ld_blt I hg hm PyProof.Rows.boot_zip (PyProof.Rows.callWith_type1 (thn (ha.run pos pins s σ H _ I h) fun us s1 ⟨vs, H1, I1, r1, q1⟩ => ?_) hs hpl))
  obtain ⟨a, b, xs, ys, ex, hqx, hqy, q⟩ := q1
  subst ex
  cases r1 with
  | cons r rr =>
    cases rr with
    | cons r' rr =>
      cases rr
      cases r
      cases r'
      have fresh5 : ∀ c, c ∈ [s1.heap.objs.size + 4, s1.heap.objs.size + 2, s1.heap.objs.size + 3, s1.heap.objs.size, s1.heap.objs.size + 1] → FpOk X pins H1 c := fun c hcm => by
        have e' : c = s1.heap.objs.size + 4 ∨ c = s1.heap.objs.size + 2 ∨ c = s1.heap.objs.size + 3 ∨ c = s1.heap.objs.size ∨ c = s1.heap.objs.size + 1 := by simpa using hcm
        have hle : s1.heap.objs.size ≤ c := by
          rcases e' with z | z | z | z | z
          · rw [z]; exact Nat.le_add_right _ _
          · rw [z]; exact Nat.le_add_right _ _
          · rw [z]; exact Nat.le_add_right _ _
          · rw [z]; exact Nat.le_refl _
          · rw [z]; exact Nat.le_add_right _ _
        exact I1.fpOk hle (I1.hok.fresh hle)
      obtain ⟨its, rv, p1, _⟩ := I1.list hqx
      obtain ⟨its2, rv2, p2, _⟩ := I1.tuple hqy
      obtain ⟨o2, ho2, _⟩ := id p2
      refine zip_begins2 (begins_list a its.toArray) (begins_tuple b its2.toArray) p1.isList p2 fun h' hz hTI hTO h1 h2 hsz hk => wpAny_pyIter_zip hz ?_
      have I2 : Inv X pins σ H1 { s1 with heap := h' } := I1.kept (t' := s1.toks) hk
      exact ⟨s1.heap.objs.size + 4, [s1.heap.objs.size + 4, s1.heap.objs.size + 2, s1.heap.objs.size + 3, s1.heap.objs.size, s1.heap.objs.size + 1], _, _, H1, rfl, I2, turn_zipM (PySem.W.ktu_apart s1.heap.objs.size a b p1.lt (Heap.lt_size ho2)),
        ⟨hz, hTI, ⟨_, _, hTO⟩, ⟨_, h1, rfl, rfl⟩, ⟨_, h2, rfl, rfl⟩⟩, fresh5, q⟩
/-- its turns -/
theorem walk_z {K : PySem.W.Frag} {Hs : Hp} {Qd : Hp → Prop} {T : V → Hp → (Hp → Prop) → Prop} {a b : Addr} {xs ys : List V} (Pv : Nat → Hp → Prop) (h0 : Pv 0 Hs) (hl : ∀ i H, i ≤ xs.length → Pv i H → SqL K H a xs ∧ H b = some (.tup ys)) (hxy : xs.length = ys.length)
    (hs : ∀ (i : Nat) x y H p, xs[i]? = some x → ys[i]? = some y → Pv i H → H p = none → T (.ref p) (upd H p (.tup [x, y])) (Pv (i + 1))) (hd : ∀ H, Pv xs.length H → Qd H) : WalkGoal (ItzM K a b) Hs Qd T := by
  refine ⟨fun i m H => m + i = xs.length ∧ Pv i H, ⟨xs.length, by omega, h0⟩, ?_⟩
  rintro i m H ⟨e, p⟩
  obtain ⟨q1, q2⟩ := hl i H (by omega) p
  have q2 := SqT.of (K := K) q2
  by_cases c : i < xs.length
  · refine .inr ⟨⟨xs, ys, xs[i], ys[i], q1, q2, List.getElem?_eq_getElem c, List.getElem?_eq_getElem (by omega)⟩, Pv (i + 1), fun H' p' => ⟨m - 1, by omega, by omega, p'⟩, ?_⟩
    rintro x H' ⟨t, y, z, rfl, nt, rfl, ey, ez⟩
    exact hs i y z H t (ey xs q1) (ez ys q2) p nt
  · obtain rfl : i = xs.length := by omega
    exact .inl ⟨⟨xs, ys, q1, q2, rfl, hxy.symm⟩, hd H p⟩
/-- a comprehension over zip(l, t) -/
theorem lcz {K : PySem.W.Frag} {S : List Addr} {J : Hp → Prop} {M : Nat → List PyData → Prop} {g : TG} {tt : TT} {te : TE} {vs : List Nat} {σ : Slots} {H1 : Hp} {D a b : Addr} {Qd : Hp → Prop} {xs ys : List V}
    (C : LcC S J H1 D) (ha : SqL K H1 a xs) (na : a ∉ S) (hb : H1 b = some (.tup ys)) (hxy : xs.length = ys.length) (j0 : J H1) (m0 : M 0 [])
    (turn : ∀ i x y p H zs ds, xs[i]? = some x → ys[i]? = some y → LcS S J M H1 D i H zs ds → H p = none → TurnGoal S J M g tt te vs σ H1 D i (.ref p) (upd H p (.tup [x, y])))
    (done : ∀ H zs ds, LcS S J M H1 D xs.length H zs ds → Qd H) : LcGoal (ItzM K a b) g tt te vs σ H1 D Qd :=
  walk_z (K := K) (a := a) (b := b) (xs := xs) (ys := ys) (LcAny S J M H1 D) (C.zero j0 m0) (fun i H _ ⟨zs, ds, L⟩ => ⟨L.fr.seqL na ha, L.fr.tups _ _ hb⟩) hxy (fun i x y H p hx hy ⟨zs, ds, L⟩ hp => turn i x y p H zs ds hx hy L hp) (fun H ⟨zs, ds, L⟩ => done H zs ds L)
/-! ## sum of a tuple of ints -/
def rSumT (K : PySem.W.Frag) : List V → Hp → VK → Prop := fun vs H Q => ∃ (a : Addr) (ns : List Int), vs = [V.ref a] ∧ SqT K H a (ns.map V.int) ∧ Q (.int ns.sum) H
theorem cr_sumT {X : Cx} (hc : X.calm = true) : CallR X (.builtin "sum") (rSumT X.K) := by
  intro pins s σ H vs us Q I r h
  obtain ⟨a, ns, rfl, hs, q⟩ := h
  obtain ⟨its, rv, hl, _⟩ := I.tuple hs
  rw [Vals.ref1 r]
  have hi := rv.ints
  obtain ⟨xs, e⟩ := hi.allInts.items
  have hn : numsOf (intItems xs).toList = ns := by rw [← e]; exact hi.numsOf
  rw [nums_intItems] at hn
  have hl : s.heap.IsTuple a its.toArray := hl
  rw [e] at hl
  refine PySem.W.ktm_sumG (I.ok.hd hc) hl fun h' tk t' hk => ?_
  rw [preSum_eq, List.take_of_length_le (by simp), hn]
  exact ⟨.int _, H, I.kept hk, ⟨_, rfl⟩, q⟩
theorem sumTK {X : Cx} (K : PySem.W.Frag) (hc : X.calm = true) (h : X.K = K := by rfl) : CallR X (.builtin "sum") (rSumT K) := h ▸ cr_sumT hc
end Lt

set_option Elab.async false
set_option linter.all false
set_option maxRecDepth 100000
set_option maxHeartbeats 4000000
namespace Lt
open PySem PySem.Spec PyProof.Rows L2
/-! ## tables: lists of lists of bools -/
abbrev rowV (n : Nat) (g : Nat → Bool) : List V := (List.range n).map fun j => V.bl (g j)
/-- the table at a: its n rows of n bools each -/
structure Tab (H : Hp) (a : Addr) (rows : List Addr) (n : Nat) (f : Nat → Nat → Bool) : Prop where
  at_ : H a = some (.lst (rows.map V.ref))
  len : rows.length = n
  nd : rows.Nodup
  off : a ∉ rows
  row : ∀ i b, rows[i]? = some b → H b = some (.lst (rowV n (f i)))
theorem rowV_at {n j : Nat} {g : Nat → Bool} (h : j < n) : (rowV n g)[j]? = some (.bl (g j)) := by
  unfold rowV
  rw [List.getElem?_map, List.getElem?_range h]
  rfl
theorem rowV_len (n : Nat) (g : Nat → Bool) : (rowV n g).length = n := by
  unfold rowV
  rw [List.length_map, List.length_range]
theorem rowV_set {n j : Nat} {g : Nat → Bool} {x : Bool} : (rowV n g).set j (.bl x) = rowV n (fun k => if k = j then x else g k) := by
  apply List.ext_getElem?
  intro k
  rw [List.getElem?_set]
  unfold rowV
  rw [List.getElem?_map, List.getElem?_map]
  by_cases hk : k < n
  · rw [List.getElem?_range hk]
    by_cases e : j = k
    · subst e
      simp [hk]
    · simp [e, Ne.symm e]
  · rw [List.getElem?_eq_none (by rw [List.length_range]; omega)]
    by_cases e : j = k
    · subst e
      simp [hk]
    · simp [e]
theorem rowV_congr {n : Nat} {g g' : Nat → Bool} (h : ∀ j, j < n → g j = g' j) : rowV n g = rowV n g' := by
  unfold rowV
  exact List.map_congr_left fun j m => by rw [h j (List.mem_range.mp m)]
section
variable {H H' : Hp} {a b : Addr} {rows : List Addr} {n : Nat} {f g : Nat → Nat → Bool} {S : List Addr}
theorem Tab.fr (t : Tab H a rows n f) (h : Fr S H H') (ha : a ∉ S) (hr : ∀ b ∈ rows, b ∉ S) : Tab H' a rows n f :=
  ⟨h.keep _ _ t.at_ ha, t.len, t.nd, t.off, fun i b e => h.keep _ _ (t.row i b e) (hr b (List.mem_of_getElem? e))⟩
theorem Tab.fr0 (t : Tab H a rows n f) (h : Fr [] H H') : Tab H' a rows n f := t.fr h List.not_mem_nil fun _ _ => List.not_mem_nil
theorem Tab.ext (t : Tab H a rows n f) (h : ∀ i j, i < n → j < n → f i j = g i j) : Tab H a rows n g :=
  ⟨t.at_, t.len, t.nd, t.off, fun i b e => by
    have hi : i < n := by
      have := (List.getElem?_eq_some_iff.mp e).1
      have := t.len
      omega
    rw [← rowV_congr (h i · hi)]
    exact t.row i b e⟩
theorem Tab.get (t : Tab H a rows n f) {i : Nat} (hi : i < n) : ∃ b, rows[i]? = some b ∧ (rows.map V.ref)[i]? = some (V.ref b) ∧ H b = some (.lst (rowV n (f i))) := by
  have hl : i < rows.length := by rw [t.len]; exact hi
  refine ⟨rows[i], List.getElem?_eq_getElem hl, ?_, t.row i _ (List.getElem?_eq_getElem hl)⟩
  rw [List.getElem?_map, List.getElem?_eq_getElem hl]
  rfl
def setF (f : Nat → Nat → Bool) (i j : Nat) (x : Bool) : Nat → Nat → Bool := fun p q => if p = i ∧ q = j then x else f p q
theorem Tab.put (t : Tab H a rows n f) {i j : Nat} {x : Bool} (hb : rows[i]? = some b) : Tab (upd H b (.lst ((rowV n (f i)).set j (.bl x)))) a rows n (setF f i j x) := by
  have mb := List.mem_of_getElem? hb
  have na : a ≠ b := fun z => t.off (z ▸ mb)
  refine ⟨by rw [upd_ne na]; exact t.at_, t.len, t.nd, t.off, fun k c e => ?_⟩
  by_cases hk : k = i
  · subst hk
    rw [hb] at e
    cases e
    rw [upd_same, rowV_set]
    congr 2
    refine rowV_congr fun q _ => ?_
    unfold setF
    simp
  · have ne : c ≠ b := by
      intro z
      subst z
      have h1 := (List.getElem?_eq_some_iff.mp e)
      have h2 := (List.getElem?_eq_some_iff.mp hb)
      exact hk ((List.getElem_inj t.nd).mp (h1.2.trans h2.2.symm))
    rw [upd_ne ne, t.row k c e]
    congr 2
    refine rowV_congr fun q _ => ?_
    unfold setF
    simp [hk]
theorem Tab.putFr (t : Tab H a rows n f) {i j : Nat} {x : Bool} (hb : rows[i]? = some b) : Fr rows H (upd H b (.lst ((rowV n (f i)).set j (.bl x)))) :=
  Fr.refl.set (.inr (List.mem_of_getElem? hb)) (fun xs z => by rw [t.row i b hb] at z; cases z)
theorem ix_of {n : Nat} {g : Nat → Bool} {j : Nat} (h : j < n) : ixN (rowV n g).length (j : Int) = some j := by
  rw [rowV_len]
  unfold ixN
  rw [if_pos (by omega), if_pos (by omega)]
  simp
/-- what stood ahead is as it was, if only new cells were changed -/
theorem Fr.drop {H0 H1 H2 : Hp} (h1 : Fr [] H0 H1) (h2 : Fr S H1 H2) (n : ∀ b ∈ S, H0 b = none) : Fr [] H0 H2 :=
  ⟨fun b o e _ => h2.keep b o (h1.keep b o e List.not_mem_nil) fun m => (by rw [n b m] at e; cases e), fun b xs e => h2.tups b xs (h1.tups b xs e), fun b e => h2.live b (h1.live b e)⟩
end
/-! ## what stands in the tables -/
theorem tied_snoc {ps : List Pr} {p : Pr} (hp : p.1 < p.2) (i j : Nat) : setF (setF (tied ps) p.1 p.2 true) p.2 p.1 true i j = tied (ps ++ [p]) i j := by
  unfold setF tied
  obtain ⟨a, b⟩ := p
  simp only at hp
  by_cases c1 : i = b ∧ j = a
  · simp only [c1, and_self, if_true]
    symm
    rw [decide_eq_true_iff, List.mem_append]
    right
    rw [List.mem_singleton]
    simp only [Prod.mk.injEq]
    omega
  · rw [if_neg c1]
    by_cases c2 : i = a ∧ j = b
    · simp only [c2, and_self, if_true]
      symm
      rw [decide_eq_true_iff, List.mem_append]
      right
      rw [List.mem_singleton]
      simp only [Prod.mk.injEq]
      omega
    · rw [if_neg c2]
      congr 1
      apply propext
      rw [List.mem_append, List.mem_singleton]
      constructor
      · exact fun h => .inl h
      · rintro (h | h)
        · exact h
        · simp only [Prod.mk.injEq] at h
          omega
def fromT (n : Nat) (f : Nat → Nat → Bool) : List Pr := (pairsOf n).filter fun p => f p.1 p.2
theorem fromT_tied {n : Nat} {ps : List Pr} (w : WebOk n ps) : fromT n (tied ps) = ps := by
  unfold fromT
  refine Eq.trans (filter_congr' fun p m => ?_) w.eq
  unfold tied
  have := mem_pairsOf.mp m
  have e : (min p.1 p.2, max p.1 p.2) = p := by
    obtain ⟨a, b⟩ := p
    simp only at this
    simp only [Prod.mk.injEq]
    omega
  rw [e]
theorem fromT_ok {n : Nat} (f : Nat → Nat → Bool) (h1 : 1 ≤ n) (h2 : n ≤ 12) : WebOk n (fromT n f) :=
  ⟨h1, h2, (pairsTo_up n n).sublist List.filter_sublist, fun p m => (List.mem_filter.mp m).1⟩
/-- whether p tells i and j apart in a table -/
def tellB (f : Nat → Nat → Bool) (p i j : Nat) : Bool := !decide (p = i ∨ p = j) && (f p i != f p j)
/-- what a deed's four changes do -/
def flipP (f : Nat → Nat → Bool) (s p : Nat) : Nat → Nat → Bool := setF (setF f s p (!f s p)) p s (!f s p)
def outF (f : Nat → Nat → Bool) (S Ps : List Nat) : Nat → Nat → Bool := S.foldl (fun f s => Ps.foldl (fun f p => flipP f s p) f) f
def handF (f : Nat → Nat → Bool) (a d b c : Nat) : Nat → Nat → Bool := outF f [a, d] [b, c]
end Lt

set_option Elab.async false
set_option linter.all false
set_option maxRecDepth 100000
set_option maxHeartbeats 4000000
namespace Lt
open PySem PySem.Spec PyProof.Rows L2
theorem allK {X : Cx} (K : PySem.W.Frag) (hc : X.calm = true) (h : X.K = K := by rfl) : CallR X (.builtin "all") (rAll K) := h ▸ cr_all hc
/-- len(set(t)), t a tuple of ints -/
def tLenSetT (K : PySem.W.Frag) (ta : TE) : TE := fun σ H Q => ta σ H fun x H1 => ∃ (l : Addr) (ns : List Int), x = V.ref l ∧ SqT K H1 l (ns.map V.int) ∧ ns.length ≤ 1000 ∧ ∀ L : List Int, L.Nodup → (∀ k, k ∈ L ↔ k ∈ ns) → Q (.int (L.length : Nat)) H1
theorem pe_lenSetT' {X : Cx} {a : Expr} {ta : TE} {p p2 q pos : Pos} (hc : X.calm = true) (hg : Gl X "len") (hm : X.mg "len" = none) (hg2 : Gl X "set") (hm2 : X.mg "set" = none) (ha : PE X a ta)
    (na : starEach [a] X.env = (false, eval a X.env) :: starEach [] X.env := by rfl) : PE X (.Call (.Name "len" p) [.Call (.Name "set" p2) [a] [] q] [] pos) (tLenSetT X.K ta) := by
  refine ⟨fun pins s σ H Q I h => ?_⟩
  refine Call_ (ld_blt I hg hm PySem.boot_len ?_)
  refine PyProof.Rows.callWith_builtin1 (PyProof.Rows.args_cons ?_ rfl) rfl rfl
  refine Call_ (ld_blt I hg2 hm2 PyProof.Rows.boot_set ?_)
  refine PyProof.Rows.callWith_type1 (PyProof.Rows.args_cons (thn (ha.run pins s σ H _ I h) fun v s1 ⟨x, H1, I1, r1, q1⟩ => PyProof.Rows.args_nil ?_) na) na rfl
  obtain ⟨l, ns, rfl, hq, h1, q1⟩ := q1
  cases r1
  obtain ⟨its, r, pl, hz⟩ := I1.tuple hq
  have pl : s1.heap.IsTuple l its.toArray := pl
  refine call_set_tupI ns (I1.ok.hd hc) pl (by simpa using r.ints) (by unfold scanBound; omega) fun h' tk c hS hcn hk => ?_
  refine PyProof.Rows.args_nil ?_
  obtain ⟨o, es, ep, t, ho, hex, hd, _, hnd, hmem, hb, hf, hn, _, _⟩ := hS
  have I2 : Inv X pins σ H1 { s1 with heap := h', toks := tk } := I1.kept (t' := tk) hk
  have hl : (es.toList.map keyOf).length = es.size := by rw [List.length_map, Array.length_toList]
  have q2 := q1 (es.toList.map keyOf) hnd fun k => by
    rw [← hmem k]
    exact decide_eq_true_iff
  rw [hl] at q2
  exact call_len_set ho hex hd hf (by unfold scanBound at hb; omega) ⟨.int es.size, H1, I2.tok _, ⟨_, rfl⟩, q2⟩
theorem pe_lenSetT {X : Cx} {a : Expr} {ta : TE} {p p2 q pos : Pos} (K : PySem.W.Frag) (hc : X.calm = true) (hg : Gl X "len") (hm : X.mg "len" = none) (hg2 : Gl X "set") (hm2 : X.mg "set" = none) (ha : PE X a ta)
    (na : starEach [a] X.env = (false, eval a X.env) :: starEach [] X.env := by rfl) (h : X.K = K := by rfl) : PE X (.Call (.Name "len" p) [.Call (.Name "set" p2) [a] [] q] [] pos) (tLenSetT K ta) := h ▸ pe_lenSetT' hc hg hm hg2 hm2 ha na
theorem fewer : ∀ {ns : List Int}, ¬ ns.Nodup → ∃ ms : List Int, ms.length < ns.length ∧ ∀ k ∈ ns, k ∈ ms
  | [], h => absurd List.nodup_nil h
  | x :: ns, h => by
    by_cases c : x ∈ ns
    · refine ⟨ns, Nat.lt_succ_self _, fun k m => ?_⟩
      rcases List.mem_cons.mp m with rfl | m
      · exact c
      · exact m
    · obtain ⟨ms, h1, h2⟩ := fewer (ns := ns) fun z => h (List.nodup_cons.mpr ⟨c, z⟩)
      refine ⟨x :: ms, by rw [List.length_cons, List.length_cons]; omega, fun k m => ?_⟩
      rcases List.mem_cons.mp m with rfl | m
      · exact List.mem_cons_self
      · exact List.mem_cons_of_mem _ (h2 k m)
theorem len_sub' {α : Type} [BEq α] [LawfulBEq α] : ∀ {l m : List α}, l.Nodup → (∀ x ∈ l, x ∈ m) → l.length ≤ m.length
  | [], _, _, _ => Nat.zero_le _
  | x :: l, m, h, hs => by
    have h' := List.nodup_cons.mp h
    have hx := hs x List.mem_cons_self
    have ih := len_sub' (m := m.erase x) h'.2 fun y my => (List.mem_erase_of_ne (fun e : y = x => h'.1 (by rw [← e]; exact my))).mpr (hs y (List.mem_cons_of_mem _ my))
    rw [List.length_erase_of_mem hx] at ih
    have : 0 < m.length := List.length_pos_of_mem hx
    rw [List.length_cons]
    omega
theorem set_len {ns L : List Int} (h : L.Nodup) (e : ∀ k, k ∈ L ↔ k ∈ ns) : (L.length : Nat) < ns.length ↔ ¬ ns.Nodup := by
  constructor
  · intro hl hn
    have := len_sub' hn fun x m => (e x).mpr m
    omega
  · intro hn
    obtain ⟨ms, h1, h2⟩ := fewer hn
    have := len_sub' (m := ms) h fun x m => h2 x ((e x).mp m)
    omega
theorem bools_inv {H : Hp} : ∀ {ys : List V} {bs : List Bool}, Tps H ys (bs.map PyData.bool) → ys = bs.map V.bl
  | _, [], .nil => rfl
  | _, _ :: bs, .cons (.bl _) t => by rw [bools_inv t]; rfl
end Lt

set_option Elab.async false
set_option linter.all false
set_option maxRecDepth 100000
set_option maxHeartbeats 4000000
namespace Lt
open PySem PySem.Spec PyProof.Rows L2
def topS (i : Nat) : Stmt := PySem.Challenge.pw_liftedties_k06_tellers_and_what_is_a_dee.main.body.getD i (.Pass ⟨0, 0, 0, 0⟩)
abbrev s_is_place : Stmt := topS 1
abbrev N_is_place : List Str := ["many", "value"]
theorem sc_is_place : FnScope ["many", "value"] ["many", "value"] (defScope s_is_place) := ⟨rfl, rfl, rfl, by decide +kernel, rfl, by decide +kernel, by decide +kernel⟩
abbrev s_table_of : Stmt := topS 3
abbrev N_table_of : List Str := ["web", "many", "ties", "table", "one", "other", "_"]
theorem sc_table_of : FnScope ["web", "many", "ties", "table", "one", "other", "_"] ["web"] (defScope s_table_of) := ⟨rfl, rfl, rfl, by decide +kernel, rfl, by decide +kernel, by decide +kernel⟩
abbrev s_tells_apart : Stmt := topS 4
abbrev N_tells_apart : List Str := ["table", "place", "one", "other"]
theorem sc_tells_apart : FnScope ["table", "place", "one", "other"] ["table", "place", "one", "other"] (defScope s_tells_apart) := ⟨rfl, rfl, rfl, by decide +kernel, rfl, by decide +kernel, by decide +kernel⟩
abbrev s_tellers_in : Stmt := topS 6
abbrev N_tellers_in : List Str := ["table", "one", "other", "place"]
theorem sc_tellers_in : FnScope ["table", "one", "other", "place"] ["table", "one", "other"] (defScope s_tellers_in) := ⟨rfl, rfl, rfl, by decide +kernel, rfl, by decide +kernel, by decide +kernel⟩
abbrev s_tellers : Stmt := topS 7
abbrev N_tellers : List Str := ["web", "one", "other"]
theorem sc_tellers : FnScope ["web", "one", "other"] ["web", "one", "other"] (defScope s_tellers) := ⟨rfl, rfl, rfl, by decide +kernel, rfl, by decide +kernel, by decide +kernel⟩
abbrev s_is_quadruple : Stmt := topS 8
abbrev N_is_quadruple : List Str := ["many", "value", "item"]
theorem sc_is_quadruple : FnScope ["many", "value", "item"] ["many", "value"] (defScope s_is_quadruple) := ⟨rfl, rfl, rfl, by decide +kernel, rfl, by decide +kernel, by decide +kernel⟩
abbrev s_error_in : Stmt := topS 9
abbrev N_error_in : List Str := ["table", "value", "at"]
theorem sc_error_in : FnScope ["table", "value", "at"] ["table", "value"] (defScope s_error_in) := ⟨rfl, rfl, rfl, by decide +kernel, rfl, by decide +kernel, by decide +kernel⟩
abbrev s_deed_error : Stmt := topS 10
abbrev N_deed_error : List Str := ["web", "value"]
theorem sc_deed_error : FnScope ["web", "value"] ["web", "value"] (defScope s_deed_error) := ⟨rfl, rfl, rfl, by decide +kernel, rfl, by decide +kernel, by decide +kernel⟩
abbrev s_is_lift_in : Stmt := topS 11
abbrev N_is_lift_in : List Str := ["table", "deed", "a", "_", "b", "c"]
theorem sc_is_lift_in : FnScope ["table", "deed", "a", "_", "b", "c"] ["table", "deed"] (defScope s_is_lift_in) := ⟨rfl, rfl, rfl, by decide +kernel, rfl, by decide +kernel, by decide +kernel⟩
abbrev s_is_lift : Stmt := topS 12
abbrev N_is_lift : List Str := ["web", "deed"]
theorem sc_is_lift : FnScope ["web", "deed"] ["web", "deed"] (defScope s_is_lift) := ⟨rfl, rfl, rfl, by decide +kernel, rfl, by decide +kernel, by decide +kernel⟩
abbrev s__law_stock : Stmt := topS 14
abbrev N__law_stock : List Str := ["script", "flat", "cell"]
theorem sc__law_stock : FnScope ["script", "flat", "cell"] ["script"] (defScope s__law_stock) := ⟨rfl, rfl, rfl, by decide +kernel, rfl, by decide +kernel, by decide +kernel⟩
abbrev s__law_draw : Stmt := topS 15
abbrev N__law_draw : List Str := ["stock", "size", "great", "turn", "cell", "blend"]
theorem sc__law_draw : FnScope ["stock", "size", "great", "turn", "cell", "blend"] ["stock", "size"] (defScope s__law_draw) := ⟨rfl, rfl, rfl, by decide +kernel, rfl, by decide +kernel, by decide +kernel⟩
abbrev s__law_shuffled : Stmt := topS 16
abbrev N__law_shuffled : List Str := ["stock", "row", "rest", "found", "turn"]
theorem sc__law_shuffled : FnScope ["stock", "row", "rest", "found", "turn"] ["stock", "row"] (defScope s__law_shuffled) := ⟨rfl, rfl, rfl, by decide +kernel, rfl, by decide +kernel, by decide +kernel⟩
abbrev s__law_pairs : Stmt := topS 17
abbrev N__law_pairs : List Str := ["many", "found", "a", "b"]
theorem sc__law_pairs : FnScope ["many", "found", "a", "b"] ["many"] (defScope s__law_pairs) := ⟨rfl, rfl, rfl, by decide +kernel, rfl, by decide +kernel, by decide +kernel⟩
abbrev s__law_named : Stmt := topS 18
abbrev N__law_named : List Str := ["many", "ties", "names", "a", "b"]
theorem sc__law_named : FnScope ["many", "ties", "names", "a", "b"] ["many", "ties", "names"] (defScope s__law_named) := ⟨rfl, rfl, rfl, by decide +kernel, rfl, by decide +kernel, by decide +kernel⟩
abbrev s__law_web : Stmt := topS 19
abbrev N__law_web : List Str := ["stock", "least", "most", "many", "way", "every", "ties", "share", "a", "pair"]
theorem sc__law_web : FnScope ["stock", "least", "most", "many", "way", "every", "ties", "share", "a", "pair"] ["stock", "least", "most"] (defScope s__law_web) := ⟨rfl, rfl, rfl, by decide +kernel, rfl, by decide +kernel, by decide +kernel⟩
abbrev s__law_is_tied : Stmt := topS 20
abbrev N__law_is_tied : List Str := ["web", "a", "b"]
theorem sc__law_is_tied : FnScope ["web", "a", "b"] ["web", "a", "b"] (defScope s__law_is_tied) := ⟨rfl, rfl, rfl, by decide +kernel, rfl, by decide +kernel, by decide +kernel⟩
abbrev s__law_tells : Stmt := topS 21
abbrev N__law_tells : List Str := ["web", "place", "one", "other"]
theorem sc__law_tells : FnScope ["web", "place", "one", "other"] ["web", "place", "one", "other"] (defScope s__law_tells) := ⟨rfl, rfl, rfl, by decide +kernel, rfl, by decide +kernel, by decide +kernel⟩
abbrev s__law_fault : Stmt := topS 22
abbrev N__law_fault : List Str := ["web", "value", "item", "a", "d", "b", "c"]
theorem sc__law_fault : FnScope ["web", "value", "item", "a", "d", "b", "c"] ["web", "value"] (defScope s__law_fault) := ⟨rfl, rfl, rfl, by decide +kernel, rfl, by decide +kernel, by decide +kernel⟩
abbrev s__law_is_lift : Stmt := topS 23
abbrev N__law_is_lift : List Str := ["web", "deed", "a", "d", "b", "c"]
theorem sc__law_is_lift : FnScope ["web", "deed", "a", "d", "b", "c"] ["web", "deed"] (defScope s__law_is_lift) := ⟨rfl, rfl, rfl, by decide +kernel, rfl, by decide +kernel, by decide +kernel⟩
abbrev s__law_some : Stmt := topS 24
abbrev N__law_some : List Str := ["stock", "web", "turn", "a", "d", "tell", "b", "c", "place"]
theorem sc__law_some : FnScope ["stock", "web", "turn", "a", "d", "tell", "b", "c", "place"] ["stock", "web"] (defScope s__law_some) := ⟨rfl, rfl, rfl, by decide +kernel, rfl, by decide +kernel, by decide +kernel⟩
abbrev s__law_near : Stmt := topS 25
abbrev N__law_near : List Str := ["stock", "web", "deed", "a", "d", "b", "c", "at", "many", "places", "odd", "things", "turned", "rest", "place", "own"]
theorem sc__law_near : FnScope ["stock", "web", "deed", "a", "d", "b", "c", "at", "many", "places", "odd", "things", "turned", "rest", "place", "own"] ["stock", "web", "deed"] (defScope s__law_near) := ⟨rfl, rfl, rfl, by decide +kernel, rfl, by decide +kernel, by decide +kernel⟩
abbrev s__law_is_judged : Stmt := topS 26
abbrev N__law_is_judged : List Str := ["web", "value", "known", "due", "told", "sort"]
theorem sc__law_is_judged : FnScope ["web", "value", "known", "due", "told", "sort"] ["web", "value"] (defScope s__law_is_judged) := ⟨rfl, rfl, rfl, by decide +kernel, rfl, by decide +kernel, by decide +kernel⟩
abbrev s_law : Stmt := topS 27
abbrev N_law : List Str := ["script", "stock", "turn", "web", "nth", "one", "other", "due", "deed", "value", "net", "values", "place"]
theorem sc_law : FnScope ["script", "stock", "turn", "web", "nth", "one", "other", "due", "deed", "value", "net", "values", "place"] ["script"] (defScope s_law) := ⟨rfl, rfl, rfl, by decide +kernel, rfl, by decide +kernel, by decide +kernel⟩
end Lt

set_option Elab.async false
set_option linter.all false
set_option maxRecDepth 100000
set_option maxHeartbeats 4000000
namespace Lt
open PySem PySem.Spec PyProof.Rows L2
section
variable {P : Program} {w : World} {K : PySem.W.Frag} {mg : Str → Option Value} {base : Heap} {f : Addr} {fd : FuncData}
def spInOrder : Sp := fun vs H Q _ => ∃ i j : Nat, vs = [.int i, .int j] ∧ Ret H (dP (min i j, max i j)) Q
def spPairs : Sp := fun vs H Q _ => ∃ n : Nat, vs = [.int n] ∧ n ≤ 20 ∧ RetL H (dPs (pairsOf n)) Q
/-- a def of a web -/
abbrev OfWeb (H : Hp) (v : V) (n : Nat) (ps : List Pr) : Prop := Tp H v (dW n ps) ∧ WebOk n ps
def spOpp : Sp := fun vs H Q _ => ∃ v n ps, vs = [v] ∧ OfWeb H v n ps ∧ Ret H (dW n (opp n ps)) Q
def spRow : Sp := fun vs H Q _ => ∃ v n ps, vs = [v] ∧ OfWeb H v n ps ∧ Ret H (.tuple (dNs (rowOf n ps))) Q
def spTied : Sp := fun vs H Q _ => ∃ v n ps, ∃ i j : Nat, vs = [v, .int i, .int j] ∧ OfWeb H v n ps ∧ i < n ∧ j < n ∧ ∀ H', Fr [] H H' → Q (.bl (tied ps i j)) H'
def spNb : Sp := fun vs H Q _ => ∃ v n ps, ∃ i : Nat, vs = [v, .int i] ∧ OfWeb H v n ps ∧ i < n ∧ Ret H (.tuple (dNs (nbs n ps i))) Q
def spNums : Sp := fun vs H Q _ => ∃ v n ps, vs = [v] ∧ OfWeb H v n ps ∧ Ret H (.tuple (dNs (nums n ps))) Q
end
end Lt

set_option Elab.async false
set_option linter.all false
set_option maxRecDepth 100000
set_option maxHeartbeats 4000000
namespace Lt
open PySem PySem.Spec PyProof.Rows L2
section
variable {P : Program} {w : World} {K : PySem.W.Frag} {mg : Str → Option Value} {base : Heap} {f : Addr} {fd : FuncData}
theorem nums_at {n : Nat} {ps : List Pr} {i : Nat} (h : i < n) : (nums n ps)[i]? = some (nbs n ps i).length := by
  unfold nums
  rw [List.getElem?_map, List.getElem?_range h]
  rfl
def spOdd : Sp := fun vs H Q _ => ∃ v n ps, vs = [v] ∧ OfWeb H v n ps ∧ Ret H (.tuple (dNs (odds n ps))) Q
end
end Lt

set_option Elab.async false
set_option linter.all false
set_option maxRecDepth 100000
set_option maxHeartbeats 4000000
namespace Lt
open PySem PySem.Spec PyProof.Rows L2
/-! ## the law's own draws -/
structure Stk (s d c : Addr) (H : Hp) : Prop where
  ex : ∃ (ds cs : List Int) (sum turn : Int), H s = some (.lst [.ref d, .ref c, .int sum, .int turn]) ∧ H d = some (.lst (ds.map V.int)) ∧ ds.length ≤ 63 ∧ H c = some (.lst (cs.map V.int)) ∧ 0 < cs.length ∧ cs.length ≤ 100
  sd : s ≠ d
  sc : s ≠ c
  dc : d ≠ c
theorem Stk.far {s d c p : Addr} {H : Hp} {o : HO} (h : Stk s d c H) (n1 : p ≠ s) (n2 : p ≠ d) (n3 : p ≠ c) : Stk s d c (upd H p o) := by
  obtain ⟨ds, cs, sm, tn, a1, a2, a3, a4, a5⟩ := h.ex
  exact ⟨⟨ds, cs, sm, tn, by rw [upd_ne n1.symm]; exact a1, by rw [upd_ne n2.symm]; exact a2, a3, by rw [upd_ne n3.symm]; exact a4, a5⟩, h.sd, h.sc, h.dc⟩
theorem Stk.live {s d c : Addr} {H : Hp} (h : Stk s d c H) : H s ≠ none ∧ H d ≠ none ∧ H c ≠ none := by
  obtain ⟨ds, cs, sm, tn, a1, a2, a3, a4, a5⟩ := h.ex
  exact ⟨by rw [a1]; simp, by rw [a2]; simp, by rw [a4]; simp⟩
/-- cells that were free when the stock was there are none of its -/
theorem Stk.apart {s d c p : Addr} {H : Hp} (h : Stk s d c H) (hp : H p = none) : p ≠ s ∧ p ≠ d ∧ p ≠ c := by
  obtain ⟨l1, l2, l3⟩ := h.live
  refine ⟨?_, ?_, ?_⟩ <;> (intro z; subst z; contradiction)
theorem Stk.add {s d c p : Addr} {H H' : Hp} {o : HO} (h : Stk s d c H) (h' : Stk s d c H') (hp : H p = none) : Stk s d c (upd H' p o) := by
  obtain ⟨a, b, e⟩ := h.apart hp
  exact h'.far a b e
theorem cut_to {xs : List V} (k : Nat) : cutV xs none (some (k : Int)) = xs.take k := by
  unfold cutV
  rw [HT.sIx_none, HT.sIx_nat, List.drop_zero, Nat.sub_zero]
  by_cases c : k ≤ xs.length
  · rw [Nat.min_eq_left c]
  · rw [Nat.min_eq_right (by omega), List.take_of_length_le (Nat.le_refl _), List.take_of_length_le (by omega)]
theorem seq_at {i n : Nat} (h : i < n) : seqIndex? (i : Int) n = some i := by
  have e : ixN n (i : Int) = some i := by
    unfold ixN
    rw [if_pos (by omega), if_pos (by omega)]
    simp
  exact (ixN_seq e).1
section
variable {P : Program} {w : World} {K : PySem.W.Frag} {mg : Str → Option Value} {base : Heap} {f : Addr} {fd : FuncData}
abbrev Ints (ds : List PyData) : Prop := ∃ ms : List Int, ds = ms.map PyData.int
theorem Ints.snoc {ds : List PyData} (h : Ints ds) (i : Int) : Ints (ds ++ [.int i]) := by
  obtain ⟨ms, rfl⟩ := h
  exact ⟨ms ++ [i], by rw [List.map_append]; rfl⟩
def spStock (K : PySem.W.Frag) : Sp := fun vs H Q _ => ∃ (a : Addr) (ns : List Int), vs = [.ref a] ∧ SqL K H a (ns.map V.int) ∧ ns.length ≤ 63 ∧
  ∀ H' s d c, Fr [] H H' → Stk s d c H' → Q (.ref s) H'
theorem ok_stock (F : FnP K "_law_stock" s__law_stock f fd) (g_sum : mg "sum" = none) (g_len : mg "len" = none) : FnG P w K mg base CX0 1 f fd ["script"] (spStock K) := by
  refine okG0 F sc__law_stock (fun vs H Q E h => ?_) (fun cdv A outer s H vs Q E hS hr h => ?_)
  · obtain ⟨_, _, rfl, _⟩ := h
    rfl
  · obtain ⟨a, ns, rfl, ha, hl, q⟩ := h
    refine ⟨_, (pss_cons (ps_setLc (i := 1) (own := [("cell", 2)]) (g := (gName 2)) (tt := tYes) rfl sc__law_stock.nd rfl rfl (sw_true rfl rfl rfl (by decide +kernel)) (pi_list (pe_slice (slL K) (pv 0) po_none (po_some pe_int))) (blkOk_by (own := [("cell", 2)]) (N := N__law_stock) (sc := defScope s__law_stock) (by decide +kernel)) (fun _ _ _ _ _ => (pg_name (i := 2) sc__law_stock.nd rfl (Or.inl rfl))) (fun _ _ _ _ _ => pts_nil) (fun _ _ _ _ _ => (pe_ifExp (pt_cmpR op_ge (pv 2) pe_int (nomark _)) (pe_op op_mul pe_int (pv 2)) (pe_op op_sub (pe_op op_mul (pe_un un_neg pe_int) (pv 2)) pe_int))))
      (pss_one (ps_ret (pe_lst (pa_cons (pe_lc (own := [("cell", 2)]) (g := (gName 2)) rfl sc__law_stock.nd (pi_list (pv 1)) (blkOk_by (own := [("cell", 2)]) (N := N__law_stock) (sc := defScope s__law_stock) (by decide +kernel)) (fun _ _ _ _ _ => (pg_name (i := 2) sc__law_stock.nd rfl (Or.inl rfl))) (fun _ _ _ _ _ => (pts_one (pt_cmpR op_ge (pv 2) (pe_op op_pow pe_int pe_int) (nomark _)))) (fun _ _ _ _ _ => (pv 2))) (pa_cons (pe_op op_cat (pv 1) (pe_lst (pa_cons (pe_op op_add (pe_callB (lenK K) (by rfl) g_len (by decide +kernel) (pa_cons (pv 1) pa_nil)) pe_int) pa_nil))) (pa_cons (pe_callB (sumK K rfl) (by rfl) g_sum (by decide +kernel) (pa_cons (pv 1) pa_nil)) (pa_cons pe_int pa_nil)))))))), ?_⟩
    refine ⟨_, rfl, 63, rfl, a, _, rfl, ha, fun b hb => ?_⟩
    have eb : cutV (ns.map V.int) none (some 63) = (ns.take 63).map V.int := by
      rw [show (63 : Int) = ((63 : Nat) : Int) from rfl, cut_to, List.map_take]
    rw [eb]
    have f0 : Fr [] H (upd H b (.lst ((ns.take 63).map V.int))) := Fr.new hb
    refine ⟨b, rfl, ⟨_, SqL.of upd_same⟩, fun D hD => ?_⟩
    have C : LcC [] (fun _ => True) (upd H b (.lst ((ns.take 63).map V.int))) D := ⟨hD, List.not_mem_nil, fun _ _ h => h⟩
    refine lcl (M := fun i ds => Ints ds) C (SqL.of upd_same) List.not_mem_nil trivial ⟨[], rfl⟩ ?_ ?_
    · intro i x H2 zs ds ex L
      rw [List.getElem?_map] at ex
      obtain ⟨cell, ec, rfl⟩ := Option.map_eq_some_iff.mp ex
      have hi : i < 1000 := by
        have := (List.getElem?_eq_some_iff.mp ec).1
        rw [List.length_take] at this
        omega
      refine ⟨rfl, tyes ?_⟩
      refine ⟨_, rfl, _, _, rfl, rfl, _, rfl, ite2 (fun c => ?_) (fun c => ?_)⟩
      · exact ⟨_, rfl, _, _, rfl, rfl, .inl ⟨by decide, by decide⟩, L.put C (by omega) Fr.refl trivial (.int _) (L.m.snoc _)⟩
      · exact ⟨_, rfl, _, rfl, _, _, rfl, rfl, .inl ⟨by decide, by decide⟩, _, _, rfl, rfl, L.put C (by omega) Fr.refl trivial (.int _) (L.m.snoc _)⟩
    · intro H2 zs ds L
      obtain ⟨ms, rfl⟩ := L.m
      have ez := L.dat.ints_inv
      subst ez
      have hm : ms.length ≤ 63 := by
        have h1 := L.len
        rw [List.length_map, List.length_map, List.length_take] at h1
        omega
      have f2 : Fr [] H H2 := f0.trans L.fr
      have eD := L.at_
      refine ⟨.ref D, rfl, D, rfl, ⟨_, SqL.of eD⟩, fun D2 hD2 => ?_⟩
      have C2 : LcC [] (fun _ => True) H2 D2 := ⟨hD2, List.not_mem_nil, fun _ _ h => h⟩
      refine lcl (M := fun i ds => Ints ds) C2 (SqL.of eD) List.not_mem_nil trivial ⟨[], rfl⟩ ?_ ?_
      · intro i x H3 zs ds ex L3
        rw [List.getElem?_map] at ex
        obtain ⟨cell, ec, rfl⟩ := Option.map_eq_some_iff.mp ex
        have hi : i < 1000 := by
          have := (List.getElem?_eq_some_iff.mp ec).1
          omega
        refine ⟨rfl, _, rfl, _, _, rfl, rfl, ⟨by decide, by decide, by decide⟩, _, _, rfl, rfl, _, rfl, ite2 (fun c => ?_) (fun c => ?_)⟩
        · exact ⟨_, rfl, L3.put C2 (by omega) Fr.refl trivial (.int _) (L3.m.snoc _)⟩
        · exact L3.skip C2 Fr.refl trivial L3.m
      · intro H3 zs ds L3
        obtain ⟨ks, rfl⟩ := L3.m
        have ez := L3.dat.ints_inv
        subst ez
        have hk : ks.length ≤ 63 := by
          have h1 := L3.len
          rw [List.length_map, List.length_map] at h1
          omega
        have eD3 := L3.fr.keep _ _ eD List.not_mem_nil
        have eE3 := L3.at_
        -- flat + [len(flat) + ..]
        refine ⟨.ref D, rfl, .ref D, rfl, D, _, rfl, .inl (SqL.of eD3), _, _, rfl, rfl, szl (Nat.le_of_ble_eq_true rfl), fun e he => ?_⟩
        have eDe := at_add (o := .lst [.int ((ms.map V.int).length + 706)]) eD3 he
        refine ⟨D, e, _, _, rfl, rfl, eDe, upd_same, ?_, fun c hc => ?_⟩
        · rw [List.length_map]
          exact szl (by simp only [List.length_cons, List.length_nil]; omega)
        -- sum(flat)
        have eDc := at_add (o := .lst (ms.map V.int ++ [.int ((ms.map V.int).length + 706)])) eDe hc
        refine ⟨.ref D, rfl, D, ms, rfl, SqL.of eDc, szl (Nat.le_of_ble_eq_true rfl), fun s1 hs1 => ?_⟩
        have fe : Fr [] H3 _ := Fr.new (o := .lst [.int ((ms.map V.int).length + 706)]) he
        have fc := Fr.new (S := []) (o := .lst (ms.map V.int ++ [.int ((ms.map V.int).length + 706)])) hc
        have eEc := fc.keep _ _ (fe.keep _ _ eE3 List.not_mem_nil) List.not_mem_nil
        refine q _ s1 D2 c ((f2.trans L3.fr).trans ((fe.trans fc).add hs1)) ⟨⟨ks, ms ++ [((ms.map V.int).length : Int) + 706], ms.sum, 0, upd_same, at_add eEc hs1, hk, ?_, ?_, ?_⟩, ?_, ?_, ?_⟩
        · rw [upd_ne (ne_new upd_same hs1), upd_same, List.map_append]
          rfl
        · rw [List.length_append]
          exact Nat.lt_of_lt_of_le Nat.zero_lt_one (Nat.le_add_left _ _)
        · rw [List.length_append]
          show ms.length + 1 ≤ 100
          omega
        · exact (ne_new eEc hs1).symm
        · exact (ne_new upd_same hs1).symm
        · exact ne_new (fe.keep _ _ eE3 List.not_mem_nil) hc
def spDraw : Sp := fun vs H Q _ => ∃ (s d c : Addr) (m : Nat), vs = [.ref s, .int m] ∧ Stk s d c H ∧ 0 < m ∧ m < 1000000 ∧
  ∀ H' (r : Nat), r < m → Stk s d c H' → Fr [s, d] H H' → Q (.int r) H'
theorem mod_lt {x : Int} {m : Nat} (h : 0 < m) : ∃ r : Nat, r < m ∧ x % (m : Int) = (r : Int) := by
  have h1 := Int.emod_nonneg x (show (m : Int) ≠ 0 by omega)
  have h2 := Int.emod_lt_of_pos x (show (0 : Int) < m by omega)
  exact ⟨(x % (m : Int)).toNat, by omega, by omega⟩
theorem snoc_of {α : Type} (l : List α) : l = [] ∨ ∃ L z, l = L ++ [z] := by
  rcases List.eq_nil_or_concat l with h | ⟨L, z, h⟩
  · exact .inl h
  · exact .inr ⟨L, z, by rw [h, List.concat_eq_append]⟩
theorem eqv_nil : ∀ ds : List Int, PyData.eqv (.list (ds.map PyData.int)) (.list []) = ds.isEmpty
  | [] => rfl
  | _ :: _ => rfl
theorem sh_ints (ds : List Int) : SeqAt.shaped (.list (ds.map PyData.int)) = true := by
  have h1 : ∀ ds : List Int, PyData.canLayAll0 (ds.map PyData.int) = true := by
    intro ds
    induction ds with
    | nil => rfl
    | cons x xs ih =>
      show (PyData.canLay0 (.int x) && _) = true
      rw [ih]
      rfl
  have h2 : ∀ ds : List Int, PyData.depthAll (ds.map PyData.int) = 0 := by
    intro ds
    induction ds with
    | nil => rfl
    | cons x xs ih =>
      show max (PyData.depth (.int x)) _ = 0
      rw [ih]
      rfl
  unfold SeqAt.shaped
  rw [show (PyData.list (ds.map PyData.int)).canLay0 = true from h1 ds]
  have h3 : (PyData.list (ds.map PyData.int)).depth = 1 := by
    show PyData.depthAll _ + 1 = 1
    rw [h2]
  rw [h3]
  rfl
theorem ok_draw (F : FnP K "_law_draw" s__law_draw f fd) (g_int : mg "int" = none) (g_len : mg "len" = none) : FnG P w K mg base CX0 1 f fd ["stock", "size"] spDraw := by
  refine okG0 F sc__law_draw (fun vs H Q E h => ?_) (fun cdv A outer s H vs Q E hS hr h => ?_)
  · obtain ⟨_, _, _, _, rfl, _⟩ := h
    rfl
  · obtain ⟨a, d, c, m, rfl, hk, hm, hm2, q⟩ := h
    obtain ⟨ds, cs, sm, tn, a1, a2, a3, a4, a5, a6⟩ := hk.ex
    have nsd := hk.sd
    have nsc := hk.sc
    have ndc := hk.dc
    refine ⟨_, (pss_cons (ps_if (pt_cmpR (neK K hr.units) (pe_ix (ixL K) (pv 0) pe_int (fun _ _ => rfl)) (pe_lst pa_nil) (nomark _)) (pss_cons (ps_set (i := 2) sc__law_draw.nd rfl (Or.inl rfl) (pe_bm0 PySem.F.plainAttrs_list PySem.F.slot_list_pop PySem.F.type_list_pop mt_pop (pe_ix (ixL K) (pv 0) pe_int (fun _ _ => rfl))))
      (pss_cons (ps_if (pt_cmpR op_ge (pv 2) (pv 1) (nomark _)) (pss_one (ps_expr (pe_bm PySem.F.plainAttrs_list PySem.F.slot_list_append PySem.F.type_list_append mt_append (pe_ix (ixL K) (pv 0) pe_int (fun _ _ => rfl)) (pa_cons (pe_op op_fdivN (pv 2) (pv 1)) pa_nil)))) pss_nil)
      (pss_one (ps_ret (pe_op op_mod (pe_callTy call_int1 (by rfl) g_int (by decide +kernel) (pa_cons (pv 2) pa_nil)) (pv 1)))))) pss_nil)
      (pss_cons (ps_asg (pe_op op_add (pe_ix (ixL K) (pv 0) pe_int (fun _ _ => rfl)) pe_int) (pg_sub (pv 0) pe_int set_list))
      (pss_cons (ps_set (i := 3) sc__law_draw.nd rfl (Or.inl rfl) (pe_ix (ixL K) (pv 0) pe_int (fun _ _ => rfl)))
      (pss_cons (ps_set (i := 4) sc__law_draw.nd rfl (Or.inl rfl) (pe_op op_mod (pe_callTy call_int1 (by rfl) g_int (by decide +kernel) (pa_cons (pe_ix (ixL K) (pe_ix (ixL K) (pv 0) pe_int (fun _ _ => rfl)) (pe_op op_mod (pe_callTy call_int1 (by rfl) g_int (by decide +kernel) (pa_cons (pv 3) pa_nil)) (pe_callB (lenK K) (by rfl) g_len (by decide +kernel) (pa_cons (pe_ix (ixL K) (pv 0) pe_int (fun _ _ => rfl)) pa_nil))) (fun _ _ => rfl)) pa_nil)) pe_int))
      (pss_cons (ps_set (i := 5) sc__law_draw.nd rfl (Or.inl rfl) (pe_op op_mod (pe_callTy call_int1 (by rfl) g_int (by decide +kernel) (pa_cons (pe_op op_add (pe_op op_add (pe_op op_mul (pv 4) pe_int) (pe_op op_mul (pe_op op_mod (pe_callTy call_int1 (by rfl) g_int (by decide +kernel) (pa_cons (pe_ix (ixL K) (pv 0) pe_int (fun _ _ => rfl)) pa_nil)) pe_int) pe_int)) (pe_op op_mul (pv 3) pe_int)) pa_nil)) pe_int))
      (pss_cons (ps_set (i := 5) sc__law_draw.nd rfl (Or.inl rfl) (pe_op op_mod (pe_callTy call_int1 (by rfl) g_int (by decide +kernel) (pa_cons (pe_op op_add (pe_op op_add (pe_op op_mul (pv 5) (pv 5)) (pe_op op_mul (pv 3) pe_int)) (pv 4)) pa_nil)) pe_int))
      (pss_one (ps_ret (pe_op op_mod (pe_op op_fdivN (pe_op op_mod (pe_callTy call_int1 (by rfl) g_int (by decide +kernel) (pa_cons (pe_op op_add (pe_op op_mul (pv 5) pe_int) (pe_op op_mul (pv 3) pe_int)) pa_nil)) pe_int) pe_int) (pv 1)))))))))), ?_⟩
    refine ⟨_, rfl, a, _, 0, _, rfl, rfl, SqL.of a1, atI_nat (j := 0) rfl, szl (Nat.le_of_ble_eq_true rfl), fun e he => ?_⟩
    have f0 : Fr [a, d] H (upd H e (.lst [])) := Fr.new he
    have hk0 : Stk a d c (upd H e (.lst [])) := hk.add hk he
    obtain ⟨n1, n2, n3⟩ := hk.apart he
    have b1 := at_add (o := .lst []) a1 he
    have b2 := at_add (o := .lst []) a2 he
    have b4 := at_add (o := .lst []) a4 he
    refine ⟨.list (ds.map PyData.int), .list [], .lst (SqL.of b2) (Tps.ints ds).dp, .lst (SqL.of upd_same) .nil, sh_ints ds, rfl, _, rfl, ?_⟩
    rw [eqv_nil]
    rcases snoc_of ds with rfl | ⟨L, z, rfl⟩
    · refine iteF ?_
      -- the plain way
      refine ⟨_, rfl, a, _, 3, _, rfl, rfl, SqL.of b1, atI_nat (j := 3) rfl, _, _, rfl, rfl, ?_⟩
      refine ⟨_, rfl, a, _, 3, 3, rfl, rfl, b1, rfl, ?_⟩
      have g1 : upd (upd H e (.lst [])) a (.lst [.ref d, .ref c, .int sm, .int (tn + 1)]) a = some (.lst [.ref d, .ref c, .int sm, .int (tn + 1)]) := upd_same
      have g2 : upd (upd H e (.lst [])) a (.lst [.ref d, .ref c, .int sm, .int (tn + 1)]) d = some (.lst []) := by rw [upd_ne nsd.symm]; exact b2
      have g4 : upd (upd H e (.lst [])) a (.lst [.ref d, .ref c, .int sm, .int (tn + 1)]) c = some (.lst (cs.map V.int)) := by rw [upd_ne nsc.symm]; exact b4
      have f1 : Fr [a, d] H (upd (upd H e (.lst [])) a (.lst [.ref d, .ref c, .int sm, .int (tn + 1)])) := f0.set (.inr List.mem_cons_self) (fun xs z => by rw [b1] at z; cases z)
      have hk1 : Stk a d c (upd (upd H e (.lst [])) a (.lst [.ref d, .ref c, .int sm, .int (tn + 1)])) := ⟨⟨[], cs, sm, tn + 1, g1, g2, by decide, g4, a5, a6⟩, nsd, nsc, ndc⟩
      refine ⟨_, rfl, a, _, 3, _, rfl, rfl, SqL.of g1, atI_nat (j := 3) rfl, ?_⟩
      obtain ⟨k, hkl, ek⟩ := mod_lt (x := tn + 1) a5
      have ec : atI (cs.map V.int) ((tn + 1) % (((cs.map V.int).length : Nat) : Int)) = some (.int cs[k]) := by
        rw [List.length_map, ek]
        refine atI_nat ?_
        rw [List.getElem?_map, List.getElem?_eq_getElem hkl]
        rfl
      refine ⟨_, rfl, a, _, 1, _, rfl, rfl, SqL.of g1, atI_nat (j := 1) rfl, ?_⟩
      refine ⟨_, rfl, .inl ⟨_, rfl, ?_⟩⟩
      refine ⟨_, rfl, a, _, 1, _, rfl, rfl, SqL.of g1, atI_nat (j := 1) rfl, c, _, rfl, .inl (SqL.of g4), _, _, rfl, rfl, ?_, c, _, _, _, rfl, rfl, SqL.of g4, ec, ?_⟩
      · show (0 : Int) < (((cs.map V.int).length : Nat) : Int)
        rw [List.length_map]
        omega
      refine .inl ⟨_, rfl, _, _, rfl, rfl, (by show (0 : Int) < _; decide), ?_⟩
      refine ⟨_, rfl, _, _, rfl, rfl, .inr ⟨by decide, by decide⟩, _, rfl, a, _, 2, _, rfl, rfl, SqL.of g1, atI_nat (j := 2) rfl, ?_⟩
      refine .inl ⟨_, rfl, _, _, rfl, rfl, (by show (0 : Int) < _; decide), _, _, rfl, rfl, .inr ⟨by decide, by decide⟩, _, _, rfl, rfl, _, rfl, _, _, rfl, rfl, .inr ⟨by decide, by decide⟩, _, _, rfl, rfl, ?_⟩
      refine .inl ⟨_, rfl, _, _, rfl, rfl, (by show (0 : Int) < _; decide), ?_⟩
      obtain ⟨bl, hbl, ebl⟩ := mod_lt (m := 4294967291) (x := cs[k] % 1000000007 * 48271 + sm % 998244353 * 69621 + (tn + 1) * 2654435761) (by decide)
      have ebl : (cs[k] % 1000000007 * 48271 + sm % 998244353 * 69621 + (tn + 1) * 2654435761) % 4294967291 = (bl : Int) := ebl
      dsimp only
      rw [ebl]
      refine ⟨_, rfl, _, rfl, _, _, rfl, rfl, .inl ⟨by omega, by omega⟩, _, rfl, _, _, rfl, rfl, .inr ⟨by decide, by decide⟩, _, _, rfl, rfl, _, rfl, _, _, rfl, rfl, ?_⟩
      refine .inl ⟨_, rfl, _, _, rfl, rfl, (by show (0 : Int) < _; decide), ?_⟩
      refine ⟨_, rfl, _, _, rfl, rfl, .inr ⟨by decide, by decide⟩, _, rfl, _, _, rfl, rfl, .inr ⟨by decide, by decide⟩, _, _, rfl, rfl, ?_⟩
      refine .inl ⟨_, rfl, _, _, rfl, rfl, (by show (0 : Int) < _; decide), _, _, rfl, rfl, ⟨by decide, by decide⟩, _, rfl, _, _, rfl, rfl, (by show (0 : Int) < _; omega), ?_⟩
      obtain ⟨rr, hrr, err⟩ := mod_lt (m := m) (x := ((((bl : Int) * bl + (tn + 1) * 362437 + cs[k] % 1000000007) % 4294967279 * 40692 + (tn + 1) * 65537) % 4294967231).fdiv 4096) hm
      dsimp only
      rw [err]
      exact q _ _ hrr hk1 f1
    · rw [show (L ++ [z]).isEmpty = false by simp]
      refine Eq.mpr (if_pos rfl) ?_
      have hb2 : (L ++ [z]).map V.int = L.map V.int ++ [V.int z] := by rw [List.map_append]; rfl
      rw [hb2] at b2
      have e1 : (L.map V.int ++ [V.int z])[(L.map V.int ++ [V.int z]).length - 1]? = some (V.int z) := by simp
      refine ⟨_, rfl, a, _, 0, _, rfl, rfl, SqL.of b1, atI_nat (j := 0) rfl, .inl ⟨rfl, _, SqL.of b2⟩, d, _, _, rfl, rfl, b2, e1, ?_⟩
      rw [List.dropLast_concat]
      have hL : L.length ≤ 62 := by rw [List.length_append] at a3; simp only [List.length_cons, List.length_nil] at a3; omega
      have g1 : upd (upd H e (.lst [])) d (.lst (L.map V.int)) a = some (.lst [.ref d, .ref c, .int sm, .int tn]) := by rw [upd_ne nsd]; exact b1
      have g2 : upd (upd H e (.lst [])) d (.lst (L.map V.int)) d = some (.lst (L.map V.int)) := upd_same
      have g4 : upd (upd H e (.lst [])) d (.lst (L.map V.int)) c = some (.lst (cs.map V.int)) := by rw [upd_ne ndc.symm]; exact b4
      have f1 : Fr [a, d] H (upd (upd H e (.lst [])) d (.lst (L.map V.int))) := f0.set (.inr (List.mem_cons_of_mem _ List.mem_cons_self)) (fun xs z => by rw [b2] at z; cases z)
      obtain ⟨rr, hrr, err⟩ := mod_lt (m := m) (x := z) hm
      refine ⟨_, rfl, _, rfl, _, _, rfl, rfl, _, rfl, ite2 (fun c1 => ?_) (fun c1 => ?_)⟩
      · refine ⟨_, rfl, a, _, 0, _, rfl, rfl, SqL.of g1, atI_nat (j := 0) rfl, .inl ⟨rfl, _, SqL.of g2⟩, _, rfl, _, rfl, _, _, rfl, rfl, ⟨by omega, by omega⟩, d, _, _, rfl, rfl, g2, ?_, ?_⟩
        · rw [List.length_map]
          exact szlt (by omega)
        · refine ⟨_, rfl, .inl ⟨_, rfl, _, rfl, _, _, rfl, rfl, (by show (0 : Int) < _; omega), ?_⟩⟩
          dsimp only
          rw [err]
          refine q _ _ hrr ⟨⟨L ++ [z.fdiv m], cs, sm, tn, ?_, ?_, ?_, ?_, a5, a6⟩, nsd, nsc, ndc⟩ (f1.set (.inr (List.mem_cons_of_mem _ List.mem_cons_self)) (fun xs z => by rw [g2] at z; cases z))
          · rw [upd_ne nsd]
            exact g1
          · rw [upd_same, List.map_append]
            rfl
          · rw [List.length_append]
            show L.length + 1 ≤ 63
            omega
          · rw [upd_ne ndc.symm]
            exact g4
      · refine ⟨_, rfl, .inl ⟨_, rfl, _, rfl, _, _, rfl, rfl, (by show (0 : Int) < _; omega), ?_⟩⟩
        dsimp only
        rw [err]
        exact q _ _ hrr ⟨⟨L, cs, sm, tn, g1, g2, by omega, g4, a5, a6⟩, nsd, nsc, ndc⟩ f1
end
end Lt

set_option Elab.async false
set_option linter.all false
set_option maxRecDepth 100000
set_option maxHeartbeats 4000000
namespace Lt
open PySem PySem.Spec PyProof.Rows L2
section
variable {P : Program} {w : World} {K : PySem.W.Frag} {mg : Str → Option Value} {base : Heap} {f : Addr} {fd : FuncData}
theorem perm_move {α : Type} : ∀ {l m : List α} {r : Nat} {y : α}, l[r]? = some y → (l.eraseIdx r ++ (m ++ [y])).Perm (l ++ m)
  | [], _, _, _, h => by simp at h
  | x :: l, m, 0, y, h => by
    cases h
    show (l ++ (m ++ [x])).Perm (x :: (l ++ m))
    rw [← List.append_assoc]
    exact List.perm_append_singleton x (l ++ m)
  | x :: l, m, r + 1, y, h => by
    have h' : l[r]? = some y := h
    exact (perm_move (m := m) h').cons x
def spShuf : Sp := fun vs H Q _ => ∃ (s d c a : Addr) (xs : List V) (ds : List PyData), vs = [.ref s, .ref a] ∧ Stk s d c H ∧ H a = some (.lst xs) ∧ Tps H xs ds ∧ xs.length ≤ 1000 ∧ a ≠ s ∧ a ≠ d ∧
  ∀ H' p ys es, es.Perm ds → Fr [s, d] H H' → H p = none → Stk s d c H' → H' p = some (.lst ys) → Tps H' ys es → Q (.ref p) H'
theorem ok_shuffled (F : FnP K "_law_shuffled" s__law_shuffled f fd) (g_range : mg "range" = none) (g_list : mg "list" = none) (g_len : mg "len" = none) {f__law_draw : Addr} {fd__law_draw : FuncData} (F__law_draw : FnP K "_law_draw" s__law_draw f__law_draw fd__law_draw) (m__law_draw : mg "_law_draw" = some (.ref f__law_draw)) (G__law_draw : FnG P w K mg base CX0 1 f__law_draw fd__law_draw ["stock", "size"] spDraw) : FnG P w K mg base CX0 2 f fd ["stock", "row"] spShuf := by
  have b__law_draw : Binds K fd__law_draw ["stock", "size"] [] := F__law_draw.bindsN fun _ _ _ _ _ _ us hl => match us, hl with | [_, _], _ => rfl
  refine okG0 F sc__law_shuffled (fun vs H Q E h => ?_) (fun cdv A outer s H vs Q E hS hr h => ?_)
  · obtain ⟨_, _, _, _, _, _, rfl, _⟩ := h
    rfl
  · obtain ⟨s0, d, c, a, xs, ds, rfl, hk, ha, hx, hl, nas, nad, q⟩ := h
    refine ⟨_, (pss_cons (ps_par (i := 2) (j := 3) (by rfl) sc__law_shuffled.nd rfl rfl (by decide) rfl rfl (pa_cons (pe_callTy (lstOfK K) (by rfl) g_list (by decide +kernel) (pa_cons (pv 1) pa_nil)) (pa_cons (pe_lst pa_nil) pa_nil)) (by rfl))
      (pss_cons (ps_for PassesOwn.never rfl (pi_range1 rfl g_range (pa_cons (pe_callB (lenK K) (by rfl) g_len (by decide +kernel) (pa_cons (pv 1) pa_nil)) pa_nil)) (pg_name (i := 4) sc__law_shuffled.nd rfl (Or.inl rfl)) (pss_one (ps_expr (pe_bm PySem.F.plainAttrs_list PySem.F.slot_list_append PySem.F.type_list_append mt_append (pv 3) (pa_cons (pe_bm PySem.F.plainAttrs_list PySem.F.slot_list_pop PySem.F.type_list_pop mt_popAt (pv 2) (pa_cons (pe_callG G__law_draw hS (hr.mono (by decide)) (by rfl) m__law_draw F__law_draw.kp b__law_draw .nil pass0 (pa_cons (pv 0) (pa_cons (pe_callB (lenK K) (by rfl) g_len (by decide +kernel) (pa_cons (pv 2) pa_nil)) pa_nil))) pa_nil)) pa_nil)))))
      (pss_one (ps_ret (pv 3))))), ?_⟩
    -- rest, found = list(row), []
    refine ⟨_, rfl, a, xs, rfl, .inl (SqL.of ha), fun R hR => ⟨szl (Nat.zero_le _), fun D hD => ?_⟩⟩
    have hR0 : H R = none := hR
    have nRD : R ≠ D := ne_new upd_same hD
    have hD0 : H D = none := (Fr.new (S := []) (o := .lst xs) hR).free hD
    have fa : Fr [s0, d] H (upd (upd H R (.lst xs)) D (.lst [])) := (Fr.new hR).add hD
    refine ⟨_, _, rfl, ?_⟩
    -- for turn in range(len(row))
    have eA := fa.keep _ _ ha (by simp [nas, nad])
    refine ⟨_, rfl, a, xs, rfl, .inl (SqL.of eA), (xs.length : Nat), rfl, by omega, by omega, ?_⟩
    have kk : Stk s0 d c (upd (upd H R (.lst xs)) D (.lst [])) := (hk.add hk hR).add (hk.add hk hR) hD
    obtain ⟨r1, r2, r3⟩ := hk.apart hR0
    obtain ⟨q1, q2, q3⟩ := hk.apart hD0
    refine for_range (lo := 0) (n := xs.length) (fun i σ H' => ∃ y4 us ws ds1 ds2, σ = [some (.ref s0), some (.ref a), some (.ref R), some (.ref D), y4] ∧ Stk s0 d c H' ∧ Fr [s0, d] H H' ∧
      H' R = some (.lst us) ∧ Tps H' us ds1 ∧ H' D = some (.lst ws) ∧ Tps H' ws ds2 ∧ ds2.length = i ∧ (ds1 ++ ds2).Perm ds) ?_ ?_ ?_
    · exact ⟨none, xs, [], ds, [], rfl, kk, fa, by rw [upd_ne nRD, upd_same], hx.fr fa, upd_same, .nil, rfl, by rw [List.append_nil]⟩
    · rintro i σ H1 hi ⟨y4, us, ws, ds1, ds2, rfl, k1, f1, e1, t1, e2, t2, l2, pm⟩
      have lx := hx.length
      have lu := t1.length
      have lw := t2.length
      have lp := pm.length_eq
      rw [List.length_append] at lp
      have hu : 0 < us.length := by omega
      -- found.append(rest.pop(draw(stock, len(rest))))
      refine ⟨_, rfl, .inl ⟨rfl, _, SqL.of e2⟩, _, rfl, .inl ⟨rfl, _, SqL.of e1⟩, _, rfl, _, rfl, R, us, rfl, .inl (SqL.of e1), ?_⟩
      refine ⟨s0, d, c, us.length, rfl, k1, hu, by omega, fun H2 r hr2 k2 f2 => ?_⟩
      have eR := f2.keep _ _ e1 (by simp [r1, r2])
      have eD := f2.keep _ _ e2 (by simp [q1, q2])
      have t1' := t1.fr f2
      have t2' := t2.fr f2
      obtain ⟨y, ey⟩ : ∃ y, us[r]? = some y := ⟨us[r], List.getElem?_eq_getElem hr2⟩
      obtain ⟨dy, edy, ty⟩ := t1'.at ey
      refine ⟨R, us, r, r, y, rfl, rfl, eR, by omega, by omega, seq_at hr2, ey, ?_⟩
      have f3 : Fr [s0, d] H (upd H2 R (.lst (us.eraseIdx r))) := (f1.trans f2).set (.inl hR0) (fun xs z => by rw [eR] at z; cases z)
      have g3 : Fr [R] H2 (upd H2 R (.lst (us.eraseIdx r))) := Fr.refl.set (.inr List.mem_cons_self) (fun xs z => by rw [eR] at z; cases z)
      have eD3 : upd H2 R (.lst (us.eraseIdx r)) D = some (.lst ws) := by rw [upd_ne nRD.symm]; exact eD
      refine ⟨D, ws, y, rfl, rfl, eD3, szlt (by omega), ?_⟩
      have f4 : Fr [s0, d] H (upd (upd H2 R (.lst (us.eraseIdx r))) D (.lst (ws ++ [y]))) := f3.set (.inl hD0) (fun xs z => by rw [eD3] at z; cases z)
      have g4 : Fr [D] (upd H2 R (.lst (us.eraseIdx r))) (upd (upd H2 R (.lst (us.eraseIdx r))) D (.lst (ws ++ [y]))) := Fr.refl.set (.inr List.mem_cons_self) (fun xs z => by rw [eD3] at z; cases z)
      refine ⟨_, us.eraseIdx r, ws ++ [y], ds1.eraseIdx r, ds2 ++ [dy], rfl, hk.add (hk.add k2 hR0) hD0, f4, ?_, ((t1'.erase r).fr g3).fr g4, upd_same, ((t2'.fr g3).fr g4).app (Tps.one ((ty.fr g3).fr g4)), ?_, ?_⟩
      · rw [upd_ne nRD, upd_same]
      · rw [List.length_append, l2]
        rfl
      · refine List.Perm.trans ?_ pm
        exact perm_move edy
    · rintro σ H1 ⟨y4, us, ws, ds1, ds2, rfl, k1, f1, e1, t1, e2, t2, l2, pm⟩
      have lp := pm.length_eq
      rw [List.length_append] at lp
      have lx := hx.length
      have ld : ds1 = [] := List.eq_nil_of_length_eq_zero (by omega)
      subst ld
      exact ⟨_, rfl, q H1 D ws ds2 pm f1 hD0 k1 e2 t2⟩
end
end Lt

set_option Elab.async false
set_option linter.all false
set_option maxRecDepth 100000
set_option maxHeartbeats 4000000
namespace Lt
open PySem PySem.Spec PyProof.Rows L2
section
variable {P : Program} {w : World} {K : PySem.W.Frag} {mg : Str → Option Value} {base : Heap} {f : Addr} {fd : FuncData}
theorem ok_law_pairs (F : FnP K "_law_pairs" s__law_pairs f fd) (g_range : mg "range" = none) : FnG P w K mg base CX0 1 f fd ["many"] spPairs := by
  refine okG0 F sc__law_pairs (fun vs H Q E h => ?_) (fun cdv A outer s H vs Q E hS hr h => ?_)
  · obtain ⟨_, rfl, _⟩ := h
    rfl
  · obtain ⟨n, rfl, hn, q⟩ := h
    refine ⟨_, (pss_cons (ps_set (i := 1) sc__law_pairs.nd rfl (Or.inl rfl) (pe_lst pa_nil))
      (pss_cons (ps_for PassesOwn.never rfl (pi_range1 rfl g_range (pa_cons (pv 0) pa_nil)) (pg_name (i := 2) sc__law_pairs.nd rfl (Or.inr rfl)) (pss_one (ps_set (i := 1) sc__law_pairs.nd rfl (Or.inl rfl) (pe_op op_cat (pv 1) (pe_lc (own := [("b", 3)]) (g := (gName 3)) (tt := tYes) rfl sc__law_pairs.nd (pi_range2 rfl g_range (pa_cons (pe_op op_add (pv 2) pe_int) (pa_cons (pv 0) pa_nil))) (blkOk_by (own := [("b", 3)]) (N := N__law_pairs) (sc := defScope s__law_pairs) (by decide +kernel)) (fun _ _ _ _ _ => (pg_name (i := 3) sc__law_pairs.nd rfl (Or.inl rfl))) (fun _ _ _ _ _ => pts_nil) (fun _ _ _ _ _ => (pe_tup (pa_cons (pv 2) (pa_cons (pv 3) pa_nil)))))))))
      (pss_one (ps_ret (pv 1))))), ?_⟩
    refine ⟨szl (Nat.zero_le _), fun R hR => ?_⟩
    refine ⟨_, rfl, n, rfl, by omega, by omega, ?_⟩
    refine for_range (lo := 0) (n := n) (fun i σ H' => ∃ p ys y2, σ = [some (.int n), some (.ref p), y2, none] ∧ Fr [] H H' ∧ H p = none ∧ H' p = some (.lst ys) ∧ Tps H' ys (dPs (pairsTo n i))) ?_ ?_ ?_
    · exact ⟨R, [], none, rfl, Fr.new hR, hR, upd_same, .nil⟩
    · rintro i σ H1 hi ⟨p, ys, y2, rfl, f1, np, e1, t1⟩
      refine ⟨_, rfl, _, rfl, _, _, rfl, rfl, _, rfl, ((0 : Int) + i) + 1, n, rfl, ⟨by omega, by omega, by omega, by omega⟩, fun D hD => ?_⟩
      have hm : ((n : Int) - (((0 : Int) + i) + 1)).toNat = n - (i + 1) := by omega
      have C : LcC [] (fun _ => True) H1 D := ⟨hD, List.not_mem_nil, fun _ _ h => h⟩
      refine lcr (M := fun k ds => ds = made (List.range (n - (i + 1))) (fun j => some (i, i + 1 + j)) dP k) C trivial rfl ?_ ?_
      · intro j H2 zs ds hj L
        rw [hm] at hj
        have ej := range_at hj
        refine ⟨rfl, tyes ?_⟩
        refine ⟨_, rfl, _, rfl, szl (Nat.le_of_ble_eq_true rfl), fun p2 hp2 => ?_⟩
        refine L.put C (d := dP (i, i + 1 + j)) (by omega) (Fr.new hp2) trivial (Tp.pr (p := (i, i + 1 + j)) (by rw [upd_same]; simp only [Option.some.injEq, HO.tup.injEq, List.cons.injEq, V.int.injEq, and_true]; omega)) ?_
        rw [L.m]
        exact (made_some (f := fun j => some (i, i + 1 + j)) (en := dP) ej rfl).symm
      · intro H2 zs ds L
        have em := L.m
        rw [hm, made_all (by rw [List.length_range]; exact Nat.le_refl _), filterMap_one] at em
        have td := L.dat
        rw [em] at td
        have e2 := L.fr.keep _ _ e1 List.not_mem_nil
        have lz := td.length
        have ly := t1.length
        rw [List.length_map, List.length_map, List.length_range] at lz
        rw [List.length_map] at ly
        have lp := pairsTo_len n i
        have : i * n ≤ 20 * 20 := Nat.mul_le_mul (by omega) hn
        refine ⟨p, D, ys, zs, rfl, rfl, e2, L.at_, szl (by omega), fun p3 hp3 => ?_⟩
        have f3 : Fr [] H2 (upd H2 p3 (.lst (ys ++ zs))) := Fr.new hp3
        refine ⟨p3, ys ++ zs, some (.int (0 + i)), rfl, (f1.trans L.fr).trans f3, (f1.trans L.fr).free hp3, upd_same, ?_⟩
        rw [pairsTo_succ, dPs_app]
        exact ((t1.fr L.fr).fr f3).app (td.fr f3)
    · rintro σ H1 ⟨p, ys, y2, rfl, f1, np, e1, t1⟩
      exact ⟨_, rfl, q H1 p ys f1 np e1 t1⟩
end
end Lt

set_option Elab.async false
set_option linter.all false
set_option maxRecDepth 100000
set_option maxHeartbeats 4000000
namespace Lt
open PySem PySem.Spec PyProof.Rows L2
/-! ## the other ends of the ties of a place -/
abbrev endF (i : Nat) : Pr → Option Nat := fun p => if i = p.1 ∨ i = p.2 then some (p.1 + p.2 - i) else none
def ends (ps : List Pr) (i : Nat) : List Nat := ps.filterMap (endF i)
theorem mem_ends {n : Nat} {ps : List Pr} (w : WebOk n ps) {i j : Nat} (hi : i < n) : j ∈ ends ps i ↔ j ∈ nbs n ps i := by
  unfold ends nbs
  rw [List.mem_filterMap, List.mem_filter, List.mem_range]
  unfold tied
  rw [decide_eq_true_iff]
  constructor
  · rintro ⟨p, m, e⟩
    have hp := mem_pairsOf.mp (w.ins p m)
    by_cases c : i = p.1 ∨ i = p.2
    · simp only [endF, c, if_true, Option.some.injEq] at e
      refine ⟨by omega, ?_⟩
      have : (min i j, max i j) = p := by
        obtain ⟨a, b⟩ := p
        simp only at hp c e
        simp only [Prod.mk.injEq]
        omega
      rw [this]
      exact m
    · simp only [endF, c, if_false] at e
      cases e
  · rintro ⟨hj, m⟩
    have hp := mem_pairsOf.mp (w.ins _ m)
    simp only at hp
    refine ⟨_, m, ?_⟩
    have c : i = min i j ∨ i = max i j := by omega
    simp only [endF, c, if_true, Option.some.injEq]
    omega
theorem ends_nodup {n : Nat} {ps : List Pr} (w : WebOk n ps) (i : Nat) : (ends ps i).Nodup := by
  unfold ends
  refine List.pairwise_filterMap.mpr ((up_nodup w.up).imp_of_mem ?_)
  intro p q mp mq hne x hx y hy e
  subst e
  have hp := mem_pairsOf.mp (w.ins p mp)
  have hq := mem_pairsOf.mp (w.ins q mq)
  apply hne
  obtain ⟨a, b⟩ := p
  obtain ⟨c, d⟩ := q
  simp only at hp hq
  simp only [endF] at hx hy
  split at hx
  · split at hy
    · simp only [Option.some.injEq] at hx hy
      simp only [Prod.mk.injEq]
      omega
    · cases hy
  · cases hx
theorem ends_perm {n : Nat} {ps : List Pr} (w : WebOk n ps) {i : Nat} (hi : i < n) : (ends ps i).Perm (nbs n ps i) :=
  (List.perm_ext_iff_of_nodup (ends_nodup w i) ((List.nodup_range).sublist List.filter_sublist)).mpr fun _ => mem_ends w hi
theorem nbs_sorted (n : Nat) (ps : List Pr) (i : Nat) : (nbs n ps i).Pairwise (· ≤ ·) := (List.pairwise_le_range).sublist List.filter_sublist
theorem sorted_nats {ns' : List Int} {l m : List Nat} (h : ns'.Perm (l.map fun i => ((i : Nat) : Int))) (hs : ns'.Pairwise (· ≤ ·)) (p : l.Perm m) (hm : m.Pairwise (· ≤ ·)) : ns' = m.map fun i => ((i : Nat) : Int) :=
  List.Perm.eq_of_pairwise (fun _ _ _ _ a b => Int.le_antisymm a b) hs (List.pairwise_map.mpr (hm.imp fun h => by omega)) (h.trans (p.map _))
/-! ## each tie has two ends -/
theorem sum_ends (a b : Nat) (h : a < b) : ∀ n, ((List.range n).map fun i => if i = a ∨ i = b then 1 else 0).sum = (if a < n then 1 else 0) + (if b < n then 1 else 0)
  | 0 => by simp
  | n + 1 => by
    rw [List.range_succ, List.map_append, List.sum_append, sum_ends a b h n]
    simp only [List.map_cons, List.map_nil, List.sum_cons, List.sum_nil]
    split <;> split <;> split <;> split <;> split <;> omega
theorem sum_add {α : Type} (f g : α → Nat) : ∀ l : List α, (l.map fun x => f x + g x).sum = (l.map f).sum + (l.map g).sum
  | [] => rfl
  | x :: l => by
    simp only [List.map_cons, List.sum_cons]
    rw [sum_add f g l]
    omega
theorem ends_sum (n : Nat) : ∀ ps : List Pr, (∀ p ∈ ps, p.1 < p.2 ∧ p.2 < n) → ((List.range n).map fun i => (ends ps i).length).sum = 2 * ps.length
  | [], _ => by
    have : ∀ l : List Nat, (l.map fun i => (ends [] i).length).sum = 0 := by
      intro l
      induction l with
      | nil => rfl
      | cons x l ih => rw [List.map_cons, List.sum_cons, ih]; rfl
    rw [this]
    rfl
  | p :: ps, h => by
    have hp := h p List.mem_cons_self
    have ih := ends_sum n ps fun q m => h q (List.mem_cons_of_mem _ m)
    have e : ∀ i : Nat, (ends (p :: ps) i).length = (if i = p.1 ∨ i = p.2 then 1 else 0) + (ends ps i).length := fun i => by
      unfold ends
      rw [List.filterMap_cons]
      by_cases c : i = p.1 ∨ i = p.2
      · simp only [endF, c, if_true, List.length_cons]
        omega
      · simp only [endF, c, if_false]
        omega
    rw [List.map_congr_left fun i _ => e i, sum_add, ih, sum_ends p.1 p.2 hp.1, List.length_cons, if_pos hp.2, if_pos (by omega)]
    omega
theorem nums_sum {n : Nat} {ps : List Pr} (w : WebOk n ps) : (nums n ps).sum = 2 * ps.length := by
  rw [← ends_sum n ps fun p m => mem_pairsOf.mp (w.ins p m)]
  unfold nums
  congr 1
  exact List.map_congr_left fun i m => (ends_perm w (List.mem_range.mp m)).length_eq.symm
theorem odd_count (f : Nat → Nat) : ∀ l : List Nat, (l.filter fun i => f i % 2 == 1).length % 2 = (l.map f).sum % 2
  | [] => rfl
  | x :: l => by
    have ih := odd_count f l
    rw [List.filter_cons, List.map_cons, List.sum_cons]
    by_cases c : f x % 2 = 1
    · rw [if_pos (by rw [c]; rfl), List.length_cons]
      omega
    · rw [if_neg (by simpa using c)]
      omega
theorem odds_even {n : Nat} {ps : List Pr} (w : WebOk n ps) : (odds n ps).length % 2 = 0 := by
  have h := odd_count (fun i => (nbs n ps i).length) (List.range n)
  have s := nums_sum w
  unfold nums at s
  unfold odds
  rw [h, s]
  omega
end Lt

set_option Elab.async false
set_option linter.all false
set_option maxRecDepth 100000
set_option maxHeartbeats 4000000
namespace Lt
open PySem PySem.Spec PyProof.Rows L2
/-! ## what deeds keep -/
def at2 (s p i j : Nat) : Bool := decide ((i = s ∧ j = p) ∨ (i = p ∧ j = s))
def xorP (f : Nat → Nat → Bool) (s p : Nat) : Nat → Nat → Bool := fun i j => f i j != at2 s p i j
def Sym (f : Nat → Nat → Bool) : Prop := ∀ i j, f i j = f j i
theorem tied_sym (ps : List Pr) : Sym (tied ps) := fun i j => by
  unfold tied
  rw [Nat.min_comm, Nat.max_comm]
theorem at2_sym (s p i j : Nat) : at2 s p i j = at2 s p j i := by
  unfold at2
  congr 1
  apply propext
  omega
theorem Sym.xorP {f : Nat → Nat → Bool} (h : Sym f) (s p : Nat) : Sym (xorP f s p) := fun i j => by
  unfold Lt.xorP
  rw [h i j, at2_sym]
theorem flip_xor {f : Nat → Nat → Bool} (h : Sym f) (s p : Nat) : flipP f s p = xorP f s p := by
  funext i j
  unfold flipP setF xorP at2
  by_cases c1 : i = p ∧ j = s
  · rw [if_pos c1, decide_eq_true (.inr c1), c1.1, c1.2, h p s]
    cases f s p <;> rfl
  · rw [if_neg c1]
    by_cases c2 : i = s ∧ j = p
    · rw [if_pos c2, decide_eq_true (.inl c2), c2.1, c2.2]
      cases f s p <;> rfl
    · rw [if_neg c2, decide_eq_false (by rintro (z | z); exact c2 z; exact c1 z)]
      cases f i j <;> rfl
theorem hand_xor {f : Nat → Nat → Bool} (h : Sym f) (a d b c : Nat) : handF f a d b c = xorP (xorP (xorP (xorP f a b) a c) d b) d c := by
  show flipP (flipP (flipP (flipP f a b) a c) d b) d c = _
  rw [flip_xor h, flip_xor (h.xorP _ _), flip_xor ((h.xorP _ _).xorP _ _), flip_xor (((h.xorP _ _).xorP _ _).xorP _ _)]
/-- how many there are of a row -/
def cnt (n : Nat) (g : Nat → Bool) : Nat := ((List.range n).filter g).length
theorem cnt_succ (n : Nat) (g : Nat → Bool) : cnt (n + 1) g = cnt n g + (if g n then 1 else 0) := by
  unfold cnt
  rw [List.range_succ, List.filter_append, List.length_append]
  cases e : g n <;> simp [e]
abbrev sg (x : Bool) : Int := if x then -1 else 1
theorem cnt_flip (g g' : Nat → Bool) (k : Nat) (hk : g' k = !g k) (ho : ∀ j, j ≠ k → g' j = g j) : ∀ n, (cnt n g' : Int) = cnt n g + (if k < n then sg (g k) else 0)
  | 0 => by simp [cnt]
  | n + 1 => by
    have ih := cnt_flip g g' k hk ho n
    rw [cnt_succ, cnt_succ]
    by_cases e : n = k
    · subst e
      rw [if_neg (Nat.lt_irrefl _)] at ih
      rw [if_pos (Nat.lt_succ_self _), hk]
      unfold sg
      cases g n <;> simp <;> omega
    · rw [ho n e]
      have hc : (if k < n + 1 then sg (g k) else 0) = (if k < n then sg (g k) else 0) := by
        by_cases c : k < n
        · rw [if_pos c, if_pos (by omega)]
        · rw [if_neg c, if_neg (by omega)]
      rw [hc]
      omega
def dl (f : Nat → Nat → Bool) (s p i : Nat) : Int := if i = s then sg (f s p) else if i = p then sg (f s p) else 0
theorem cnt_xor {f : Nat → Nat → Bool} (h : Sym f) {s p n : Nat} (hs : s < n) (hp : p < n) (hne : s ≠ p) (i : Nat) : (cnt n (xorP f s p i) : Int) = cnt n (f i) + dl f s p i := by
  unfold dl
  by_cases c1 : i = s
  · subst c1
    rw [if_pos rfl]
    have := cnt_flip (f i) (xorP f i p i) p (by unfold xorP at2; cases f i p <;> simp) (fun j hj => by unfold xorP at2; rw [decide_eq_false (by omega)]; cases f i j <;> rfl) n
    rw [if_pos hp] at this
    exact this
  · rw [if_neg c1]
    by_cases c2 : i = p
    · subst c2
      rw [if_pos rfl]
      have := cnt_flip (f i) (xorP f s i i) s (by unfold xorP at2; cases f i s <;> simp) (fun j hj => by unfold xorP at2; rw [decide_eq_false (by omega)]; cases f i j <;> rfl) n
      rw [if_pos hs, h i s] at this
      exact this
    · rw [if_neg c2]
      have : xorP f s p i = f i := by
        funext j
        unfold xorP at2
        rw [decide_eq_false (by omega)]
        cases f i j <;> rfl
      rw [this]
      omega
theorem xor_at {f : Nat → Nat → Bool} {s p i j : Nat} (h : ¬ ((i = s ∧ j = p) ∨ (i = p ∧ j = s))) : xorP f s p i j = f i j := by
  unfold xorP at2
  rw [decide_eq_false h]
  cases f i j <;> rfl
structure Apart4 (a d b c : Nat) : Prop where
  ad : a ≠ d
  ab : a ≠ b
  ac : a ≠ c
  db : d ≠ b
  dc : d ≠ c
  bc : b ≠ c
theorem cnt_hand {f : Nat → Nat → Bool} (h : Sym f) {a d b c n : Nat} (A : Apart4 a d b c) (ha : a < n) (hd : d < n) (hb : b < n) (hc : c < n) (i : Nat) :
    (cnt n (handF f a d b c i) : Int) = cnt n (f i) + ((((if i = a then sg (f a b) else if i = b then sg (f a b) else 0) + (if i = a then sg (f a c) else if i = c then sg (f a c) else 0)) + (if i = d then sg (f d b) else if i = b then sg (f d b) else 0)) + (if i = d then sg (f d c) else if i = c then sg (f d c) else 0)) := by
  obtain ⟨n1, n2, n3, n4, n5, n6⟩ := A
  rw [hand_xor h, cnt_xor (((h.xorP _ _).xorP _ _).xorP _ _) hd hc n5, cnt_xor ((h.xorP _ _).xorP _ _) hd hb n4, cnt_xor (h.xorP _ _) ha hc n3, cnt_xor h ha hb n2]
  unfold dl
  have e1 : xorP f a b a c = f a c := xor_at (by omega)
  have e2 : xorP (xorP f a b) a c d b = f d b := (xor_at (by omega)).trans (xor_at (by omega))
  have e3 : xorP (xorP (xorP f a b) a c) d b d c = f d c := ((xor_at (by omega)).trans (xor_at (by omega))).trans (xor_at (by omega))
  rw [e1, e2, e3]
  omega
/-- how each place's number changes -/
def dueOf (f : Nat → Nat → Bool) (a d b c i : Nat) : Int := if f b a == f c a then (if i = a then (if f b a then -2 else 2) else if i = d then (if f b a then 2 else -2) else 0) else 0
theorem cnt_due {f : Nat → Nat → Bool} (h : Sym f) {a d b c n : Nat} (A : Apart4 a d b c) (ha : a < n) (hd : d < n) (hb : b < n) (hc : c < n) (t1 : f b a ≠ f b d) (t2 : f c a ≠ f c d) (i : Nat) :
    (cnt n (handF f a d b c i) : Int) = cnt n (f i) + dueOf f a d b c i := by
  rw [cnt_hand h A ha hd hb hc, h a b, h a c, h d b, h d c]
  obtain ⟨n1, n2, n3, n4, n5, n6⟩ := A
  unfold dueOf sg
  congr 1
  generalize f b a = x1 at *
  generalize f b d = x2 at *
  generalize f c a = x3 at *
  generalize f c d = x4 at *
  by_cases i1 : i = a
  · have : i ≠ d := by omega
    have : i ≠ b := by omega
    have : i ≠ c := by omega
    cases x1 <;> cases x2 <;> cases x3 <;> cases x4 <;> simp_all
  · by_cases i2 : i = d
    · have : i ≠ b := by omega
      have : i ≠ c := by omega
      cases x1 <;> cases x2 <;> cases x3 <;> cases x4 <;> simp_all
    · by_cases i3 : i = b
      · have : i ≠ c := by omega
        cases x1 <;> cases x2 <;> cases x3 <;> cases x4 <;> simp_all
      · by_cases i4 : i = c
        · cases x1 <;> cases x2 <;> cases x3 <;> cases x4 <;> simp_all
        · simp [i1, i2, i3, i4]
end Lt

set_option Elab.async false
set_option linter.all false
set_option maxRecDepth 100000
set_option maxHeartbeats 4000000
namespace Lt
open PySem PySem.Spec PyProof.Rows L2
/-! ## sorted(t), t a tuple of pairs of ints -/
theorem sorted_tup {prog : Program} {w : World} {A : Around} {E : Value → Shared → Prop} {s : Shared} {l : Addr} {vs : List Value} {k : Value → Int × Int} {Q : Value → Shared → Prop} (hl : s.heap.IsTuple l vs.toArray) (hz : vs.length ≤ sizeLine) (hp : ∀ v ∈ vs, Srt.IsPair s.heap v (k v).1 (k v).2)
    (h : ∀ (h' : Heap) (d : Addr) (out : List Value), SrtO.Srtd (fun v u => SrtO.lexB (k v) (k u)) out → SrtO.Stb (fun v u => SrtO.lexB (k v) (k u)) out vs → (∀ b o, s.heap.get? b = some o → h'.get? b = some o) → (∃ hm : Heap, (∀ b o, s.heap.get? b = some o → hm.get? b = some o) ∧ hm.objs.size = d) → (∃ n, h'.get? d = some (seqObj "list" out.toArray n)) → Q (.ref d) { s with heap := h' }) :
    wpAny (model prog w) A (call (.builtin "sorted") [.ref l]) Q E s := by
  obtain ⟨ol, hol, hc, nl, hd⟩ := id hl
  refine Calls.call_function_entry kind_sorted plain_sorted entry_sorted (args_sorted1 _) ?_
  unfold Builtin.«sorted»
  refine wpAny_bind (m := checkCount "sorted" 1 1 _) (wpAny_pure ?_)
  refine wpAny_bind (wpAny_collect_seq l (T := "tuple") (.inr rfl) hol hc hd (fun h1 k1 => ?_) (by rw [List.size_toArray]; exact hz))
  refine wpAny_bind (wpAny_newList ?_ hz)
  have hoL : (h1.push (seqObj "list" vs.toArray 0)).get? h1.objs.size = some (seqObj "list" vs.toArray 0) := Heap.get?_push_size _ rfl
  have kp : ∀ b o, s.heap.get? b = some o → b ≠ h1.objs.size ∧ (h1.push (seqObj "list" vs.toArray 0)).get? b = some o := fun b o q =>
    ⟨Nat.ne_of_lt (Heap.lt_size (k1 b o q)), Heap.get?_push_of_some _ (k1 b o q)⟩
  show wpAny _ _ _ _ _ { s with heap := h1.push (seqObj "list" vs.toArray 0) }
  refine wpAny_bind (wpAny_holding (wpAny_call_entry slot_list_sort ⟨_, hoL, rfl⟩ entry_list_sort (SrtO.list_sort_ord (SrtO.swo_lex k) hoL hz (fun h2 => ?_) fun out hs hb => ⟨_, rfl, ?_⟩) (args_list_sort _)))
  · refine SrtO.pairs_sortableO (s := { s with heap := h1.push (seqObj "list" vs.toArray 0) }) (by omega) (fun v hm => (hp v hm).keeps fun b o e _ => (kp b o e).2) fun o e => ?_
    have e' : some o = some (seqObj "list" vs.toArray 0) := e.symm.trans hoL
    cases e'
    intro c
    exact absurd (Value.type.inj c) (by decide)
  · refine wpAny_pure ⟨_, rfl, h _ h1.objs.size out hs hb (fun b o q => ?_) ⟨h1, k1, rfl⟩ (sortedHeap_at hoL)⟩
    obtain ⟨a1, a2⟩ := kp b o q
    rw [sortedHeap_old a1 (Heap.lt_size a2)]
    exact a2
/-- sorted(t), t a tuple of pairs of ints -/
def rSortedTP (K : PySem.W.Frag) : List V → Hp → VK → Prop := fun vs H Q => ∃ (a : Addr) (xs : List V) (k : V → Int × Int), vs = [V.ref a] ∧ SqT K H a xs ∧ (∀ x ∈ xs, ∃ t, x = V.ref t ∧ H t = some (.tup [.int (k x).1, .int (k x).2])) ∧
  ∀ ys p, SrtO.Srtd (ltP k) ys → SrtO.Stb (ltP k) ys xs → H p = none → Q (.ref p) (upd H p (.lst ys))
theorem cr_sortedTP {X : Cx} : CallR X (.builtin "sorted") (rSortedTP X.K) := by
  intro pins s σ H vs us Q I r h
  obtain ⟨a, xs, k, rfl, hs, hx, q⟩ := h
  obtain ⟨its, rv, hl, hz⟩ := I.tuple hs
  have hl : s.heap.IsTuple a its.toArray := hl
  obtain ⟨u, rfl, ru⟩ := vals1 r
  obtain rfl : u = Value.ref a := ru
  obtain ⟨e1, e2⟩ := refs_back rv fun x m => by
    obtain ⟨t, e, _⟩ := hx x m
    exact ⟨t, e⟩
  refine sorted_tup (k := fun u => k (backV u)) hl (by rw [← rv.length]; exact hz) (fun v hv => ?_) fun h' d out h1 h2 kp hd hn => ?_
  · obtain ⟨t, rfl⟩ := e2 v hv
    have hm : V.ref t ∈ xs := by rw [e1]; exact List.mem_map.mpr ⟨_, hv, rfl⟩
    obtain ⟨t', e, ht⟩ := hx _ hm
    cases e
    obtain ⟨_, its2, r2, o, ho, hc, n, hd⟩ := I.hok _ _ ht
    obtain ⟨u1, u2, rfl, ri, rj⟩ := vals2 r2
    obtain ⟨t1, rfl⟩ := ri
    obtain ⟨t2, rfl⟩ := rj
    exact ⟨t, o, t1, t2, n, rfl, ho, hc, hd⟩
  · have h3 : ∀ u ∈ out, ∃ a, u = Value.ref a := fun u hu => e2 u (h2.perm.mem_iff.mp hu)
    obtain ⟨n, hn⟩ := hn
    obtain ⟨hm, km, em⟩ := hd
    have hb : SrtO.Stb (ltP k) (out.map backV) xs := by
      rw [e1]
      exact SrtO.Stb.map (ltP_swo k) backV h2
    have nd : H d = none := (I.hok.kept km).fresh (Nat.le_of_eq em)
    have nh : s.heap.get? d = none := by
      cases c : s.heap.get? d with
      | none => rfl
      | some o =>
        have := Heap.lt_size (km _ _ c)
        rw [em] at this
        exact absurd this (Nat.lt_irrefl _)
    refine ⟨.ref d, upd H d (.lst (out.map backV)), I.laidN (t' := s.toks) kp nh nd ⟨?_, out, n, vals_back h3, hn⟩, rfl, q _ d (SrtO.srtd_map h1) hb nd⟩
    rw [hb.len]
    exact hz
theorem sortedTPK {X : Cx} (K : PySem.W.Frag) (h : X.K = K := by rfl) : CallR X (.builtin "sorted") (rSortedTP K) := h ▸ cr_sortedTP
end Lt

set_option Elab.async false
set_option linter.all false
set_option maxRecDepth 100000
set_option maxHeartbeats 4000000
namespace Lt
open PySem PySem.Spec PyProof.Rows L2
/-! ## ties gone and come -/
abbrev nm (i j : Nat) : Pr := (min i j, max i j)
abbrev X4 (a d b c : Nat) : List Pr := [nm a b, nm a c, nm d b, nm d c]
theorem sym_nm {h : Nat → Nat → Bool} (s : Sym h) (i j : Nat) : h (min i j) (max i j) = h i j := by
  by_cases c : i ≤ j
  · rw [Nat.min_eq_left c, Nat.max_eq_right c]
  · rw [Nat.min_eq_right (by omega), Nat.max_eq_left (by omega)]
    exact s j i
theorem hand_sym {f : Nat → Nat → Bool} (h : Sym f) (a d b c : Nat) : Sym (handF f a d b c) := by
  rw [hand_xor h]
  exact (((h.xorP _ _).xorP _ _).xorP _ _).xorP _ _
theorem xor_self (f : Nat → Nat → Bool) (s p : Nat) : xorP f s p s p = !f s p := by
  unfold xorP at2
  cases f s p <;> simp
theorem hand_in4 {f : Nat → Nat → Bool} (h : Sym f) {a d b c : Nat} (A : Apart4 a d b c) : handF f a d b c a b = !f a b ∧ handF f a d b c a c = !f a c ∧ handF f a d b c d b = !f d b ∧ handF f a d b c d c = !f d c := by
  obtain ⟨n1, n2, n3, n4, n5, n6⟩ := A
  rw [hand_xor h]
  refine ⟨?_, ?_, ?_, ?_⟩
  · rw [xor_at (by omega), xor_at (by omega), xor_at (by omega), xor_self]
  · rw [xor_at (by omega), xor_at (by omega), xor_self, xor_at (by omega)]
  · rw [xor_at (by omega), xor_self, xor_at (by omega), xor_at (by omega)]
  · rw [xor_self, xor_at (by omega), xor_at (by omega), xor_at (by omega)]
theorem hand_out {f : Nat → Nat → Bool} (h : Sym f) {a d b c : Nat} {p : Pr} (hp : p.1 < p.2) (hx : p ∉ X4 a d b c) : handF f a d b c p.1 p.2 = f p.1 p.2 := by
  obtain ⟨x, y⟩ := p
  simp only [List.mem_cons, List.not_mem_nil, or_false, not_or, Prod.mk.injEq] at hx
  simp only at hp
  rw [hand_xor h, xor_at (by omega), xor_at (by omega), xor_at (by omega), xor_at (by omega)]
theorem tied_nm (ps : List Pr) (i j : Nat) : tied ps i j = decide (nm i j ∈ ps) := rfl
theorem mem_from {n : Nat} {g : Nat → Nat → Bool} {p : Pr} : p ∈ fromT n g ↔ (p.1 < p.2 ∧ p.2 < n) ∧ g p.1 p.2 = true := by
  unfold fromT
  rw [List.mem_filter, mem_pairsOf]
theorem tied_from {n : Nat} {g : Nat → Nat → Bool} (s : Sym g) {i j : Nat} (hi : i < n) (hj : j < n) (hne : i ≠ j) : tied (fromT n g) i j = g i j := by
  rw [tied_nm, Bool.eq_iff_iff, decide_eq_true_iff, mem_from, sym_nm s]
  exact ⟨fun z => z.2, fun z => ⟨by simp only; omega, z⟩⟩
theorem mem_tied {n : Nat} {ps : List Pr} (w : WebOk n ps) {p : Pr} : p ∈ ps ↔ (p.1 < p.2 ∧ p.2 < n) ∧ tied ps p.1 p.2 = true := by
  have e := fromT_tied w
  constructor
  · intro m
    rw [← e] at m
    exact mem_from.mp m
  · intro m
    rw [← e]
    exact mem_from.mpr m
theorem x4_nodup {a d b c : Nat} (A : Apart4 a d b c) : (X4 a d b c).Nodup := by
  obtain ⟨n1, n2, n3, n4, n5, n6⟩ := A
  simp only [List.nodup_cons, List.mem_cons, List.not_mem_nil, or_false, not_or, Prod.mk.injEq, List.nodup_nil, and_true, not_false_eq_true]
  omega
section
variable {n : Nat} {ps : List Pr} {a d b c : Nat}
theorem x4_flip (w : WebOk n ps) (A : Apart4 a d b c) (ha : a < n) (hd : d < n) (hb : b < n) (hc : c < n) {p : Pr} (hp : p ∈ X4 a d b c) : (p.1 < p.2 ∧ p.2 < n) ∧ handF (tied ps) a d b c p.1 p.2 = !tied ps p.1 p.2 := by
  have s := tied_sym ps
  have hs := hand_sym s a d b c
  obtain ⟨h1, h2, h3, h4⟩ := hand_in4 s A
  obtain ⟨n1, n2, n3, n4, n5, n6⟩ := A
  simp only [List.mem_cons, List.not_mem_nil, or_false] at hp
  rcases hp with rfl | rfl | rfl | rfl
  · exact ⟨by simp only; omega, by rw [sym_nm hs, sym_nm s, h1]⟩
  · exact ⟨by simp only; omega, by rw [sym_nm hs, sym_nm s, h2]⟩
  · exact ⟨by simp only; omega, by rw [sym_nm hs, sym_nm s, h3]⟩
  · exact ⟨by simp only; omega, by rw [sym_nm hs, sym_nm s, h4]⟩
abbrev goneOf (ps qs : List Pr) : List Pr := ps.filter fun p => !decide (p ∈ qs)
theorem mem_gone (w : WebOk n ps) (A : Apart4 a d b c) (ha : a < n) (hd : d < n) (hb : b < n) (hc : c < n) {p : Pr} : p ∈ goneOf ps (fromT n (handF (tied ps) a d b c)) ↔ p ∈ X4 a d b c ∧ p ∈ ps := by
  rw [List.mem_filter, Bool.not_eq_true', decide_eq_false_iff_not, mem_from]
  constructor
  · rintro ⟨m, h⟩
    have m' := (mem_tied w).mp m
    refine ⟨Classical.byContradiction fun z => h ⟨m'.1, ?_⟩, m⟩
    rw [hand_out (tied_sym ps) m'.1.1 z]
    exact m'.2
  · rintro ⟨hx, m⟩
    have m' := (mem_tied w).mp m
    obtain ⟨_, e⟩ := x4_flip w A ha hd hb hc hx
    refine ⟨m, fun z => ?_⟩
    rw [e, m'.2] at z
    cases z.2
theorem mem_come (w : WebOk n ps) (A : Apart4 a d b c) (ha : a < n) (hd : d < n) (hb : b < n) (hc : c < n) {p : Pr} : p ∈ goneOf (fromT n (handF (tied ps) a d b c)) ps ↔ p ∈ X4 a d b c ∧ p ∉ ps := by
  rw [List.mem_filter, Bool.not_eq_true', decide_eq_false_iff_not, mem_from]
  constructor
  · rintro ⟨⟨h1, h2⟩, m⟩
    refine ⟨Classical.byContradiction fun z => m ((mem_tied w).mpr ⟨h1, ?_⟩), m⟩
    rw [← hand_out (tied_sym ps) h1.1 z]
    exact h2
  · rintro ⟨hx, m⟩
    obtain ⟨h1, e⟩ := x4_flip w A ha hd hb hc hx
    refine ⟨⟨h1, ?_⟩, m⟩
    rw [e]
    cases c : tied ps p.1 p.2 with
    | false => rfl
    | true => exact absurd ((mem_tied w).mpr ⟨h1, c⟩) m
theorem gone_len (w : WebOk n ps) (A : Apart4 a d b c) (ha : a < n) (hd : d < n) (hb : b < n) (hc : c < n) (t1 : tied ps b a ≠ tied ps b d) (t2 : tied ps c a ≠ tied ps c d) :
    (goneOf ps (fromT n (handF (tied ps) a d b c))).length = 2 ∧ (goneOf (fromT n (handF (tied ps) a d b c)) ps).length = 2 := by
  have nd := x4_nodup A
  have s := tied_sym ps
  rw [s b a, s b d] at t1
  rw [s c a, s c d] at t2
  have p1 : (goneOf ps (fromT n (handF (tied ps) a d b c))).Perm ((X4 a d b c).filter fun p => decide (p ∈ ps)) :=
    (List.perm_ext_iff_of_nodup ((up_nodup w.up).sublist List.filter_sublist) (nd.sublist List.filter_sublist)).mpr fun p => by
      rw [mem_gone w A ha hd hb hc, List.mem_filter, decide_eq_true_iff]
  have p2 : (goneOf (fromT n (handF (tied ps) a d b c)) ps).Perm ((X4 a d b c).filter fun p => !decide (p ∈ ps)) :=
    (List.perm_ext_iff_of_nodup ((up_nodup ((pairsTo_up n n).sublist List.filter_sublist)).sublist List.filter_sublist) (nd.sublist List.filter_sublist)).mpr fun p => by
      refine (mem_come w A ha hd hb hc).trans ?_
      rw [List.mem_filter, Bool.not_eq_true', decide_eq_false_iff_not]
  rw [p1.length_eq, p2.length_eq]
  simp only [X4, List.filter_cons, List.filter_nil]
  rw [← tied_nm ps a b, ← tied_nm ps a c, ← tied_nm ps d b, ← tied_nm ps d c]
  revert t1 t2
  cases tied ps a b <;> cases tied ps d b <;> cases tied ps a c <;> cases tied ps d c <;> simp
end
end Lt

set_option Elab.async false
set_option linter.all false
set_option maxRecDepth 100000
set_option maxHeartbeats 4000000
namespace Lt
open PySem PySem.Spec PyProof.Rows L2
/-! ## min of a list of tuples of ints, whose first item is a least one -/
abbrev dI (l : List Int) : PyData := .tuple (l.map PyData.int)
abbrev ltI (x y : List Int) : Bool := PySem.W.listLt x y
def rMinQ (K : PySem.W.Frag) : List V → Hp → VK → Prop := fun vs H Q => ∃ (a : Addr) (xs : List V) (t : List Int) (ts : List (List Int)), vs = [V.ref a] ∧ SqL K H a xs ∧ Tps H xs ((t :: ts).map dI) ∧ (∀ y ∈ ts, ltI y t = false) ∧ ∀ x, Tp H x (dI t) → Q x H
theorem min_first {t : List Int} : ∀ {ts : List (List Int)}, (∀ y ∈ ts, ltI y t = false) → PySem.W.minD (dI t) (ts.map dI) = dI t
  | [], _ => rfl
  | y :: ts, h => by
    have h1 : PySem.W.dataLt (dI y) (dI t) = false := by
      have e := PySem.W.DatumOrd.lt_eq (PySem.W.Tup.mk y) (PySem.W.Tup.mk t)
      exact e.trans (h y List.mem_cons_self)
    have ih := min_first (ts := ts) fun z m => h z (List.mem_cons_of_mem _ m)
    unfold PySem.W.minD at ih ⊢
    rw [List.map_cons, List.foldl_cons, h1]
    exact ih
theorem alike_dI (ls : List (List Int)) : PySem.W.AlikeAll (ls.map dI) := by
  constructor
  · intro x hx y hy
    obtain ⟨a, _, rfl⟩ := List.mem_map.mp hx
    obtain ⟨b, _, rfl⟩ := List.mem_map.mp hy
    exact PySem.W.DatumOrd.alike (PySem.W.Tup.mk a) (PySem.W.Tup.mk b)
  · intro x hx e
    obtain ⟨a, _, rfl⟩ := List.mem_map.mp hx
    cases e
theorem lay_dI (l : List Int) : (dI l).canLay0 = true := by
  show PyData.canLayAll0 (l.map PyData.int) = true
  induction l with
  | nil => rfl
  | cons x l ih => exact ih
theorem dep_ints : ∀ l : List Int, PyData.depthAll (l.map PyData.int) = 0
  | [] => rfl
  | x :: l => by
    rw [List.map_cons]
    unfold PyData.depthAll
    rw [dep_ints l]
    rfl
theorem dep_dIs : ∀ ls : List (List Int), PyData.depthAll (ls.map dI) ≤ 1
  | [] => Nat.zero_le _
  | l :: ls => by
    rw [List.map_cons]
    unfold PyData.depthAll
    have h1 := dep_dIs ls
    have h2 : (dI l).depth = 1 := by
      unfold PyData.depth
      rw [dep_ints]
    omega
theorem vals_at {H : Hp} : ∀ {xs : List V} {us : List Value} {i : Nat} {u : Value}, Vals xs us → us[i]? = some u → ∃ x, xs[i]? = some x ∧ RelV x u
  | _, _, 0, _, .cons a _, e => by
    cases e
    exact ⟨_, rfl, a⟩
  | _, _, i + 1, _, .cons _ t, e => vals_at (H := H) (i := i) t e
theorem cr_minQ {X : Cx} (hc : X.calm = true) (hu : X.A.units + 80 < cLine) : CallR X (.builtin "min") (rMinQ X.K) := by
  intro pins s σ H vs us Q I r h
  obtain ⟨a, xs, t, ts, rfl, hs, tp, hm, q⟩ := h
  obtain ⟨its, rv, hl, _⟩ := I.list hs
  rw [Vals.ref1 r]
  obtain ⟨as, ra⟩ := Dp.readsAll I _ xs its tp.dp rv
  refine PySem.W.min_list_data (x := dI t) (xs := ts.map dI) (I.ok.hd hc) hl.isList (by simpa using ra) (alike_dI (t :: ts)) ?_ ?_
  · have := dep_dIs (t :: ts)
    rw [List.map_cons] at this
    omega
  · intro i v h' tk bs hv hr hk
    obtain ⟨x, ex, rx⟩ := vals_at (H := H) rv (by simpa using hv)
    obtain ⟨d, ed, td⟩ := tp.at ex
    obtain ⟨cs, r2⟩ := Dp.reads I d x v td.dp rx
    rw [min_first hm] at hr
    have r3 := PyProof.Rows.Reads.keeps hk r2
    have e := PySem.SeqAt.Reads.unique _ _ _ _ _ (lay_dI t) hr r3
    rw [← e] at td
    exact ⟨x, H, I.kept hk, rx, q x td⟩
theorem minQK {X : Cx} (K : PySem.W.Frag) (hc : X.calm = true) (hu : X.A.units + 80 < cLine) (h : X.K = K := by rfl) : CallR X (.builtin "min") (rMinQ K) := h ▸ cr_minQ hc hu
theorem ltTK {X : Cx} (K : PySem.W.Frag) (hu : X.A.units + 80 < cLine) (h : X.K = K := by rfl) : OpR X (compareOp .Lt) (rLtT K) := h ▸ op_ltT (by omega)
theorem leTK {X : Cx} (K : PySem.W.Frag) (hu : X.A.units + 80 < cLine) (h : X.K = K := by rfl) : OpR X (compareOp .LtE) (rLeT K) := h ▸ op_leT (by omega)
theorem pi_listK {X : Cx} (K : PySem.W.Frag) {tg l : Expr} {tl : TE} (hl : PE X l tl) (h : X.K = K := by rfl) : PI X tg l (iList K tl) := h ▸ pi_list hl
theorem pi_tupK {X : Cx} (K : PySem.W.Frag) {tg l : Expr} {tl : TE} (hl : PE X l tl) (h : X.K = K := by rfl) : PI X tg l (iTup K tl) := h ▸ pi_tup hl
theorem ixSK {X : Cx} (K : PySem.W.Frag) (h : X.K = K := by rfl) : IxR X (rIx K) := h ▸ ix_seq
theorem isiK {X : Cx} (K : PySem.W.Frag) (h : X.K = K := by rfl) : CallR X (.builtin "isinstance") (rIsi K) := h ▸ call_isi
end Lt

set_option Elab.async false
set_option linter.all false
set_option maxRecDepth 100000
set_option maxHeartbeats 4000000
namespace Lt
open PySem PySem.Spec PyProof.Rows L2
/-- three names at once, plain locals: the last one is stored first -/
def tPar3 (i j l : Nat) (ta : TA) : TS := fun D σ H => ta σ H fun vs H1 => ∃ p q r, vs = [p, q, r] ∧ D.nx (((σ.set l (some r)).set j (some q)).set i (some p)) H1
theorem three_vals {vs : List V} {us : List Value} {p q r : V} (h : Vals vs us) (e : vs = [p, q, r]) : ∃ a b c, us = [a, b, c] ∧ RelV p a ∧ RelV q b ∧ RelV r c := by
  subst e
  cases h with
  | cons h1 t => cases t with
    | cons h2 t => cases t with
      | cons h3 t =>
        cases t
        exact ⟨_, _, _, rfl, h1, h2, h3⟩
section
variable {X : Cx} {i j l : Nat} {x y z : Str} {a b c : Expr} {ta : TA} {px py pz pt pt2 pos : Pos} {kt k2 : Nat}
theorem ps_par3 (calm : X.calm = true) (nod : X.N.Nodup) (ni : X.N[i]? = some x) (nj : X.N[j]? = some y) (nl : X.N[l]? = some z)
    (lx : X.env.scope.names.lookup x = some .local) (ly : X.env.scope.names.lookup y = some .local) (lz : X.env.scope.names.lookup z = some .local) (args : PA X [a, b, c] ta)
    (sw : swappedStores [.Tuple [.Name x px, .Name y py, .Name z pz] kt pt] (.Tuple [a, b, c] k2 pt2) X.env = pure (some [x, y, z]))
    (so : swapsWithSole [.Tuple [.Name x px, .Name y py, .Name z pz] kt pt] (.Tuple [a, b, c] k2 pt2) pos.line X.env = pure false := by rfl) :
    PS X (.Assign [.Tuple [.Name x px, .Name y py, .Name z pz] kt pt] (.Tuple [a, b, c] k2 pt2) pos) (tPar3 i j l ta) := by
  constructor
  intro pins st σ H D I h
  rw [exec_Assign_arm]
  refine wpAny_bind (wpAny_standAt ?_)
  rw [so]
  refine wpAny_bind (wpAny_pure ?_)
  rw [if_neg (by decide)]
  refine wpAny_bind (Tuple_ (thn (args.run _ pins st σ H _ I h) fun us t1 ⟨vs, H1, J, rel, fin⟩ => ?_))
  obtain ⟨p, q, r, e1, fin⟩ := fin
  obtain ⟨ua, ub, uc, rfl, ra, rb, rc⟩ := three_vals rel e1
  refine wpAny_newObj_type ?_ (by show 3 ≤ sizeLine; decide)
  have J2 : Inv X pins σ H1 { t1 with heap := t1.heap.push { cls := .type "tuple", data := .seq [ua, ub, uc].toArray } } := J.kept (t' := t1.toks) fun m o em => Heap.get?_push_of_some _ em
  rw [sw]
  refine wpAny_bind (wpAny_pure ?_)
  show wpAny (model X.prog X.w) X.A (do
    rule "assign.swapped-stores"
    let its ← unpackItems (.ref t1.heap.objs.size) 3 none
    assignInOrder [fun m => bindName X.env z m, fun m => bindName X.env y m, fun m => bindName X.env x m] its.reverse
    pure Flow.next) _ _ _
  refine wpAny_bind (wpAny_rule (wpAny_bind (unpackItems_tuple (items := #[ua, ub, uc]) (J.ok.hd calm) (IsTup.new t1.heap _) fun h2 keep => ?_)))
  have J3 := J2.kept (h' := h2) (t' := t1.toks) fun m o em => keep m o (Nat.ne_of_lt (Heap.lt_size em)) em
  show wpAny _ _ (assignInOrder [fun m => bindName X.env z m, fun m => bindName X.env y m, fun m => bindName X.env x m] [uc, ub, ua] >>= fun _ => pure Flow.next) _ _ _
  refine wpAny_bind (assignInOrder_cons (wpAny_bindName (store_ok J3 nod nl (.inl lz) rc (fun t4 J4 => ?_) (.inr lz))))
  refine assignInOrder_cons (wpAny_bindName (store_ok J4 nod nj (.inl ly) rb (fun t5 J5 => ?_) (.inr ly)))
  refine assignInOrder_cons (wpAny_bindName (store_ok J5 nod ni (.inl lx) ra (fun t6 J6 => assignInOrder_nil (wpAny_pure ?_)) (.inr lx)))
  exact ⟨_, H1, J6, fin⟩
end
end Lt

set_option Elab.async false
set_option linter.all false
set_option maxRecDepth 100000
set_option maxHeartbeats 4000000
namespace Lt
open PySem PySem.Spec PyProof.Rows L2
/-! ## sorted of a list of tuples of pairs -/
abbrev srt (bs : List (List Pr)) : List (List Pr) := bs.mergeSort (PySem.W.dataLe false (fun b => dT b))
def rSortedD (K : PySem.W.Frag) : List V → Hp → VK → Prop := fun vs H Q => ∃ (a : Addr) (xs : List V) (bs : List (List Pr)), vs = [V.ref a] ∧ SqL K H a xs ∧ Tps H xs (bs.map dT) ∧ (∀ b ∈ bs, b ≠ []) ∧ bs.length ≤ 100000 ∧
  ∀ ys p, H p = none → Tps H ys ((srt bs).map dT) → Q (.ref p) (upd H p (.lst ys))
abbrev prI (p : Pr) : Int × Int := ((p.1 : Int), (p.2 : Int))
theorem dT_datum (b : List Pr) : dT b = PySem.W.Datum.toD (PySem.W.Tup.mk (b.map prI)) := by
  show PyData.tuple (b.map dP) = PyData.tuple ((b.map prI).map PySem.W.Datum.toD)
  rw [List.map_map]
  rfl
theorem dT_alike (b c : List Pr) : PySem.W.alike (dT b) (dT c) = true := by
  rw [dT_datum, dT_datum]
  exact PySem.W.DatumOrd.alike _ _
theorem dep_dPs : ∀ b : List Pr, PyData.depthAll (dPs b) ≤ 1
  | [] => Nat.zero_le _
  | p :: b => by
    have h1 := dep_dPs b
    show PyData.depthAll (dP p :: dPs b) ≤ 1
    unfold PyData.depthAll
    have h2 : (dP p).depth = 1 := by
      unfold dP PyData.depth
      rw [show ([PyData.int p.1, PyData.int p.2] : List PyData) = [(p.1 : Int), (p.2 : Int)].map PyData.int from rfl, dep_ints]
    omega
theorem dep_dT (b : List Pr) : (dT b).depth ≤ 2 := by
  have := dep_dPs b
  unfold PyData.depth
  omega
theorem each_of {H : Hp} : ∀ {xs : List V} {us : List Value} {bs : List (List Pr)}, Vals xs us → Tps H xs (bs.map dT) → PySem.W.EachIs (fun u b => ∃ x, RelV x u ∧ Tp H x (dT b)) us bs
  | _, _, [], r, .nil => by
    cases r
    exact .nil
  | _, _, b :: bs, r, .cons t ts => by
    cases r with
    | cons r1 rs => exact .cons ⟨_, r1, t⟩ (each_of rs ts)
theorem back_of {H : Hp} : ∀ {us : List Value} {bs : List (List Pr)}, PySem.W.EachIs (fun u b => ∃ x, RelV x u ∧ Tp H x (dT b)) us bs → ∃ ys, Vals ys us ∧ Tps H ys (bs.map dT)
  | _, _, .nil => ⟨[], .nil, .nil⟩
  | _, _, .cons ⟨x, r, t⟩ e => by
    obtain ⟨ys, a, b⟩ := back_of e
    exact ⟨x :: ys, .cons r a, .cons t b⟩
theorem cr_sortedD {X : Cx} (hu : X.A.units + 80 < cLine) : CallR X (.builtin "sorted") (rSortedD X.K) := by
  intro pins s σ H vs us Q I r h
  obtain ⟨a, xs, bs, rfl, hs, tx, hne, hlen, q⟩ := h
  obtain ⟨its, rv, hl, hz⟩ := I.list hs
  rw [Vals.ref1 r]
  have e := each_of rv tx
  have er : PySem.W.EachIs (fun v b => ∃ as, PySem.Reads s.heap v (dT b) as) its bs := e.mono fun u b ⟨x, rx, t⟩ => Dp.reads I _ x u t.dp rx
  refine PySem.W.sorted_data (enc := dT) hl.isList e er (PySem.W.AllAlike.of dT_alike) (.inl fun d m => ?_) (szl hlen) (fun b _ => by have := dep_dT b; omega) fun out ho eo => ?_
  · obtain ⟨b, mb, rfl⟩ := List.mem_map.mp m
    cases b with
    | nil => exact absurd rfl (hne _ mb)
    | cons p b => exact ⟨_, _, rfl⟩
  · obtain ⟨ys, ry, ty⟩ := back_of eo
    obtain ⟨ep, he'⟩ := PyProof.Rows.sortedAll_at s.heap its out.toArray
    have hl2 : ys.length ≤ sizeLine := by
      rw [ry.length, ho]
      exact szl hlen
    exact ⟨.ref _, upd H (s.heap.objs.size + 1) (.lst ys), I.laid (t' := s.toks) (fun _ _ => PyProof.Rows.sortedAll_old) (Nat.le_succ _) ⟨hl2, out, ep, ry, he'⟩, rfl, q _ _ (I.hok.fresh (Nat.le_succ _)) ty⟩
theorem sortedDK {X : Cx} (K : PySem.W.Frag) (hu : X.A.units + 80 < cLine) (h : X.K = K := by rfl) : CallR X (.builtin "sorted") (rSortedD K) := h ▸ cr_sortedD hu
/-! ## what is walked, a list or a tuple -/
def iSeq (K : PySem.W.Frag) (tl : TE) : TI := fun σ H R => tl σ H fun x H1 => ∃ a, x = .ref a ∧ (((∃ xs, SqL K H1 a xs) ∧ R (Itl K a) H1) ∨ ((∃ xs, SqT K H1 a xs) ∧ R (L2.Itt K a) H1))
theorem pi_seq' {X : Cx} {tg l : Expr} {tl : TE} (hl : PE X l tl) : PI X tg l (iSeq X.K tl) := by
  constructor
  intro pins st σ H R I h
  refine thn (hl.run pins st σ H _ I h) fun u t1 ⟨x, H1, J, rel, fin⟩ => ?_
  obtain ⟨a, rfl, fin⟩ := fin
  cases rel
  rcases fin with ⟨⟨xs, hq⟩, fin⟩ | ⟨⟨xs, hq⟩, fin⟩
  · obtain ⟨its, rv, p, hz⟩ := J.list hq
    refine wpAny_pyIter_list p.isList ?_
    refine ⟨t1.heap.objs.size, [t1.heap.objs.size], _, _, H1, rfl, J.kept (t' := t1.toks) (fun m o em => Heap.get?_push_of_some _ em), turn_list a _, ⟨_, Heap.get?_push_size _ rfl, rfl, rfl⟩, fun m hm => ?_, fin⟩
    rw [List.mem_singleton.mp hm]
    exact J.fpOk (Nat.le_refl _) (J.hok.fresh (Nat.le_refl _))
  · obtain ⟨its, rv, p, hz⟩ := J.tuple hq
    refine wpAny_pyIter_tuple (show t1.heap.IsTuple a its.toArray from p) ?_
    refine ⟨t1.heap.objs.size, [t1.heap.objs.size], _, _, H1, rfl, J.kept (t' := t1.toks) (fun m o em => Heap.get?_push_of_some _ em), turn_tuple a _, ⟨_, Heap.get?_push_size _ rfl, rfl, rfl⟩, fun m hm => ?_, fin⟩
    rw [List.mem_singleton.mp hm]
    exact J.fpOk (Nat.le_refl _) (J.hok.fresh (Nat.le_refl _))
theorem pi_seqK {X : Cx} (K : PySem.W.Frag) {tg l : Expr} {tl : TE} (hl : PE X l tl) (h : X.K = K := by rfl) : PI X tg l (iSeq K tl) := h ▸ pi_seq' hl
/-- a comprehension over a list or a tuple -/
theorem lc_seq {K : PySem.W.Frag} {S : List Addr} {J : Hp → Prop} {M : Nat → List PyData → Prop} {g : TG} {tt : TT} {te : TE} {vs : List Nat} {σ : Slots} {H1 : Hp} {a : Addr} {Qd : Addr → Hp → Prop} {xs : List V}
    (ha : H1 a = some (.lst xs) ∨ H1 a = some (.tup xs)) (na : a ∉ S) (hC : ∀ D, H1 D = none → LcC S J H1 D) (j0 : J H1) (m0 : M 0 [])
    (turn : ∀ D, H1 D = none → ∀ i x H ys ds, xs[i]? = some x → LcS S J M H1 D i H ys ds → TurnGoal S J M g tt te vs σ H1 D i x H)
    (done : ∀ D, H1 D = none → ∀ H ys ds, LcS S J M H1 D xs.length H ys ds → Qd D H) :
    ((∃ xs, SqL K H1 a xs) ∧ ∀ D, H1 D = none → LcGoal (Itl K a) g tt te vs σ H1 D (Qd D)) ∨ ((∃ xs, SqT K H1 a xs) ∧ ∀ D, H1 D = none → LcGoal (L2.Itt K a) g tt te vs σ H1 D (Qd D)) := by
  rcases ha with ha | ha
  · exact .inl ⟨⟨_, SqL.of ha⟩, fun D hD => lcl (hC D hD) (SqL.of ha) na j0 m0 (turn D hD) (done D hD)⟩
  · exact .inr ⟨⟨_, SqT.of ha⟩, fun D hD => lct (hC D hD) ha j0 m0 (turn D hD) (done D hD)⟩
end Lt

set_option Elab.async false
set_option linter.all false
set_option maxRecDepth 100000
set_option maxHeartbeats 4000000
namespace Lt
open PySem PySem.Spec PyProof.Rows L2
/-! ## pairs put in order -/
def kOf (H : Hp) (x : V) : Int × Int := match x with
  | .ref t => (match H t with
    | some (.tup [.int i, .int j]) => (i, j)
    | _ => (0, 0))
  | _ => (0, 0)
def pOf (H : Hp) (x : V) : Pr := ((kOf H x).1.toNat, (kOf H x).2.toNat)
theorem kOf_pr {H : Hp} {x : V} {p : Pr} (h : Tp H x (dP p)) : kOf H x = ((p.1 : Int), (p.2 : Int)) := by
  obtain ⟨a, rfl, e⟩ := h.pr_inv
  simp only [kOf]
  rw [e]
theorem pOf_pr {H : Hp} {x : V} {p : Pr} (h : Tp H x (dP p)) : pOf H x = p := by
  unfold pOf
  rw [kOf_pr h]
  simp
theorem pOf_all {H : Hp} : ∀ {xs : List V} {ps : List Pr}, Tps H xs (dPs ps) → xs.map (pOf H) = ps
  | _, [], .nil => rfl
  | _, p :: ps, .cons a t => by
    rw [List.map_cons, pOf_pr a, pOf_all t]
theorem tps_of {H : Hp} {g : V → Pr} : ∀ {ys : List V}, (∀ y ∈ ys, Tp H y (dP (g y))) → Tps H ys (dPs (ys.map g))
  | [], _ => .nil
  | y :: ys, h => .cons (h y List.mem_cons_self) (tps_of fun z m => h z (List.mem_cons_of_mem _ m))
theorem tps_mem {H : Hp} : ∀ {xs : List V} {ps : List Pr}, Tps H xs (dPs ps) → ∀ x ∈ xs, ∃ p ∈ ps, Tp H x (dP p)
  | _, [], .nil, x, m => absurd m List.not_mem_nil
  | _, p :: ps, .cons a t, x, m => by
    rcases List.mem_cons.mp m with rfl | m
    · exact ⟨p, List.mem_cons_self, a⟩
    · obtain ⟨q, mq, hq⟩ := tps_mem t x m
      exact ⟨q, List.mem_cons_of_mem _ mq, hq⟩
/-- sorted(xs), xs a list of pairs -/
theorem sorted_prs {K : PySem.W.Frag} {H : Hp} {Q : VK} {a : Addr} {xs : List V} {ps : List Pr} (ha : H a = some (.lst xs)) (t : Tps H xs (dPs ps)) (hn : ps.Nodup)
    (q : ∀ ys p qs, qs.Perm ps → qs.Pairwise Up → H p = none → Tps H ys (dPs qs) → Q (.ref p) (upd H p (.lst ys))) : rSortedPO K [.ref a] H Q := by
  refine ⟨a, xs, kOf H, rfl, SqL.of ha, ?_, fun ys p hs hb hp => ?_⟩
  · intro x m
    obtain ⟨pr, _, tx⟩ := tps_mem t x m
    obtain ⟨b, rfl, e⟩ := tx.pr_inv
    rw [kOf_pr tx]
    exact ⟨b, rfl, e⟩
  · have hm : ∀ y ∈ ys, ∃ pr, Tp H y (dP pr) := fun y m => by
      obtain ⟨pr, _, tx⟩ := tps_mem t y (hb.perm.mem_iff.mp m)
      exact ⟨pr, tx⟩
    have pm : (ys.map (pOf H)).Perm ps := by
      rw [← pOf_all t]
      exact hb.perm.map _
    refine q ys p (ys.map (pOf H)) pm ?_ hp (tps_of fun y m => ?_)
    · have nd : (ys.map (pOf H)).Nodup := pm.nodup_iff.mpr hn
      have nd2 := List.pairwise_map.mp nd
      refine List.pairwise_map.mpr ((List.Pairwise.and hs nd2).imp_of_mem ?_)
      intro x y mx my hxy
      obtain ⟨px, tx⟩ := hm x mx
      obtain ⟨py, ty⟩ := hm y my
      have h1 := SrtO.lexB_no.mp hxy.1
      have h2 := hxy.2
      rw [kOf_pr tx, kOf_pr ty] at h1
      rw [pOf_pr tx, pOf_pr ty] at h2 ⊢
      obtain ⟨a1, a2⟩ := px
      obtain ⟨b1, b2⟩ := py
      simp only [ne_eq, Prod.mk.injEq] at h1 h2 ⊢
      omega
    · obtain ⟨pr, tx⟩ := hm y m
      rw [pOf_pr tx]
      exact tx
section
variable {P : Program} {w : World} {K : PySem.W.Frag} {mg : Str → Option Value} {base : Heap} {f : Addr} {fd : FuncData}
def ren (nm : List Nat) (p : Pr) : Pr := (min (nm.getD p.1 0) (nm.getD p.2 0), max (nm.getD p.1 0) (nm.getD p.2 0))
def spNamed : Sp := fun vs H Q _ => ∃ (n : Nat) (t m : Addr) (xs : List V) (ps : List Pr) (nm : List Nat), vs = [.int n, .ref t, .ref m] ∧ (H t = some (.lst xs) ∨ H t = some (.tup xs)) ∧ Tps H xs (dPs ps) ∧ ps.length ≤ 1000 ∧
  H m = some (.lst (nm.map fun x => V.int (x : Nat))) ∧ (∀ p ∈ ps, p.1 < nm.length ∧ p.2 < nm.length) ∧ (ps.map (ren nm)).Nodup ∧
  ∀ H' r qs, Fr [] H H' → Tp H' r (dW n qs) → qs.Perm (ps.map (ren nm)) → qs.Pairwise Up → Q r H'
theorem ok_named (F : FnP K "_law_named" s__law_named f fd) (g_tuple : mg "tuple" = none) (g_sorted : mg "sorted" = none) (g_min : mg "min" = none) (g_max : mg "max" = none) : FnG P w K mg base CX0 1 f fd ["many", "ties", "names"] spNamed := by
  refine okG0 F sc__law_named (fun vs H Q E h => ?_) (fun cdv A outer s H vs Q E hS hr h => ?_)
  · obtain ⟨_, _, _, _, _, _, rfl, _⟩ := h
    rfl
  · obtain ⟨n, t, m, xs, ps, nm, rfl, ht, tx, hl, hm, hin, hnd, q⟩ := h
    refine ⟨_, (pss_one (ps_ret (pe_tup (pa_cons (pv 0) (pa_cons (pe_callTy (tupOfK K) (by rfl) g_tuple (by decide +kernel) (pa_cons (pe_callB (sortedPK K) (by rfl) g_sorted (by decide +kernel) (pa_cons (pe_lc (own := [("a", 3), ("b", 4)]) (tt := tYes) rfl sc__law_named.nd (pi_seqK K (pv 1)) (blkOk_by (own := [("a", 3), ("b", 4)]) (N := N__law_named) (sc := defScope s__law_named) (by decide +kernel)) (fun _ _ _ _ _ => (pg_tupK K (n := 2) (by rfl) (pgs_cons (pg_name (i := 3) sc__law_named.nd rfl (Or.inl rfl)) (pgs_cons (pg_name (i := 4) sc__law_named.nd rfl (Or.inl rfl)) pgs_nil)))) (fun _ _ _ _ _ => pts_nil) (fun _ _ _ _ _ => (pe_tup (pa_cons (pe_callB (call_min2 rfl) (by rfl) g_min (by decide +kernel) (pa_cons (pe_ix (ixL K) (pv 2) (pv 3) (fun _ _ => rfl)) (pa_cons (pe_ix (ixL K) (pv 2) (pv 4) (fun _ _ => rfl)) pa_nil))) (pa_cons (pe_callB (call_max2 rfl) (by rfl) g_max (by decide +kernel) (pa_cons (pe_ix (ixL K) (pv 2) (pv 3) (fun _ _ => rfl)) (pa_cons (pe_ix (ixL K) (pv 2) (pv 4) (fun _ _ => rfl)) pa_nil))) pa_nil))))) pa_nil)) pa_nil)) pa_nil))))), ?_⟩
    refine ⟨_, rfl, _, rfl, t, rfl, ?_⟩
    refine lc_seq (K := K) (S := []) (J := fun _ => True) (M := fun k ds => ds = made ps (fun p => some (ren nm p)) dP k) ht List.not_mem_nil (fun D hD => ⟨hD, List.not_mem_nil, fun _ _ h => h⟩) trivial rfl (fun D hD => ?_) (fun D hD => ?_)
    all_goals have C : LcC [] (fun _ => True) H D := ⟨hD, List.not_mem_nil, fun _ _ h => h⟩
    · intro i x H2 zs ds ex L
      obtain ⟨p, ep, tp⟩ := tx.pr_at ex
      have hi : i < 2000 := by
        have := (List.getElem?_eq_some_iff.mp ep).1
        omega
      have hb := hin p (List.mem_of_getElem? ep)
      obtain ⟨b, rfl, eb⟩ := (tp.fr L.fr).pr_inv
      have em := L.fr.keep _ _ hm List.not_mem_nil
      have g1 : (nm.map fun x => V.int (x : Nat))[p.1]? = some (.int (nm.getD p.1 0 : Nat)) := by
        rw [List.getElem?_map, List.getElem?_eq_getElem hb.1, List.getD_eq_getElem?_getD, List.getElem?_eq_getElem hb.1]
        rfl
      have g2 : (nm.map fun x => V.int (x : Nat))[p.2]? = some (.int (nm.getD p.2 0 : Nat)) := by
        rw [List.getElem?_map, List.getElem?_eq_getElem hb.2, List.getD_eq_getElem?_getD, List.getElem?_eq_getElem hb.2]
        rfl
      refine ⟨b, _, rfl, SqT.of eb, rfl, _, _, rfl, _, _, rfl, rfl, rfl, tyes ?_⟩
      refine ⟨_, rfl, _, rfl, m, _, p.1, _, rfl, rfl, SqL.of em, atI_nat g1, _, rfl, _, rfl, m, _, p.2, _, rfl, rfl, SqL.of em, atI_nat g2, _, _, rfl, ?_⟩
      refine ⟨_, rfl, _, rfl, m, _, p.1, _, rfl, rfl, SqL.of em, atI_nat g1, _, rfl, _, rfl, m, _, p.2, _, rfl, rfl, SqL.of em, atI_nat g2, _, _, rfl, szl (Nat.le_of_ble_eq_true rfl), fun p2 hp2 => ?_⟩
      refine L.put C (d := dP (ren nm p)) (by omega) (Fr.new hp2) trivial (Tp.pr ?_) ?_
      · rw [upd_same]
        have e1 : ∀ i j : Nat, (if (j : Int) < (i : Int) then (j : Int) else (i : Int)) = ((min i j : Nat) : Int) := fun i j => by split <;> omega
        have e2 : ∀ i j : Nat, (if (j : Int) > (i : Int) then (j : Int) else (i : Int)) = ((max i j : Nat) : Int) := fun i j => by split <;> omega
        rw [e1, e2]
        rfl
      · rw [L.m]
        exact (made_some (f := fun p => some (ren nm p)) (en := dP) ep rfl).symm
    · intro H2 zs ds L
      have em := L.m
      rw [made_all (by rw [tx.len]; exact Nat.le_refl _), filterMap_one] at em
      have td := L.dat
      rw [em] at td
      dsimp only [tNil]
      refine sorted_prs L.at_ td hnd fun ys p qs hq hu hp ty => ?_
      have f2 : Fr [] H2 (upd H2 p (.lst ys)) := Fr.new hp
      refine ⟨p, ys, rfl, .inl ⟨SqL.of upd_same, fun l hl2 => ⟨szl (Nat.le_of_ble_eq_true rfl), fun p2 hp2 => ?_⟩⟩⟩
      have f3 : Fr [] (upd H2 p (.lst ys)) (upd (upd (upd H2 p (.lst ys)) l (.tup ys)) p2 (.tup [.int n, .ref l])) := (Fr.new hl2).add hp2
      exact q _ _ qs ((L.fr.trans f2).trans f3) (Tp.web upd_same (at_add upd_same hp2) ((ty.fr f2).fr f3)) hq hu
end
end Lt

set_option Elab.async false
set_option linter.all false
set_option maxRecDepth 100000
set_option maxHeartbeats 8000000
namespace Lt
open PySem PySem.Spec PyProof.Rows L2
theorem cut {t u : TS} {D : Ends} {σ : Slots} {H : Hp} (I : Slots → Hp → Prop) (hu : ∀ σ H, I σ H → u D σ H) (ht : (∀ σ H, I σ H → u D σ H) → t { D with nx := u D } σ H) : tSeq t u D σ H := ht hu
/-! ## parts of all pairs -/
theorem sub_put {α : Type} {ps qs : List α} {i : Nat} {p : α} (e : ps[i]? = some p) (h : qs.Sublist (ps.take i)) : (qs ++ [p]).Sublist (ps.take (i + 1)) := by
  rw [List.take_add_one, e]
  exact h.append (List.Sublist.refl _)
theorem sub_skip {α : Type} {ps qs : List α} {i : Nat} (h : qs.Sublist (ps.take i)) : qs.Sublist (ps.take (i + 1)) := by
  rw [List.take_add_one]
  exact h.trans (List.sublist_append_left _ _)
abbrev SubM (ps : List Pr) (i : Nat) (ds : List PyData) : Prop := ∃ qs, ds = dPs qs ∧ qs.Sublist (ps.take i)
theorem SubM.put {ps : List Pr} {i : Nat} {ds : List PyData} {p : Pr} (h : SubM ps i ds) (e : ps[i]? = some p) : SubM ps (i + 1) (ds ++ [dP p]) := by
  obtain ⟨qs, rfl, s⟩ := h
  exact ⟨qs ++ [p], by rw [dPs_app]; rfl, sub_put e s⟩
theorem SubM.skip {ps : List Pr} {i : Nat} {ds : List PyData} (h : SubM ps i ds) : SubM ps (i + 1) ds := by
  obtain ⟨qs, rfl, s⟩ := h
  exact ⟨qs, rfl, sub_skip s⟩
theorem pairsOf_nodup (n : Nat) : (pairsOf n).Nodup := up_nodup (pairsTo_up n n)
/-- some pairs of n places, none twice -/
structure Good (n : Nat) (ps : List Pr) : Prop where
  ins : ∀ p ∈ ps, p ∈ pairsOf n
  nd : ps.Nodup
theorem Good.sub {n : Nat} {ps : List Pr} (h : ps.Sublist (pairsOf n)) : Good n ps := ⟨fun p m => h.subset m, (pairsOf_nodup n).sublist h⟩
theorem Good.nil (n : Nat) : Good n [] := ⟨fun p m => absurd m List.not_mem_nil, List.nodup_nil⟩
def twosOf (n : Nat) : List Pr := (List.range (n / 2)).map fun i => (2 * i, 2 * i + 1)
def pathOf (n : Nat) : List Pr := (List.range (n - 1)).map fun i => (i, i + 1)
theorem map_nodup {α β : Type} {f : α → β} {l : List α} (h : l.Nodup) (hf : ∀ x ∈ l, ∀ y ∈ l, f x = f y → x = y) : (l.map f).Nodup := by
  refine List.pairwise_map.mpr (h.imp_of_mem ?_)
  intro x y mx my hxy e
  exact hxy (hf x mx y my e)
theorem twos_good (n : Nat) : Good n (twosOf n) := by
  refine ⟨fun p m => ?_, ?_⟩
  · obtain ⟨i, mi, rfl⟩ := List.mem_map.mp m
    have := List.mem_range.mp mi
    exact mem_pairsOf.mpr ⟨by show 2 * i < 2 * i + 1; omega, by show 2 * i + 1 < n; omega⟩
  · refine map_nodup List.nodup_range fun x _ y _ e => ?_
    have := congrArg Prod.fst e
    simp only at this
    omega
theorem path_good (n : Nat) : Good n (pathOf n) := by
  refine ⟨fun p m => ?_, ?_⟩
  · obtain ⟨i, mi, rfl⟩ := List.mem_map.mp m
    have := List.mem_range.mp mi
    exact mem_pairsOf.mpr ⟨by show i < i + 1; omega, by show i + 1 < n; omega⟩
  · refine map_nodup List.nodup_range fun x _ y _ e => ?_
    exact congrArg Prod.fst e
theorem ring_good {n : Nat} (h : 2 < n) : Good n (pathOf n ++ [(0, n - 1)]) := by
  have g := path_good n
  refine ⟨fun p m => ?_, ?_⟩
  · rcases List.mem_append.mp m with m | m
    · exact g.ins p m
    · rw [List.mem_singleton.mp m]
      exact mem_pairsOf.mpr ⟨by show 0 < n - 1; omega, by show n - 1 < n; omega⟩
  · refine List.nodup_append.mpr ⟨g.nd, by simp, ?_⟩
    intro x mx y my e
    subst e
    rw [List.mem_singleton.mp my] at mx
    obtain ⟨i, mi, e⟩ := List.mem_map.mp mx
    simp only [Prod.mk.injEq] at e
    omega
theorem len_sub {α : Type} [BEq α] [LawfulBEq α] : ∀ {l m : List α}, l.Nodup → (∀ x ∈ l, x ∈ m) → l.length ≤ m.length
  | [], _, _, _ => Nat.zero_le _
  | x :: l, m, h, hs => by
    have h' := List.nodup_cons.mp h
    have hx := hs x List.mem_cons_self
    have ih := len_sub (m := m.erase x) h'.2 fun y my => (List.mem_erase_of_ne (fun e : y = x => h'.1 (by rw [← e]; exact my))).mpr (hs y (List.mem_cons_of_mem _ my))
    rw [List.length_erase_of_mem hx] at ih
    have : 0 < m.length := List.length_pos_of_mem hx
    rw [List.length_cons]
    omega
theorem Good.len {n : Nat} {ps : List Pr} (g : Good n ps) (h : n ≤ 20) : ps.length ≤ 400 := by
  have h1 : ps.length ≤ (pairsOf n).length := len_sub g.nd g.ins
  exact Nat.le_trans h1 (pairsOf_len h)
/-! ## places called otherwise -/
theorem getD_inj {nm : List Nat} (h : nm.Nodup) {i j : Nat} (hi : i < nm.length) (hj : j < nm.length) (e : nm.getD i 0 = nm.getD j 0) : i = j := by
  rw [List.getD_eq_getElem?_getD, List.getD_eq_getElem?_getD, List.getElem?_eq_getElem hi, List.getElem?_eq_getElem hj] at e
  exact (List.getElem_inj h).mp e
theorem getD_lt {nm : List Nat} {n : Nat} (h : ∀ x ∈ nm, x < n) {i : Nat} (hi : i < nm.length) : nm.getD i 0 < n := by
  rw [List.getD_eq_getElem?_getD, List.getElem?_eq_getElem hi]
  exact h _ (List.getElem_mem hi)
theorem ren_good {n : Nat} {nm : List Nat} {ps : List Pr} (hp : nm.Perm (List.range n)) (g : Good n ps) : (ps.map (ren nm)).Nodup ∧ ∀ p ∈ ps.map (ren nm), p ∈ pairsOf n := by
  have hl : nm.length = n := by rw [hp.length_eq, List.length_range]
  have hnd : nm.Nodup := hp.nodup_iff.mpr List.nodup_range
  have hlt : ∀ x ∈ nm, x < n := fun x m => List.mem_range.mp (hp.mem_iff.mp m)
  constructor
  · refine map_nodup g.nd fun p mp q mq e => ?_
    have bp := mem_pairsOf.mp (g.ins p mp)
    have bq := mem_pairsOf.mp (g.ins q mq)
    have e1 : min (nm.getD p.1 0) (nm.getD p.2 0) = min (nm.getD q.1 0) (nm.getD q.2 0) := congrArg Prod.fst e
    have e2 : max (nm.getD p.1 0) (nm.getD p.2 0) = max (nm.getD q.1 0) (nm.getD q.2 0) := congrArg Prod.snd e
    have n1 : nm.getD p.1 0 ≠ nm.getD p.2 0 := fun z => by
      have := getD_inj hnd (by omega) (by omega) z
      omega
    have cases4 : (nm.getD p.1 0 = nm.getD q.1 0 ∧ nm.getD p.2 0 = nm.getD q.2 0) ∨ (nm.getD p.1 0 = nm.getD q.2 0 ∧ nm.getD p.2 0 = nm.getD q.1 0) := by omega
    rcases cases4 with ⟨a, b⟩ | ⟨a, b⟩
    · have a' := getD_inj hnd (by omega) (by omega) a
      have b' := getD_inj hnd (by omega) (by omega) b
      exact Prod.ext a' b'
    · have a' := getD_inj hnd (by omega) (by omega) a
      have b' := getD_inj hnd (by omega) (by omega) b
      omega
  · intro r mr
    obtain ⟨p, mp, rfl⟩ := List.mem_map.mp mr
    have bp := mem_pairsOf.mp (g.ins p mp)
    have n1 : nm.getD p.1 0 ≠ nm.getD p.2 0 := fun z => by
      have := getD_inj hnd (by omega) (by omega) z
      omega
    have l1 := getD_lt hlt (i := p.1) (by omega)
    have l2 := getD_lt hlt (i := p.2) (by omega)
    refine mem_pairsOf.mpr ⟨?_, ?_⟩
    · show min _ _ < max _ _
      omega
    · show max _ _ < n
      omega
theorem names_of {n : Nat} {es : List PyData} (h : es.Perm (dNs (List.range n))) : ∃ nm : List Nat, es = dNs nm ∧ nm.Perm (List.range n) := by
  let g : PyData → Nat := fun d => match d with
    | .int i => i.toNat
    | _ => 0
  have hg : ∀ i : Nat, g (dN i) = i := fun i => by
    show (i : Int).toNat = i
    simp
  refine ⟨es.map g, ?_, ?_⟩
  · rw [show dNs (es.map g) = es.map (fun d => dN (g d)) from List.map_map]
    have hid : ∀ d ∈ es, dN (g d) = d := fun d m => by
      obtain ⟨i, _, rfl⟩ := List.mem_map.mp (h.mem_iff.mp m)
      rw [hg]
    exact ((List.map_congr_left hid).trans (List.map_id' es)).symm
  · have := h.map g
    rw [show (dNs (List.range n)).map g = List.range n by
      rw [show (dNs (List.range n)).map g = (List.range n).map (fun i => g (dN i)) from List.map_map]
      exact List.map_id'' hg _] at this
    exact this
end Lt

set_option Elab.async false
set_option linter.all false
set_option maxRecDepth 100000
set_option maxHeartbeats 8000000
namespace Lt
open PySem PySem.Spec PyProof.Rows L2
/-! ## a range with a step -/
theorem walk_c {Hs : Hp} {Qd : Hp → Prop} {T : V → Hp → (Hp → Prop) → Prop} {lo c : Int} {n : Nat} (Pv : Nat → Hp → Prop) (h0 : Pv 0 Hs) (hs : ∀ (i : Nat) H, i < n → Pv i H → T (.int (lo + (i : Nat) * c)) H (Pv (i + 1))) (hd : ∀ H, Pv n H → Qd H) : WalkGoal (Itc lo c n) Hs Qd T := by
  refine ⟨fun i m H => m + i = n ∧ Pv i H, ⟨n, by omega, h0⟩, ?_⟩
  rintro i m H ⟨e, p⟩
  by_cases c : i < n
  · refine .inr ⟨c, Pv (i + 1), fun H' p' => ⟨m - 1, by omega, by omega, p'⟩, ?_⟩
    rintro x H' ⟨rfl, rfl⟩
    exact hs i H' c p
  · obtain rfl : i = n := by omega
    exact .inl ⟨Nat.le_refl _, hd H p⟩
theorem lcc {S : List Addr} {J : Hp → Prop} {M : Nat → List PyData → Prop} {g : TG} {tt : TT} {te : TE} {vs : List Nat} {σ : Slots} {H1 : Hp} {D : Addr} {Qd : Hp → Prop} {lo c : Int} {n : Nat} (C : LcC S J H1 D) (j0 : J H1) (m0 : M 0 [])
    (turn : ∀ (i : Nat) H ys ds, i < n → LcS S J M H1 D i H ys ds → TurnGoal S J M g tt te vs σ H1 D i (.int (lo + (i : Nat) * c)) H)
    (done : ∀ H ys ds, LcS S J M H1 D n H ys ds → Qd H) : LcGoal (Itc lo c n) g tt te vs σ H1 D Qd :=
  walk_c (lo := lo) (c := c) (n := n) (LcAny S J M H1 D) (C.zero j0 m0) (fun i H hi ⟨ys, ds, L⟩ => turn i H ys ds hi L) (fun H ⟨ys, ds, L⟩ => done H ys ds L)
theorem rg_two : ∀ n : Nat, n ≤ 12 → 1 ≤ n → (2 : Int) ≠ 0 ∧ (2 : Int).natAbs < 1073741824 ∧ Builtin.Range.small 0 ((n : Int) - 1) 2 = true ∧ Builtin.Range.rangeSize 0 ((n : Int) - 1) 2 = ((n / 2 : Nat) : Int) := by decide
section
variable {P : Program} {w : World} {K : PySem.W.Frag} {mg : Str → Option Value} {base : Heap} {f : Addr} {fd : FuncData}
/-- where the law's web stands: its places n, its way wy, all pairs in a list, its ties in a list -/
def WebSt (H0 : Hp) (s d c : Addr) (lo hi n wy : Nat) (σ : Slots) (H : Hp) : Prop := ∃ e es t ts ps y7,
  σ = [some (.ref s), some (.int lo), some (.int hi), some (.int n), some (.int wy), some (.ref e), some (.ref t), y7, none, none] ∧ Stk s d c H ∧ Fr [s, d] H0 H ∧
  H0 e = none ∧ H e = some (.lst es) ∧ Tps H es (dPs (pairsOf n)) ∧ H0 t = none ∧ H t = some (.lst ts) ∧ Tps H ts (dPs ps) ∧ Good n ps
def rd__law_web_1 (K : PySem.W.Frag) : TS := (tPar 3 4 (tCons (tOp rAddI (tVar 1) (tCall spDraw [] E0 (tCons (tVar 0) (tCons (tOp rAddI (tOp rSubI (tVar 2) (tVar 1)) (tC (.int 1))) tNil)))) (tCons (tCall spDraw [] E0 (tCons (tVar 0) (tCons (tC (.int 11)) tNil))) tNil)))
def rd__law_web_2 (K : PySem.W.Frag) : TS := (tAsg (tTup (tCons (tCall spPairs [] E0 (tCons (tVar 3) tNil)) (tCons (tLst tNil) tNil))) (gTup K 2 (gCons (gName 5) (gCons (gName 6) gNil))))
def rd__law_web_3 (K : PySem.W.Frag) : TS := (tIfS (tTest (tOp rEq (tVar 4) (tC (.int 0)))) (tAsg (tIf (tTest (tOp rEq (tCall spDraw [] E0 (tCons (tVar 0) (tCons (tC (.int 2)) tNil))) (tC (.int 0)))) (tVar 5) (tLst tNil)) (gName 6)) tNext)
def rd__law_web_4 (K : PySem.W.Frag) : TS := (tIfS (tTest (tOp rEq (tVar 4) (tC (.int 1)))) (tAsg (tLc (iRng3 (tCons (tC (.int 0)) (tCons (tOp rSubI (tVar 3) (tC (.int 1))) (tCons (tC (.int 2)) tNil)))) (gName 8) tYes (tTup (tCons (tVar 8) (tCons (tOp rAddI (tVar 8) (tC (.int 1))) tNil))) [8]) (gName 6)) tNext)
def rd__law_web_5 (K : PySem.W.Frag) : TS := (tIfS (tTest (tOp (rMem K) (tVar 4) (tTup (tCons (tC (.int 2)) (tCons (tC (.int 3)) tNil))))) (tAsg (tOp rCat (tLc (iRng1 (tCons (tOp rSubI (tVar 3) (tC (.int 1))) tNil)) (gName 8) tYes (tTup (tCons (tVar 8) (tCons (tOp rAddI (tVar 8) (tC (.int 1))) tNil))) [8]) (tOp rRep (tLst (tCons (tTup (tCons (tC (.int 0)) (tCons (tOp rSubI (tVar 3) (tC (.int 1))) tNil))) tNil)) (tCB cInt1 (tCons (tAndV (tOp rEq (tVar 4) (tC (.int 3))) (tOp rGtI (tVar 3) (tC (.int 2)))) tNil)))) (gName 6)) tNext)
def rd__law_web_6 (K : PySem.W.Frag) : TS := (tIfS (tTest (tOp rEq (tVar 4) (tC (.int 4)))) (tAsg (tLc (iList K (tVar 5)) (gName 9) (tTest (tOp rNe (tOp rModI (tOp (rIxT K) (tVar 9) (tC (.int 0))) (tC (.int 2))) (tOp rModI (tOp (rIxT K) (tVar 9) (tC (.int 1))) (tC (.int 2))))) (tVar 9) [9]) (gName 6)) tNext)
def rd__law_web_7 (K : PySem.W.Frag) : TS := (tIfS (tTest (tOp rGtI (tVar 4) (tC (.int 4)))) (tSeq (tAsg (tOp rAddI (tC (.int 1)) (tCall spDraw [] E0 (tCons (tVar 0) (tCons (tC (.int 3)) tNil)))) (gName 7)) (tAsg (tLc (iList K (tVar 5)) (gName 9) (tTest (tOp rLtI (tCall spDraw [] E0 (tCons (tVar 0) (tCons (tC (.int 4)) tNil))) (tVar 7))) (tVar 9) [9]) (gName 6))) tNext)
def rd__law_web_8 (K : PySem.W.Frag) : TS := (tIfS (tAnd (tTest (tOp rLtI (tVar 4) (tC (.int 5)))) (tTest (tOp rEq (tCall spDraw [] E0 (tCons (tVar 0) (tCons (tC (.int 3)) tNil))) (tC (.int 0))))) (tAsg (tLc (iList K (tVar 5)) (gName 9) (tTest (tOp (rNMem K) (tVar 9) (tVar 6))) (tVar 9) [9]) (gName 6)) tNext)
def rd__law_web_9 (K : PySem.W.Frag) : TS := (tRet (tCall spNamed [] E0 (tCons (tVar 3) (tCons (tVar 6) (tCons (tCall spShuf [] E0 (tCons (tVar 0) (tCons (tLstRg (tRg1 (tVar 3))) tNil))) tNil)))))
def rdS__law_web_9 (K : PySem.W.Frag) : TS := rd__law_web_9 K
def rdS__law_web_8 (K : PySem.W.Frag) : TS := tSeq (rd__law_web_8 K) (rdS__law_web_9 K)
def rdS__law_web_7 (K : PySem.W.Frag) : TS := tSeq (rd__law_web_7 K) (rdS__law_web_8 K)
def rdS__law_web_6 (K : PySem.W.Frag) : TS := tSeq (rd__law_web_6 K) (rdS__law_web_7 K)
def rdS__law_web_5 (K : PySem.W.Frag) : TS := tSeq (rd__law_web_5 K) (rdS__law_web_6 K)
def rdS__law_web_4 (K : PySem.W.Frag) : TS := tSeq (rd__law_web_4 K) (rdS__law_web_5 K)
def rdS__law_web_3 (K : PySem.W.Frag) : TS := tSeq (rd__law_web_3 K) (rdS__law_web_4 K)
def rdS__law_web_2 (K : PySem.W.Frag) : TS := tSeq (rd__law_web_2 K) (rdS__law_web_3 K)
def rdS__law_web_1 (K : PySem.W.Frag) : TS := tSeq (rd__law_web_1 K) (rdS__law_web_2 K)
def spWeb : Sp := fun vs H Q _ => ∃ (s d c : Addr) (lo hi : Nat), vs = [.ref s, .int lo, .int hi] ∧ Stk s d c H ∧ 1 ≤ lo ∧ lo ≤ hi ∧ hi ≤ 12 ∧
  ∀ H' r n ps, lo ≤ n → n ≤ hi → WebOk n ps → Fr [s, d] H H' → Stk s d c H' → Tp H' r (dW n ps) → Q r H'
variable {H0 : Hp} {s d c : Addr} {lo hi n wy : Nat} {D : Ends} {σ : Slots} {H : Hp}
theorem WebSt.off (L : WebSt H0 s d c lo hi n wy σ H) (h0 : Stk s d c H0) {x : Addr} (hx : H0 x = none) : x ∉ [s, d] := by
  obtain ⟨a, b, _⟩ := h0.apart hx
  simp [a, b]
theorem off_of (h0 : Stk s d c H0) {x : Addr} (hx : H0 x = none) : x ∉ [s, d] := by
  obtain ⟨a, b, _⟩ := h0.apart hx
  simp [a, b]
/-- the ties are another list now -/
theorem web_put {e t : Addr} {es ts : List V} {ps : List Pr} {y7 y6 : Option V} {H1 : Hp} (h0 : Stk s d c H0) (kk : Stk s d c H1) (ff : Fr [s, d] H0 H) (f1 : Fr [s, d] H H1) (ne : H0 e = none) (ee : H e = some (.lst es)) (te : Tps H es (dPs (pairsOf n)))
    (nt : H0 t = none) (et : H1 t = some (.lst ts)) (tt : Tps H1 ts (dPs ps)) (g : Good n ps) :
    WebSt H0 s d c lo hi n wy (([some (.ref s), some (.int lo), some (.int hi), some (.int n), some (.int wy), some (.ref e), y6, y7, none, none] : Slots).set 6 (some (.ref t))) H1 :=
  ⟨e, es, t, ts, ps, y7, rfl, kk, ff.trans f1, ne, f1.keep _ _ ee (off_of h0 ne), te.fr f1, nt, et, tt, g⟩
theorem web_0 (h0 : Stk s d c H0) (L : WebSt H0 s d c lo hi n wy σ H) (k : ∀ σ H, WebSt H0 s d c lo hi n wy σ H → D.nx σ H) : rd__law_web_3 K D σ H := by
  have L0 := L
  obtain ⟨e, es, t, ts, ps, y7, rfl, kk, ff, ne, ee, te, nt, et, tt, g⟩ := L
  refine ⟨_, rfl, rfl, _, rfl, ite2 (fun c1 => ?_) (fun c1 => k _ _ L0)⟩
  refine ⟨_, rfl, s, d, c, 2, rfl, kk, by decide, by decide, fun H4 r4 hr4 k4 f4 => ⟨rfl, _, rfl, ite2 (fun c2 => ?_) (fun c2 => ?_)⟩⟩
  · refine ⟨_, rfl, k _ _ (web_put h0 k4 ff f4 ne ee te ne (f4.keep _ _ ee (off_of h0 ne)) (te.fr f4) (Good.sub (List.Sublist.refl _)))⟩
  · refine ⟨szl (Nat.zero_le _), fun p hp => k _ _ ?_⟩
    exact web_put h0 (h0.add k4 ((ff.trans f4).free hp)) ff (f4.add hp) ne ee te ((ff.trans f4).free hp) upd_same .nil (Good.nil n)
theorem web_1 (h0 : Stk s d c H0) (hn : 1 ≤ n) (hn2 : n ≤ 12) (L : WebSt H0 s d c lo hi n wy σ H) (k : ∀ σ H, WebSt H0 s d c lo hi n wy σ H → D.nx σ H) : rd__law_web_4 K D σ H := by
  have L0 := L
  obtain ⟨e, es, t, ts, ps, y7, rfl, kk, ff, ne, ee, te, nt, et, tt, g⟩ := L
  refine ⟨_, rfl, rfl, _, rfl, ite2 (fun c1 => ?_) (fun c1 => k _ _ L0)⟩
  refine ⟨_, rfl, _, _, rfl, rfl, 0, (n : Int) - 1, 2, n / 2, rfl, rg_two n hn2 hn, fun D1 hD1 => ?_⟩
  have nD := ff.free hD1
  obtain ⟨a1, a2, a3⟩ := h0.apart nD
  have C : LcC [s, d] (Stk s d c) H D1 := ⟨hD1, off_of h0 nD, fun H o j => j.far a1 a2 a3⟩
  refine lcc (M := fun i ds => ds = made (List.range (n / 2)) (fun i => some (2 * i, 2 * i + 1)) dP i) C kk rfl ?_ ?_
  · intro i H2 zs ds hi2 L
    have ei := range_at hi2
    refine ⟨rfl, tyes ⟨_, rfl, _, rfl, _, _, rfl, rfl, szl (Nat.le_of_ble_eq_true rfl), fun p hp => ?_⟩⟩
    refine L.put C (d := dP (2 * i, 2 * i + 1)) (by omega) (Fr.new hp) (h0.add L.j ((ff.trans L.fr).free hp)) (Tp.pr (p := (2 * i, 2 * i + 1)) ?_) ?_
    · rw [upd_same]
      simp only [Option.some.injEq, HO.tup.injEq, List.cons.injEq, V.int.injEq, and_true]
      omega
    · rw [L.m]
      exact (made_some (f := fun i => some (2 * i, 2 * i + 1)) (en := dP) ei rfl).symm
  · intro H2 zs ds L
    have em := L.m
    rw [made_all (by rw [List.length_range]; exact Nat.le_refl _), filterMap_one] at em
    have td := L.dat
    rw [em] at td
    exact k _ _ (web_put h0 L.j ff L.fr ne ee te nD L.at_ td (twos_good n))
theorem web_4 (h0 : Stk s d c H0) (hn2 : n ≤ 12) (L : WebSt H0 s d c lo hi n wy σ H) (k : ∀ σ H, WebSt H0 s d c lo hi n wy σ H → D.nx σ H) : rd__law_web_6 K D σ H := by
  have L0 := L
  obtain ⟨e, es, t, ts, ps, y7, rfl, kk, ff, ne, ee, te, nt, et, tt, g⟩ := L
  refine ⟨_, rfl, rfl, _, rfl, ite2 (fun c1 => ?_) (fun c1 => k _ _ L0)⟩
  refine ⟨_, rfl, e, rfl, ⟨_, SqL.of ee⟩, fun D1 hD1 => ?_⟩
  have nD := ff.free hD1
  obtain ⟨a1, a2, a3⟩ := h0.apart nD
  have C : LcC [s, d] (Stk s d c) H D1 := ⟨hD1, off_of h0 nD, fun H o j => j.far a1 a2 a3⟩
  refine lcl (M := SubM (pairsOf n)) C (SqL.of ee) (off_of h0 ne) kk ⟨[], rfl, List.nil_sublist _⟩ ?_ ?_
  · intro i x H2 zs ds ex L
    obtain ⟨p, ep, tp⟩ := te.pr_at ex
    have hi : i < 1000 := by
      have := (List.getElem?_eq_some_iff.mp ep).1
      have := pairsOf_len (n := n) (by omega)
      omega
    have tp2 := tp.fr L.fr
    obtain ⟨b, rfl, eb⟩ := tp2.pr_inv
    refine ⟨rfl, _, rfl, b, _, 0, _, rfl, rfl, SqT.of eb, atI_nat (j := 0) rfl, _, _, rfl, rfl, (show (0 : Int) < 2 by decide), _, rfl, b, _, 1, _, rfl, rfl, SqT.of eb, atI_nat (j := 1) rfl, _, _, rfl, rfl, (show (0 : Int) < 2 by decide), rfl, _, rfl, ite2 (fun c2 => ?_) (fun c2 => ?_)⟩
    · exact ⟨_, rfl, L.put C (by omega) Fr.refl L.j tp2 (L.m.put ep)⟩
    · exact L.skip C Fr.refl L.j L.m.skip
  · intro H2 zs ds L
    obtain ⟨qs, rfl, sb⟩ := L.m
    exact k _ _ (web_put h0 L.j ff L.fr ne ee te nD L.at_ L.dat (Good.sub (sb.trans (List.take_sublist _ _))))
theorem web_5 (h0 : Stk s d c H0) (hn2 : n ≤ 12) (L : WebSt H0 s d c lo hi n wy σ H) (k : ∀ σ H, WebSt H0 s d c lo hi n wy σ H → D.nx σ H) : rd__law_web_7 K D σ H := by
  have L0 := L
  obtain ⟨e, es, t, ts, ps, y7, rfl, kk, ff, ne, ee, te, nt, et, tt, g⟩ := L
  refine ⟨_, rfl, _, _, rfl, rfl, _, rfl, ite2 (fun c1 => ?_) (fun c1 => k _ _ L0)⟩
  refine ⟨_, rfl, s, d, c, 3, rfl, kk, by decide, by decide, fun H4 r4 hr4 k4 f4 => ⟨_, _, rfl, rfl, ?_⟩⟩
  have ee4 := f4.keep _ _ ee (off_of h0 ne)
  have te4 := te.fr f4
  refine ⟨_, rfl, e, rfl, ⟨_, SqL.of ee4⟩, fun D1 hD1 => ?_⟩
  have ff4 := ff.trans f4
  have nD := ff4.free hD1
  obtain ⟨a1, a2, a3⟩ := h0.apart nD
  have C : LcC [s, d] (Stk s d c) H4 D1 := ⟨hD1, off_of h0 nD, fun H o j => j.far a1 a2 a3⟩
  refine lcl (M := SubM (pairsOf n)) C (SqL.of ee4) (off_of h0 ne) k4 ⟨[], rfl, List.nil_sublist _⟩ ?_ ?_
  · intro i x H2 zs ds ex L
    obtain ⟨p, ep, tp⟩ := te4.pr_at ex
    have hi : i < 1000 := by
      have := (List.getElem?_eq_some_iff.mp ep).1
      have := pairsOf_len (n := n) (by omega)
      omega
    refine ⟨rfl, _, rfl, s, d, c, 4, rfl, L.j, by decide, by decide, fun H5 r5 hr5 k5 f5 => ⟨_, rfl, _, _, rfl, rfl, _, rfl, ite2 (fun c2 => ?_) (fun c2 => ?_)⟩⟩
    · exact ⟨_, rfl, L.put C (by omega) f5 k5 ((tp.fr L.fr).fr f5) (L.m.put ep)⟩
    · exact L.skip C f5 k5 L.m.skip
  · intro H2 zs ds L
    obtain ⟨qs, rfl, sb⟩ := L.m
    exact k _ _ (web_put h0 L.j ff4 L.fr ne ee4 te4 nD L.at_ L.dat (Good.sub (sb.trans (List.take_sublist _ _))))
theorem web_6 (h0 : Stk s d c H0) (hn2 : n ≤ 12) (L : WebSt H0 s d c lo hi n wy σ H) (k : ∀ σ H, WebSt H0 s d c lo hi n wy σ H → D.nx σ H) : rd__law_web_8 K D σ H := by
  have L0 := L
  obtain ⟨e, es, t, ts, ps, y7, rfl, kk, ff, ne, ee, te, nt, et, tt, g⟩ := L
  refine ⟨_, rfl, _, _, rfl, rfl, _, rfl, ite2 (fun c1 => ?_) (fun c1 => iteF (k _ _ L0))⟩
  refine ⟨_, rfl, s, d, c, 3, rfl, kk, by decide, by decide, fun H4 r4 hr4 k4 f4 => ⟨rfl, _, rfl, ite2 (fun c2 => ?_) (fun c2 => ?_)⟩⟩
  · have ee4 := f4.keep _ _ ee (off_of h0 ne)
    have et4 := f4.keep _ _ et (off_of h0 nt)
    have te4 := te.fr f4
    have tt4 := tt.fr f4
    refine ⟨_, rfl, e, rfl, ⟨_, SqL.of ee4⟩, fun D1 hD1 => ?_⟩
    have ff4 := ff.trans f4
    have nD := ff4.free hD1
    obtain ⟨a1, a2, a3⟩ := h0.apart nD
    have C : LcC [s, d] (Stk s d c) H4 D1 := ⟨hD1, off_of h0 nD, fun H o j => j.far a1 a2 a3⟩
    have gb : Below 100 ps := fun p m => pairsOf_below (n := n) (by omega) p (g.ins p m)
    have gl := g.len (by omega)
    refine lcl (M := SubM (pairsOf n)) C (SqL.of ee4) (off_of h0 ne) k4 ⟨[], rfl, List.nil_sublist _⟩ ?_ ?_
    · intro i x H2 zs ds ex L
      obtain ⟨p, ep, tp⟩ := te4.pr_at ex
      have hi : i < 1000 := by
        have := (List.getElem?_eq_some_iff.mp ep).1
        have := pairsOf_len (n := n) (by omega)
        omega
      have tp2 := tp.fr L.fr
      refine ⟨rfl, _, rfl, _, rfl, nmem_lP tp2 (L.fr.keep _ _ et4 (off_of h0 nt)) (tt4.fr L.fr) (pairsOf_below (n := n) (by omega) p (List.mem_of_getElem? ep)) gb (by omega) ⟨_, rfl, ite2 (fun c2 => ?_) (fun c2 => ?_)⟩⟩
      · exact ⟨_, rfl, L.put C (by omega) Fr.refl L.j tp2 (L.m.put ep)⟩
      · exact L.skip C Fr.refl L.j L.m.skip
    · intro H2 zs ds L
      obtain ⟨qs, rfl, sb⟩ := L.m
      exact k _ _ (web_put h0 L.j ff4 L.fr ne ee4 te4 nD L.at_ L.dat (Good.sub (sb.trans (List.take_sublist _ _))))
  · exact k _ _ ⟨e, es, t, ts, ps, y7, rfl, k4, ff.trans f4, ne, f4.keep _ _ ee (off_of h0 ne), te.fr f4, nt, f4.keep _ _ et (off_of h0 nt), tt.fr f4, g⟩
end
end Lt

set_option Elab.async false
set_option linter.all false
set_option maxRecDepth 100000
set_option maxHeartbeats 8000000
namespace Lt
open PySem PySem.Spec PyProof.Rows L2
section
variable {P : Program} {w : World} {K : PySem.W.Frag} {mg : Str → Option Value} {base : Heap} {f : Addr} {fd : FuncData}
variable {H0 : Hp} {s d c : Addr} {lo hi n wy : Nat} {D : Ends} {σ : Slots} {H : Hp}
theorem web_23 (h0 : Stk s d c H0) (hn : 1 ≤ n) (hn2 : n ≤ 12) (L : WebSt H0 s d c lo hi n wy σ H) (k : ∀ σ H, WebSt H0 s d c lo hi n wy σ H → D.nx σ H) : rd__law_web_5 K D σ H := by
  have L0 := L
  obtain ⟨e, es, t, ts, ps, y7, rfl, kk, ff, ne, ee, te, nt, et, tt, g⟩ := L
  refine ⟨_, rfl, szl (Nat.le_of_ble_eq_true rfl), fun p0 hp0 => ?_⟩
  have fq : Fr [s, d] H (upd H p0 (.tup [.int 2, .int 3])) := Fr.new hp0
  have n0 := ff.free hp0
  have kq := h0.add kk (o := .tup [.int 2, .int 3]) n0
  have Lq : WebSt H0 s d c lo hi n wy [some (.ref s), some (.int lo), some (.int hi), some (.int n), some (.int wy), some (.ref e), some (.ref t), y7, none, none] (upd H p0 (.tup [.int 2, .int 3])) :=
    ⟨e, es, t, ts, ps, y7, rfl, kq, ff.trans fq, ne, at_add ee hp0, te.fr fq, nt, at_add et hp0, tt.fr fq, g⟩
  by_cases hw : wy < 1000
  rotate_left
  · refine .inl ⟨.int wy, [.int 2, .int 3], .int _, .tup (SqT.of upd_same) (.cons (.int _) (.cons (.int _) .nil)), rfl, rfl, _, rfl, ?_⟩
    have e1 : (PyData.eqv (.int 2) (.int wy)) = false := by
      show ((2 : Int) == (wy : Int)) = false
      exact beq_eq_false_iff_ne.mpr (by omega)
    have e2 : (PyData.eqv (.int 3) (.int wy)) = false := by
      show ((3 : Int) == (wy : Int)) = false
      exact beq_eq_false_iff_ne.mpr (by omega)
    simp only [List.any_cons, List.any_nil, e1, e2, Bool.or_false, Bool.or_self]
    exact iteF (k _ _ Lq)
  refine mem_tN (i := wy) (is := [2, 3]) upd_same (.cons (.int _) (.cons (.int _) .nil)) hw (by simp) (by decide) ⟨_, rfl, ite2 (fun c1 => ?_) (fun c1 => k _ _ Lq)⟩
  have ff1 := ff.trans fq
  have ee1 := at_add (o := .tup [.int 2, .int 3]) ee hp0
  have te1 := te.fr fq
  -- the path
  refine ⟨_, rfl, _, _, rfl, rfl, (n : Int) - 1, rfl, by omega, by omega, fun D1 hD1 => ?_⟩
  have hm : ((n : Int) - 1).toNat = n - 1 := by omega
  have nD := ff1.free hD1
  obtain ⟨a1, a2, a3⟩ := h0.apart nD
  have C : LcC [s, d] (Stk s d c) (upd H p0 (.tup [.int 2, .int 3])) D1 := ⟨hD1, off_of h0 nD, fun H o j => j.far a1 a2 a3⟩
  refine lcr (M := fun i ds => ds = made (List.range (n - 1)) (fun i => some (i, i + 1)) dP i) C kq rfl ?_ ?_
  · intro i H2 zs ds hi2 L
    rw [hm] at hi2
    have ei := range_at hi2
    refine ⟨rfl, tyes ⟨_, rfl, _, rfl, _, _, rfl, rfl, szl (Nat.le_of_ble_eq_true rfl), fun p hp => ?_⟩⟩
    refine L.put C (d := dP (i, i + 1)) (by omega) (Fr.new hp) (h0.add L.j ((ff1.trans L.fr).free hp)) (Tp.pr (p := (i, i + 1)) ?_) ?_
    · rw [upd_same]
      simp only [Option.some.injEq, HO.tup.injEq, List.cons.injEq, V.int.injEq, and_true]
      omega
    · rw [L.m]
      exact (made_some (f := fun i => some (i, i + 1)) (en := dP) ei rfl).symm
  · intro H2 zs ds L
    have em := L.m
    rw [hm, made_all (by rw [List.length_range]; exact Nat.le_refl _), filterMap_one] at em
    have td := L.dat
    rw [em] at td
    have ff2 := ff1.trans L.fr
    -- [(0, many - 1)]
    refine ⟨_, rfl, _, _, rfl, rfl, szl (Nat.le_of_ble_eq_true rfl), fun p1 hp1 => ⟨szl (Nat.le_of_ble_eq_true rfl), fun l1 hl1 => ?_⟩⟩
    have f1 : Fr [s, d] H2 (upd H2 p1 (.tup [.int 0, .int ((n : Int) - 1)])) := Fr.new hp1
    have f2 : Fr [s, d] H2 (upd (upd H2 p1 (.tup [.int 0, .int ((n : Int) - 1)])) l1 (.lst [.ref p1])) := f1.add hl1
    have k2 : Stk s d c (upd (upd H2 p1 (.tup [.int 0, .int ((n : Int) - 1)])) l1 (.lst [.ref p1])) := h0.add (h0.add L.j (ff2.free hp1)) ((ff2.trans f1).free hl1)
    have eD2 := f2.keep _ _ L.at_ (off_of h0 nD)
    have eP : upd (upd H2 p1 (.tup [.int 0, .int ((n : Int) - 1)])) l1 (.lst [.ref p1]) p1 = some (.tup [.int (0 : Nat), .int (n - 1 : Nat)]) := by
      rw [upd_ne (ne_new upd_same hl1), upd_same]
      simp only [Option.some.injEq, HO.tup.injEq, List.cons.injEq, V.int.injEq, and_true]
      omega
    have lz := td.length
    rw [List.length_map, List.length_map, List.length_range] at lz
    -- int(way == 3 and many > 2)
    have fin0 : ∀ {b : Bool}, (b = true → 2 < n) → ∀ (l2 : Addr), upd (upd H2 p1 (.tup [.int 0, .int ((n : Int) - 1)])) l1 (.lst [.ref p1]) l2 = none →
        WebSt H0 s d c lo hi n wy [some (.ref s), some (.int lo), some (.int hi), some (.int n), some (.int wy), some (.ref e), some (.ref t), y7, none, none]
          (upd (upd (upd H2 p1 (.tup [.int 0, .int ((n : Int) - 1)])) l1 (.lst [.ref p1])) l2 (.lst (if b then [.ref p1] else []))) ∧
        ∀ l3, upd (upd (upd H2 p1 (.tup [.int 0, .int ((n : Int) - 1)])) l1 (.lst [.ref p1])) l2 (.lst (if b then [.ref p1] else [])) l3 = none →
          WebSt H0 s d c lo hi n wy (([some (.ref s), some (.int lo), some (.int hi), some (.int n), some (.int wy), some (.ref e), some (.ref t), y7, none, none] : Slots).set 6 (some (.ref l3)))
            (upd (upd (upd (upd H2 p1 (.tup [.int 0, .int ((n : Int) - 1)])) l1 (.lst [.ref p1])) l2 (.lst (if b then [.ref p1] else []))) l3 (.lst (zs ++ if b then [.ref p1] else []))) := by
      intro b hb l2 hl2
      have f3 : Fr [s, d] H2 (upd (upd (upd H2 p1 (.tup [.int 0, .int ((n : Int) - 1)])) l1 (.lst [.ref p1])) l2 (.lst (if b then [.ref p1] else []))) := f2.add hl2
      have k3 := h0.add k2 (o := .lst (if b then [.ref p1] else [])) ((ff2.trans f2).free hl2)
      refine ⟨⟨e, es, t, ts, ps, y7, rfl, k3, ff2.trans f3, ne, ?_, ?_, nt, ?_, ?_, g⟩, fun l3 hl3 => ?_⟩
      · exact (L.fr.trans f3).keep _ _ ee1 (off_of h0 ne)
      · exact te1.fr (L.fr.trans f3)
      · exact (L.fr.trans f3).keep _ _ (at_add et hp0) (off_of h0 nt)
      · exact (tt.fr fq).fr (L.fr.trans f3)
      · have f4 : Fr [s, d] H2 _ := f3.add (o := .lst (zs ++ if b then [.ref p1] else [])) hl3
        have tz := td.fr f4
        cases b with
        | false =>
          refine web_put (ps := pathOf n) h0 (h0.add k3 ((ff2.trans f3).free hl3)) ff1 (L.fr.trans f4) ne ee1 te1 ((ff2.trans f3).free hl3) upd_same ?_ (path_good n)
          show Tps _ (zs ++ []) _
          rw [List.append_nil]
          exact tz
        | true =>
          refine web_put (ps := pathOf n ++ [(0, n - 1)]) h0 (h0.add k3 ((ff2.trans f3).free hl3)) ff1 (L.fr.trans f4) ne ee1 te1 ((ff2.trans f3).free hl3) upd_same ?_ (ring_good (hb rfl))
          rw [dPs_app]
          refine Tps.app tz (Tps.one (Tp.pr (p := (0, n - 1)) ?_))
          have g4 := f4.trans (Fr.refl (S := [s, d]))
          exact at_add (at_add eP hl2) hl3
    have fin : ∀ {b : Bool}, (b = true → 2 < n) → ∀ (Q : V → Hp → Prop), (∀ l3 H', WebSt H0 s d c lo hi n wy (([some (.ref s), some (.int lo), some (.int hi), some (.int n), some (.int wy), some (.ref e), some (.ref t), y7, none, none] : Slots).set 6 (some (.ref l3))) H' → Q (.ref l3) H') →
        rRep (.ref l1) (.int (if b then 1 else 0)) (upd (upd H2 p1 (.tup [.int 0, .int ((n : Int) - 1)])) l1 (.lst [.ref p1])) fun y H' => rCat (.ref D1) y H' Q := by
      intro b hb Q hQ
      refine ⟨l1, _, _, rfl, rfl, upd_same, by split <;> omega, by split <;> omega, szl ?_, fun l2 hl2 => ?_⟩
      · show 1 * _ ≤ 100000
        split <;> decide
      · have er : (List.replicate (if b = true then (1 : Int) else 0).toNat [V.ref p1]).flatten = if b then [.ref p1] else [] := by cases b <;> rfl
        rw [er]
        obtain ⟨_, w2⟩ := fin0 hb l2 hl2
        refine ⟨D1, l2, zs, _, rfl, rfl, at_add eD2 hl2, upd_same, szl ?_, fun l3 hl3 => hQ _ _ (w2 l3 hl3)⟩
        have : (if b = true then [V.ref p1] else ([] : List V)).length ≤ 1 := by cases b <;> simp
        omega
    refine ⟨_, rfl, rfl, _, rfl, ite2 (fun c2 => ?_) (fun c2 => ?_)⟩
    · refine ⟨_, rfl, _, _, rfl, rfl, .inr ⟨_, rfl, ?_⟩⟩
      exact fin (b := decide ((2 : Int) < n)) (fun z => by have := of_decide_eq_true z; omega) _ fun l3 H' w => k _ _ w
    · refine .inr ⟨_, rfl, ?_⟩
      exact fin (b := false) (fun z => by cases z) _ fun l3 H' w => k _ _ w
theorem web_end (h0 : Stk s d c H0) (hn : 1 ≤ n) (hn2 : n ≤ 12) (L : WebSt H0 s d c lo hi n wy σ H)
    (k : ∀ r ps H', WebOk n ps → Fr [s, d] H0 H' → Stk s d c H' → Tp H' r (dW n ps) → D.rt r H') : rd__law_web_9 K D σ H := by
  obtain ⟨e, es, t, ts, ps, y7, rfl, kk, ff, ne, ee, te, nt, et, tt, g⟩ := L
  refine ⟨_, rfl, _, rfl, _, rfl, _, rfl, n, rfl, RgOk.of_le (by decide) (by omega) (by decide) (by omega), fun q hq => ?_⟩
  have er : rgV 0 n = (List.range n).map fun i => V.int (i : Nat) := by
    unfold rgV
    rw [show ((n : Int) - 0).toNat = n by omega]
    refine List.map_congr_left fun i _ => ?_
    rw [Int.zero_add]
  rw [er]
  have nq := ff.free hq
  have fq : Fr [s, d] H (upd H q (.lst ((List.range n).map fun i => V.int (i : Nat)))) := Fr.new hq
  have kq := h0.add kk (o := .lst ((List.range n).map fun i => V.int (i : Nat))) nq
  obtain ⟨a1, a2, a3⟩ := h0.apart nq
  have tn : ∀ (H : Hp) (is : List Nat), Tps H (is.map fun i => V.int (i : Nat)) (dNs is) := fun H is => by
    induction is with
    | nil => exact .nil
    | cons x xs ih => exact .cons (.int _) ih
  refine ⟨s, d, c, q, _, _, rfl, kq, upd_same, tn _ _, by rw [List.length_map, List.length_range]; omega, a1, a2, fun H1 p ys es1 pm f1 np k1 ep tp => ?_⟩
  obtain ⟨nm, rfl, hnm⟩ := names_of pm
  have ey : ys = nm.map fun i => V.int (i : Nat) := by
    have : ∀ {ys : List V} {is : List Nat}, Tps H1 ys (dNs is) → ys = is.map fun i => V.int (i : Nat) := by
      intro ys is
      induction is generalizing ys with
      | nil => intro h; cases h; rfl
      | cons x xs ih =>
        intro h
        cases h with
        | cons a b =>
          cases a
          rw [ih b]
          rfl
    exact this tp
  subst ey
  have f2 := fq.trans f1
  obtain ⟨r1, r2⟩ := ren_good hnm g
  have hl : nm.length = n := by rw [hnm.length_eq, List.length_range]
  refine ⟨n, t, p, ts, ps, nm, rfl, .inl (f2.keep _ _ et (off_of h0 nt)), tt.fr f2, by have := g.len (by omega); omega, ep, fun pr m => ?_, r1, fun H2 r qs f3 tr hp hu => ?_⟩
  · have := mem_pairsOf.mp (g.ins pr m)
    omega
  · have k2 : Stk s d c H2 := by
      obtain ⟨ds, cs, sm, tn, b1, b2, b3, b4, b5⟩ := k1.ex
      exact ⟨⟨ds, cs, sm, tn, f3.keep _ _ b1 List.not_mem_nil, f3.keep _ _ b2 List.not_mem_nil, b3, f3.keep _ _ b4 List.not_mem_nil, b5⟩, h0.sd, h0.sc, h0.dc⟩
    exact k r qs H2 ⟨hn, hn2, hu, fun x m => r2 x (hp.mem_iff.mp m)⟩ ((ff.trans f2).trans f3.of0) k2 tr
theorem ok_web (F : FnP K "_law_web" s__law_web f fd) (g_list : mg "list" = none) (g_range : mg "range" = none) (g_int : mg "int" = none) {f__law_named : Addr} {fd__law_named : FuncData} (F__law_named : FnP K "_law_named" s__law_named f__law_named fd__law_named) (m__law_named : mg "_law_named" = some (.ref f__law_named)) {f__law_draw : Addr} {fd__law_draw : FuncData} (F__law_draw : FnP K "_law_draw" s__law_draw f__law_draw fd__law_draw) (m__law_draw : mg "_law_draw" = some (.ref f__law_draw)) {f__law_pairs : Addr} {fd__law_pairs : FuncData} (F__law_pairs : FnP K "_law_pairs" s__law_pairs f__law_pairs fd__law_pairs) (m__law_pairs : mg "_law_pairs" = some (.ref f__law_pairs)) {f__law_shuffled : Addr} {fd__law_shuffled : FuncData} (F__law_shuffled : FnP K "_law_shuffled" s__law_shuffled f__law_shuffled fd__law_shuffled) (m__law_shuffled : mg "_law_shuffled" = some (.ref f__law_shuffled)) (G__law_draw : FnG P w K mg base CX0 1 f__law_draw fd__law_draw ["stock", "size"] spDraw) (G__law_pairs : FnG P w K mg base CX0 1 f__law_pairs fd__law_pairs ["many"] spPairs)
    (G__law_named : FnG P w K mg base CX0 1 f__law_named fd__law_named ["many", "ties", "names"] spNamed) (G__law_shuffled : FnG P w K mg base CX0 2 f__law_shuffled fd__law_shuffled ["stock", "row"] spShuf) : FnG P w K mg base CX0 3 f fd ["stock", "least", "most"] spWeb := by
  have b__law_draw : Binds K fd__law_draw ["stock", "size"] [] := F__law_draw.bindsN fun _ _ _ _ _ _ us hl => match us, hl with | [_, _], _ => rfl
  have b__law_pairs : Binds K fd__law_pairs ["many"] [] := F__law_pairs.bindsN fun _ _ _ _ _ _ us hl => match us, hl with | [_], _ => rfl
  have b__law_named : Binds K fd__law_named ["many", "ties", "names"] [] := F__law_named.bindsN fun _ _ _ _ _ _ us hl => match us, hl with | [_, _, _], _ => rfl
  have b__law_shuffled : Binds K fd__law_shuffled ["stock", "row"] [] := F__law_shuffled.bindsN fun _ _ _ _ _ _ us hl => match us, hl with | [_, _], _ => rfl
  refine okG0 F sc__law_web (fun vs H Q E h => ?_) (fun cdv A outer s0 H vs Q E hS hr h => ?_)
  · obtain ⟨_, _, _, _, _, rfl, _⟩ := h
    rfl
  · obtain ⟨s, d, c, lo, hi, rfl, hk, h1, h2, h3, q⟩ := h
    refine ⟨rdS__law_web_1 K, (pss_cons (ps_par (i := 3) (j := 4) (by rfl) sc__law_web.nd rfl rfl (by decide) rfl rfl (pa_cons (pe_op op_add (pv 1) (pe_callG G__law_draw hS (hr.mono (by decide)) (by rfl) m__law_draw F__law_draw.kp b__law_draw .nil pass0 (pa_cons (pv 0) (pa_cons (pe_op op_add (pe_op op_sub (pv 2) (pv 1)) pe_int) pa_nil)))) (pa_cons (pe_callG G__law_draw hS (hr.mono (by decide)) (by rfl) m__law_draw F__law_draw.kp b__law_draw .nil pass0 (pa_cons (pv 0) (pa_cons pe_int pa_nil))) pa_nil)) (by rfl))
      (pss_cons (ps_asg (pe_tup (pa_cons (pe_callG G__law_pairs hS (hr.mono (by decide)) (by rfl) m__law_pairs F__law_pairs.kp b__law_pairs .nil pass0 (pa_cons (pv 3) pa_nil)) (pa_cons (pe_lst pa_nil) pa_nil))) (pg_tupK K (n := 2) (by rfl) (pgs_cons (pg_name (i := 5) sc__law_web.nd rfl (Or.inl rfl)) (pgs_cons (pg_name (i := 6) sc__law_web.nd rfl (Or.inr rfl)) pgs_nil))))
      (pss_cons (ps_if (pt_cmpR op_eq (pv 4) pe_int (nomark _)) (pss_one (ps_set (i := 6) sc__law_web.nd rfl (Or.inr rfl) (pe_ifExp (pt_cmpR op_eq (pe_callG G__law_draw hS (hr.mono (by decide)) (by rfl) m__law_draw F__law_draw.kp b__law_draw .nil pass0 (pa_cons (pv 0) (pa_cons pe_int pa_nil))) pe_int (nomark _)) (pv 5) (pe_lst pa_nil)))) pss_nil)
      (pss_cons (ps_if (pt_cmpR op_eq (pv 4) pe_int (nomark _)) (pss_one (ps_set (i := 6) sc__law_web.nd rfl (Or.inr rfl) (pe_lc (own := [("a", 8)]) (g := (gName 8)) (tt := tYes) rfl sc__law_web.nd (pi_range3 rfl g_range (pa_cons pe_int (pa_cons (pe_op op_sub (pv 3) pe_int) (pa_cons pe_int pa_nil)))) (blkOk_by (own := [("a", 8)]) (N := N__law_web) (sc := defScope s__law_web) (by decide +kernel)) (fun _ _ _ _ _ => (pg_name (i := 8) sc__law_web.nd rfl (Or.inl rfl))) (fun _ _ _ _ _ => pts_nil) (fun _ _ _ _ _ => (pe_tup (pa_cons (pv 8) (pa_cons (pe_op op_add (pv 8) pe_int) pa_nil))))))) pss_nil)
      (pss_cons (ps_if (pt_cmpR (memK K (hu80_of hr)) (pv 4) (pe_tup (pa_cons pe_int (pa_cons pe_int pa_nil))) rfl) (pss_one (ps_set (i := 6) sc__law_web.nd rfl (Or.inr rfl) (pe_op op_cat (pe_lc (own := [("a", 8)]) (g := (gName 8)) (tt := tYes) rfl sc__law_web.nd (pi_range1 rfl g_range (pa_cons (pe_op op_sub (pv 3) pe_int) pa_nil)) (blkOk_by (own := [("a", 8)]) (N := N__law_web) (sc := defScope s__law_web) (by decide +kernel)) (fun _ _ _ _ _ => (pg_name (i := 8) sc__law_web.nd rfl (Or.inl rfl))) (fun _ _ _ _ _ => pts_nil) (fun _ _ _ _ _ => (pe_tup (pa_cons (pv 8) (pa_cons (pe_op op_add (pv 8) pe_int) pa_nil))))) (pe_op op_rep (pe_lst (pa_cons (pe_tup (pa_cons pe_int (pa_cons (pe_op op_sub (pv 3) pe_int) pa_nil))) pa_nil)) (pe_callTy call_int1 (by rfl) g_int (by decide +kernel) (pa_cons (pe_and (pe_cmpR op_eq (pv 4) pe_int (nomark _)) (pe_one (pe_cmpR op_gt (pv 3) pe_int (nomark _)))) pa_nil)))))) pss_nil)
      (pss_cons (ps_if (pt_cmpR op_eq (pv 4) pe_int (nomark _)) (pss_one (ps_set (i := 6) sc__law_web.nd rfl (Or.inr rfl) (pe_lc (own := [("pair", 9)]) (g := (gName 9)) rfl sc__law_web.nd (pi_list (pv 5)) (blkOk_by (own := [("pair", 9)]) (N := N__law_web) (sc := defScope s__law_web) (by decide +kernel)) (fun _ _ _ _ _ => (pg_name (i := 9) sc__law_web.nd rfl (Or.inl rfl))) (fun _ _ _ _ _ => (pts_one (pt_cmpR op_ne (pe_op op_mod (pe_ix (ixT K) (pv 9) pe_int (fun _ _ => rfl)) pe_int) (pe_op op_mod (pe_ix (ixT K) (pv 9) pe_int (fun _ _ => rfl)) pe_int) (nomark _)))) (fun _ _ _ _ _ => (pv 9))))) pss_nil)
      (pss_cons (ps_if (pt_cmpR op_gt (pv 4) pe_int (nomark _)) (pss_cons (ps_set (i := 7) sc__law_web.nd rfl (Or.inr rfl) (pe_op op_add pe_int (pe_callG G__law_draw hS (hr.mono (by decide)) (by rfl) m__law_draw F__law_draw.kp b__law_draw .nil pass0 (pa_cons (pv 0) (pa_cons pe_int pa_nil)))))
      (pss_one (ps_set (i := 6) sc__law_web.nd rfl (Or.inr rfl) (pe_lc (own := [("pair", 9)]) (g := (gName 9)) rfl sc__law_web.nd (pi_list (pv 5)) (blkOk_by (own := [("pair", 9)]) (N := N__law_web) (sc := defScope s__law_web) (by decide +kernel)) (fun _ _ _ _ _ => (pg_name (i := 9) sc__law_web.nd rfl (Or.inl rfl))) (fun _ _ _ _ _ => (pts_one (pt_cmpR op_lt (pe_callG G__law_draw hS (hr.mono (by decide)) (by rfl) m__law_draw F__law_draw.kp b__law_draw .nil pass0 (pa_cons (pv 0) (pa_cons pe_int pa_nil))) (pv 7) (nomark _)))) (fun _ _ _ _ _ => (pv 9)))))) pss_nil)
      (pss_cons (ps_if (PW.pt (pw_and (pt_cmpR op_lt (pv 4) pe_int (nomark _)) (pw_and1 (pt_cmpR op_eq (pe_callG G__law_draw hS (hr.mono (by decide)) (by rfl) m__law_draw F__law_draw.kp b__law_draw .nil pass0 (pa_cons (pv 0) (pa_cons pe_int pa_nil))) pe_int (nomark _))))) (pss_one (ps_set (i := 6) sc__law_web.nd rfl (Or.inr rfl) (pe_lc (own := [("pair", 9)]) (g := (gName 9)) rfl sc__law_web.nd (pi_list (pv 5)) (blkOk_by (own := [("pair", 9)]) (N := N__law_web) (sc := defScope s__law_web) (by decide +kernel)) (fun _ _ _ _ _ => (pg_name (i := 9) sc__law_web.nd rfl (Or.inl rfl))) (fun _ _ _ _ _ => (pts_one (pt_cmpR (nmemK K (hu80_of hr)) (pv 9) (pv 6) rfl))) (fun _ _ _ _ _ => (pv 9))))) pss_nil)
      (pss_one (ps_ret (pe_callG G__law_named hS (hr.mono (by decide)) (by rfl) m__law_named F__law_named.kp b__law_named .nil pass0 (pa_cons (pv 3) (pa_cons (pv 6) (pa_cons (pe_callG G__law_shuffled hS (hr.mono (by decide)) (by rfl) m__law_shuffled F__law_shuffled.kp b__law_shuffled .nil pass0 (pa_cons (pv 0) (pa_cons (pe_listRg rfl (by rfl) g_list (prg_1 (by rfl) g_range (pv 3))) pa_nil))) pa_nil)))))))))))))), ?_⟩
    -- many, way
    refine ⟨_, rfl, _, rfl, _, rfl, _, rfl, _, _, rfl, rfl, _, _, rfl, rfl, ?_⟩
    refine ⟨s, d, c, hi - lo + 1, by show [V.ref s, V.int ((hi : Int) - lo + 1)] = _; rw [show ((hi : Int) - lo + 1) = ((hi - lo + 1 : Nat) : Int) by omega], hk, by omega, by omega, fun H1 r hr1 k1 f1 => ?_⟩
    refine ⟨_, _, rfl, rfl, _, rfl, s, d, c, 11, rfl, k1, by omega, by omega, fun H2 wy hw k2 f2 => ⟨_, _, rfl, ?_⟩⟩
    obtain ⟨n, hn⟩ : ∃ n : Nat, (lo : Int) + (r : Int) = (n : Int) := ⟨lo + r, by omega⟩
    dsimp only
    rw [hn]
    have n1 : lo ≤ n := by omega
    have n2 : n ≤ hi := by omega
    -- every, ties
    refine ⟨_, rfl, n, rfl, by omega, fun H3 e es f3 ne ee te => ⟨szl (Nat.zero_le _), fun t ht => ⟨szl (Nat.le_of_ble_eq_true rfl), fun p hp => ?_⟩⟩⟩
    refine ⟨p, _, rfl, SqT.of upd_same, rfl, _, _, rfl, _, _, rfl, rfl, ?_⟩
    have f03 : Fr [s, d] H H3 := (f1.trans f2).trans f3.of0
    have k3 : Stk s d c H3 := by
      obtain ⟨ds, cs, sm, tn, a1, a2, a3, a4, a5⟩ := k2.ex
      exact ⟨⟨ds, cs, sm, tn, f3.keep _ _ a1 List.not_mem_nil, f3.keep _ _ a2 List.not_mem_nil, a3, f3.keep _ _ a4 List.not_mem_nil, a5⟩, hk.sd, hk.sc, hk.dc⟩
    have nt := f03.free ht
    have fT : Fr [s, d] H3 (upd (upd H3 t (.lst [])) p (.tup [.ref e, .ref t])) := (Fr.new ht).add hp
    have kT : Stk s d c (upd (upd H3 t (.lst [])) p (.tup [.ref e, .ref t])) := (k3.add k3 ht).add (k3.add k3 ht) hp
    have st0 : WebSt H s d c lo hi n wy [some (.ref s), some (.int lo), some (.int hi), some (.int n), some (.int wy), some (.ref e), some (.ref t), none, none, none] (upd (upd H3 t (.lst [])) p (.tup [.ref e, .ref t])) :=
      ⟨e, es, t, [], [], none, rfl, kT, f03.trans fT, (f1.trans f2).free ne, at_add (at_add ee ht) hp, te.fr fT, nt, at_add upd_same hp, .nil, Good.nil n⟩
    exact web_0 (K := K) hk st0 fun σ H' L => web_1 (K := K) hk (by omega) (by omega) L fun σ H' L => web_23 (K := K) hk (by omega) (by omega) L fun σ H' L => web_4 (K := K) hk (by omega) L fun σ H' L =>
      web_5 (K := K) hk (by omega) L fun σ H' L => web_6 (K := K) hk (by omega) L fun σ H' L => web_end (K := K) hk (by omega) (by omega) L fun r ps H' ok f k t => q H' r n ps n1 n2 ok f k t
end
end Lt

set_option Elab.async false
set_option linter.all false
set_option maxRecDepth 100000
set_option maxHeartbeats 8000000
namespace Lt
open PySem PySem.Spec PyProof.Rows L2
abbrev rIsTyp : R2 := fun x y H Q => ∃ m n, x = .ty m ∧ y = .ty n ∧ Q (.bl (decide (m = n))) H
theorem rep_row (n : Nat) : (List.replicate n [V.bl false]).flatten = rowV n fun _ => false := by
  unfold rowV
  simp [List.map_const']
theorem up_le {n : Nat} {ps : List Pr} (w : WebOk n ps) {p : Pr} (m : p ∈ ps) : p.1 < p.2 ∧ p.2 < n := mem_pairsOf.mp (w.ins p m)
section
variable {P : Program} {w : World} {K : PySem.W.Frag} {mg : Str → Option Value} {base : Heap} {f : Addr} {fd : FuncData}
def spTable : Sp := fun vs H Q _ => ∃ v n ps, vs = [v] ∧ OfWeb H v n ps ∧ ∀ H' a rows, Fr [] H H' → H a = none → (∀ b ∈ rows, H b = none) → Tab H' a rows n (tied ps) → Q (.ref a) H'
def rd_table_of_1 (K : PySem.W.Frag) : TS := (tAsg (tVar 0) (gTup K 2 (gCons (gName 1) (gCons (gName 2) gNil))))
def rd_table_of_2 (K : PySem.W.Frag) : TS := (tAsg (tLc (iRng1 (tCons (tVar 1) tNil)) (gName 6) tYes (tOp rRep (tLst (tCons (tC (.bl false)) tNil)) (tVar 1)) [6]) (gName 3))
def rd_table_of_3_1 (K : PySem.W.Frag) : TS := (tAsg2 (tC (.bl true)) (gSub (tOp (rIxL K) (tVar 3) (tVar 4)) (tVar 5) rSetL) (gSub (tOp (rIxL K) (tVar 3) (tVar 5)) (tVar 4) rSetL))
def rdS_table_of_3_1 (K : PySem.W.Frag) : TS := rd_table_of_3_1 K
def rd_table_of_3 (K : PySem.W.Frag) : TS := tFor (iTup K (tVar 2)) (gTup K 2 (gCons (gName 4) (gCons (gName 5) gNil))) (rdS_table_of_3_1 K)
def rd_table_of_4 (K : PySem.W.Frag) : TS := (tRet (tVar 3))
def rdS_table_of_4 (K : PySem.W.Frag) : TS := rd_table_of_4 K
def rdS_table_of_3 (K : PySem.W.Frag) : TS := tSeq (rd_table_of_3 K) (rdS_table_of_4 K)
def rdS_table_of_2 (K : PySem.W.Frag) : TS := tSeq (rd_table_of_2 K) (rdS_table_of_3 K)
def rdS_table_of_1 (K : PySem.W.Frag) : TS := tSeq (rd_table_of_1 K) (rdS_table_of_2 K)
/-- table = [[False] * many for _ in range(many)] -/
theorem table_2 {D : Ends} {H : Hp} {y0 y2 y3 y4 y5 y6 : Option V} {n : Nat} (hn : n ≤ 12)
    (k : ∀ H' a rows, Fr [] H H' → H a = none → (∀ b ∈ rows, H b = none) → Tab H' a rows n (fun _ _ => false) → D.nx [y0, some (.int n), y2, some (.ref a), y4, y5, y6] H') :
    rd_table_of_2 K D [y0, some (.int n), y2, y3, y4, y5, y6] H := by
  refine ⟨_, rfl, n, rfl, by omega, by omega, fun D1 hD1 => ?_⟩
  refine walk_r (fun i H' => ∃ rows : List Addr, Fr [] H H' ∧ H' D1 = some (.lst (rows.map V.ref)) ∧ rows.length = i ∧ rows.Nodup ∧ D1 ∉ rows ∧ ∀ b ∈ rows, H b = none ∧ H' b = some (.lst (rowV n fun _ => false))) ⟨[], Fr.new hD1, upd_same, rfl, List.nodup_nil, List.not_mem_nil, fun _ m => absurd m List.not_mem_nil⟩ ?_ ?_
  · rintro i H1 hi ⟨rows, f1, e1, l1, nd, off, hr⟩
    have hi : i < n := hi
    refine ⟨rfl, tyes ⟨szl (Nat.le_of_ble_eq_true rfl), fun p hp => ⟨_, rfl, p, n, _, rfl, rfl, upd_same, by omega, by omega, szl (by simp; omega), fun q hq => ?_⟩⟩⟩
    have np : H1 p = none := hp
    have nq : H1 q = none := (Fr.new (S := []) (o := .lst [.bl false]) hp).free hq
    have er : (List.replicate (n : Int).toNat [V.bl false]).flatten = rowV n fun _ => false := by
      rw [Int.toNat_natCast]
      exact rep_row n
    have eD : upd (upd H1 p (.lst [.bl false])) q (.lst (rowV n fun _ => false)) D1 = some (.lst (rows.map V.ref)) := at_add (at_add e1 hp) hq
    have f2 : Fr [] H (upd (upd H1 p (.lst [.bl false])) q (.lst (rowV n fun _ => false))) := (f1.add hp).add hq
    rw [er]
    refine ⟨_, eD, szlt (by rw [List.length_map]; omega), rows ++ [q], ?_, ?_, ?_, ?_, ?_, ?_⟩
    · exact f2.set (.inl hD1) (fun xs z => by rw [eD] at z; cases z)
    · rw [upd_same, List.map_append]
      rfl
    · rw [List.length_append, l1]
      rfl
    · refine List.nodup_append.mpr ⟨nd, by simp, ?_⟩
      intro x mx y my e
      rw [List.mem_singleton.mp my] at e
      subst e
      rw [(hr x mx).2] at nq
      cases nq
    · intro m
      rcases List.mem_append.mp m with m | m
      · exact off m
      · rw [List.mem_singleton.mp m] at e1
        rw [e1] at nq
        cases nq
    · intro b m
      have nb : b ≠ D1 := by
        intro z
        subst z
        rcases List.mem_append.mp m with m | m
        · exact off m
        · rw [List.mem_singleton.mp m] at e1
          rw [e1] at nq
          cases nq
      rcases List.mem_append.mp m with m | m
      · refine ⟨(hr b m).1, ?_⟩
        rw [upd_ne nb]
        exact at_add (at_add (hr b m).2 hp) hq
      · rw [List.mem_singleton.mp m] at nb ⊢
        refine ⟨f1.free nq, ?_⟩
        rw [upd_ne nb, upd_same]
  · rintro H1 ⟨rows, f1, e1, l1, nd, off, hr⟩
    exact k H1 D1 rows f1 hD1 (fun b m => (hr b m).1) ⟨e1, l1, nd, off, fun i b e => (hr b (List.mem_of_getElem? e)).2⟩
/-- for one, other in ties: .. -/
theorem table_3 {D : Ends} {H : Hp} {y0 y1 y4 y5 y6 : Option V} {n : Nat} {ps : List Pr} {t a : Addr} {xs : List V} {rows : List Addr} (hw : WebOk n ps) (ht : H t = some (.tup xs)) (hx : Tps H xs (dPs ps)) (tb : Tab H a rows n (fun _ _ => false))
    (k : ∀ H' y4 y5, Fr rows H H' → Tab H' a rows n (tied ps) → D.nx [y0, y1, some (.ref t), some (.ref a), y4, y5, y6] H') :
    rd_table_of_3 K D [y0, y1, some (.ref t), some (.ref a), y4, y5, y6] H := by
  refine ⟨_, rfl, t, rfl, ⟨_, SqT.of ht⟩, ?_⟩
  refine for_tup (K := K) (a := t) (xs := xs) (fun i σ H' => ∃ y4 y5, σ = [y0, y1, some (.ref t), some (.ref a), y4, y5, y6] ∧ Fr rows H H' ∧ Tab H' a rows n (tied (ps.take i))) ⟨y4, y5, rfl, Fr.refl, tb.ext fun i j _ _ => by simp [tied]⟩
    (fun i σ H' _ ⟨_, _, _, f1, _⟩ => SqT.of (f1.tups _ _ ht)) ?_ ?_
  · rintro i x σ H1 ex ⟨z4, z5, rfl, f1, t1⟩
    obtain ⟨p, ep, tp⟩ := hx.pr_at ex
    obtain ⟨b, rfl, eb⟩ := (tp.fr f1).pr_inv
    have hp := up_le hw (List.mem_of_getElem? ep)
    refine ⟨b, _, rfl, SqT.of eb, rfl, _, _, rfl, _, _, rfl, rfl, ?_⟩
    obtain ⟨r1, i1, g1, h1⟩ := t1.get (i := p.1) (by omega)
    refine ⟨_, rfl, _, rfl, a, _, p.1, _, rfl, rfl, SqL.of t1.at_, atI_nat g1, _, rfl, r1, _, p.2, p.2, rfl, rfl, h1, ix_of hp.2, ?_⟩
    have t2 := t1.put (j := p.2) (x := true) i1
    have f2 := f1.trans (t1.putFr (j := p.2) (x := true) i1)
    obtain ⟨r2, i2, g2, h2⟩ := t2.get (i := p.2) hp.2
    refine ⟨_, rfl, _, rfl, a, _, p.2, _, rfl, rfl, SqL.of t2.at_, atI_nat g2, _, rfl, r2, _, p.1, p.1, rfl, rfl, h2, ix_of (by omega), ?_⟩
    have t3 := t2.put (j := p.1) (x := true) i2
    have f3 := f2.trans (t2.putFr (j := p.1) (x := true) i2)
    refine ⟨_, _, rfl, f3, t3.ext fun q1 q2 _ _ => ?_⟩
    rw [List.take_add_one, ep]
    exact tied_snoc hp.1 q1 q2
  · rintro σ H1 ⟨z4, z5, rfl, f1, t1⟩
    rw [hx.len, List.take_length] at t1
    exact k H1 _ _ f1 t1
theorem ok_table_of (F : FnP K "table_of" s_table_of f fd) (g_range : mg "range" = none) : FnG P w K mg base CX0 1 f fd ["web"] spTable := by
  refine okG0 F sc_table_of (fun vs H Q E h => ?_) (fun cdv A outer s H vs Q E hS hr h => ?_)
  · obtain ⟨_, _, _, rfl, _⟩ := h
    rfl
  · obtain ⟨v, n, ps, rfl, ⟨hv, hw⟩, q⟩ := h
    obtain ⟨a, t, xs, rfl, ha, ht, hx⟩ := hv.web_inv
    refine ⟨rdS_table_of_1 K, (pss_cons (ps_asg (pv 0) (pg_tupK K (n := 2) (by rfl) (pgs_cons (pg_name (i := 1) sc_table_of.nd rfl (Or.inr rfl)) (pgs_cons (pg_name (i := 2) sc_table_of.nd rfl (Or.inl rfl)) pgs_nil))))
      (pss_cons (ps_setLc (i := 3) (own := [("_", 6)]) (g := (gName 6)) (tt := tYes) rfl sc_table_of.nd rfl rfl (sw_true rfl rfl rfl (by decide +kernel)) (pi_range1 rfl g_range (pa_cons (pv 1) pa_nil)) (blkOk_by (own := [("_", 6)]) (N := N_table_of) (sc := defScope s_table_of) (by decide +kernel)) (fun _ _ _ _ _ => (pg_name (i := 6) sc_table_of.nd rfl (Or.inl rfl))) (fun _ _ _ _ _ => pts_nil) (fun _ _ _ _ _ => (pe_op op_rep (pe_lst (pa_cons pe_bl pa_nil)) (pv 1))))
      (pss_cons (ps_for PassesOwn.never rfl (pi_tup (pv 2)) (pg_tupK K (n := 2) (by rfl) (pgs_cons (pg_name (i := 4) sc_table_of.nd rfl (Or.inl rfl)) (pgs_cons (pg_name (i := 5) sc_table_of.nd rfl (Or.inl rfl)) pgs_nil))) (pss_one (ps_asg2 pe_bl (pg_sub (pe_ix (ixL K) (pv 3) (pv 4) (fun _ _ => rfl)) (pv 5) set_list) (pg_sub (pe_ix (ixL K) (pv 3) (pv 5) (fun _ _ => rfl)) (pv 4) set_list))))
      (pss_one (ps_ret (pv 3)))))), ?_⟩
    have hn := hw.hi
    refine ⟨_, rfl, a, _, rfl, SqT.of ha, rfl, _, _, rfl, _, _, rfl, rfl, ?_⟩
    refine table_2 (K := K) hn fun H1 b rows f1 nb nr t1 => ?_
    refine table_3 (K := K) hw (f1.tups _ _ ht) (hx.fr f1) t1 fun H2 y4 y5 f2 t2 => ?_
    exact ⟨_, rfl, q H2 b rows (f1.drop f2 nr) nb nr t2⟩
end
end Lt

set_option Elab.async false
set_option linter.all false
set_option maxRecDepth 100000
set_option maxHeartbeats 8000000
namespace Lt
open PySem PySem.Spec PyProof.Rows L2
theorem nats_invQ {H : Hp} : ∀ {ys : List V} {is : List Nat}, Tps H ys (dNs is) → ys = is.map fun i => V.int (i : Nat)
  | _, [], .nil => rfl
  | _, _ :: is, .cons (.int _) t => by rw [nats_invQ t]; rfl
abbrev dQ (a d b c : Nat) : PyData := .tuple [.int a, .int d, .int b, .int c]
theorem Tp.quad_inv {H : Hp} {v : V} {a d b c : Nat} (h : Tp H v (dQ a d b c)) : ∃ t, v = .ref t ∧ H t = some (.tup [.int a, .int d, .int b, .int c]) := by
  obtain ⟨t, xs, rfl, e, tx⟩ := h.tup_inv
  have := nats_invQ (is := [a, d, b, c]) tx
  subst this
  exact ⟨t, rfl, e⟩
theorem nat_item {S : List Nat} {xs : List V} {i : Nat} {x : V} (e : xs = S.map fun i => V.int (i : Nat)) (h : xs[i]? = some x) : ∃ s, S[i]? = some s ∧ x = .int s := by
  rw [e, List.getElem?_map] at h
  obtain ⟨s, h1, rfl⟩ := Option.map_eq_some_iff.mp h
  exact ⟨s, h1, rfl⟩
def liftB (f : Nat → Nat → Bool) (a b c : Nat) : Bool := f a b == f a c
theorem bl_eq (x y : Bool) : decide (V.bl x = V.bl y) = (x == y) := by cases x <;> cases y <;> rfl
theorem bl_ne (x y : Bool) : (!decide (V.bl x = V.bl y)) = (x != y) := by cases x <;> cases y <;> rfl
section
variable {P : Program} {w : World} {K : PySem.W.Frag} {mg : Str → Option Value} {base : Heap} {f : Addr} {fd : FuncData}
def spFrom : Sp := fun vs H Q _ => ∃ (a : Addr) (rows : List Addr) (n : Nat) (f : Nat → Nat → Bool), vs = [.ref a] ∧ Tab H a rows n f ∧ n ≤ 12 ∧ Ret H (dW n (fromT n f)) Q
def spTells : Sp := fun vs H Q _ => ∃ (a : Addr) (rows : List Addr) (n : Nat) (f : Nat → Nat → Bool) (p i j : Nat), vs = [.ref a, .int p, .int i, .int j] ∧ Tab H a rows n f ∧ n ≤ 12 ∧ p < n ∧ i < n ∧ j < n ∧ ∀ H', Fr [] H H' → Q (.bl (tellB f p i j)) H'
theorem ok_tells (F : FnP K "tells_apart" s_tells_apart f fd)  : FnG P w K mg base CX0 1 f fd ["table", "place", "one", "other"] spTells := by
  refine okG0 F sc_tells_apart (fun vs H Q E h => ?_) (fun cdv A outer s H vs Q E hS hr h => ?_)
  · obtain ⟨_, _, _, _, _, _, _, rfl, _⟩ := h
    rfl
  · obtain ⟨a, rows, n, f, p, i, j, rfl, tb, hn, hp, hi, hj, q⟩ := h
    refine ⟨_, (pss_one (ps_ret (pe_and (pe_cmpR (nmemK K (hu80_of hr)) (pv 1) (pe_tup (pa_cons (pv 2) (pa_cons (pv 3) pa_nil))) rfl) (pe_one (pe_cmpR op_ne (pe_ix (ixL K) (pe_ix (ixL K) (pv 0) (pv 1) (fun _ _ => rfl)) (pv 2) (fun _ _ => rfl)) (pe_ix (ixL K) (pe_ix (ixL K) (pv 0) (pv 1) (fun _ _ => rfl)) (pv 3) (fun _ _ => rfl)) (nomark _)))))), ?_⟩
    refine ⟨_, rfl, _, rfl, _, rfl, szl (Nat.le_of_ble_eq_true rfl), fun p2 hp2 => ?_⟩
    have fp : Fr [] H (upd H p2 (.tup [.int i, .int j])) := Fr.new hp2
    refine nmem_tN (i := p) (is := [i, j]) upd_same (.cons (.int _) (.cons (.int _) .nil)) (by omega) (fun k m => by simp only [List.mem_cons, List.not_mem_nil, or_false] at m; omega) (Nat.le_of_ble_eq_true rfl) ⟨_, rfl, ite2 (fun c => ?_) (fun c => ?_)⟩
    · have t2 := tb.fr0 fp
      obtain ⟨r1, i1, g1, h1⟩ := t2.get (i := p) hp
      refine ⟨_, rfl, _, rfl, a, _, p, _, rfl, rfl, SqL.of t2.at_, atI_nat g1, _, rfl, r1, _, i, _, rfl, rfl, SqL.of h1, atI_nat (rowV_at hi), _, rfl, _, rfl, a, _, p, _, rfl, rfl, SqL.of t2.at_, atI_nat g1, _, rfl, r1, _, j, _, rfl, rfl, SqL.of h1, atI_nat (rowV_at hj), rfl, ?_⟩
      have := q _ fp
      unfold tellB at this
      have c' : ¬ (p = i ∨ p = j) := by simpa using c
      rw [decide_eq_false c'] at this
      rw [bl_ne]
      exact this
    · have := q _ fp
      unfold tellB at this
      have c' : p = i ∨ p = j := by
        have := c
        simp only [Bool.not_eq_true', decide_eq_false_iff_not, Classical.not_not, List.mem_cons, List.not_mem_nil, or_false] at this
        exact this
      rw [decide_eq_true c'] at this
      have c2 : (!decide (p ∈ [i, j])) = false := by simpa using c
      first | exact this | (rw [c2]; exact this)
def spLiftIn : Sp := fun vs H Q _ => ∃ (t : Addr) (rows : List Addr) (n : Nat) (f : Nat → Nat → Bool) (v : V) (a d b c : Nat), vs = [.ref t, v] ∧ Tab H t rows n f ∧ Tp H v (dQ a d b c) ∧ a < n ∧ b < n ∧ c < n ∧ ∀ H', Fr [] H H' → Q (.bl (liftB f a b c)) H'
theorem ok_lift_in (F : FnP K "is_lift_in" s_is_lift_in f fd)  : FnG P w K mg base CX0 1 f fd ["table", "deed"] spLiftIn := by
  refine okG0 F sc_is_lift_in (fun vs H Q E h => ?_) (fun cdv A outer s H vs Q E hS hr h => ?_)
  · obtain ⟨_, _, _, _, _, _, _, _, _, rfl, _⟩ := h
    rfl
  · obtain ⟨t, rows, n, f, v, a, d, b, c, rfl, tb, hv, ha, hb, hc, q⟩ := h
    obtain ⟨u, rfl, hu⟩ := hv.quad_inv
    refine ⟨_, (pss_cons (ps_asg (pv 1) (pg_tupK K (n := 4) (by rfl) (pgs_cons (pg_name (i := 2) sc_is_lift_in.nd rfl (Or.inl rfl)) (pgs_cons (pg_name (i := 3) sc_is_lift_in.nd rfl (Or.inl rfl)) (pgs_cons (pg_name (i := 4) sc_is_lift_in.nd rfl (Or.inl rfl)) (pgs_cons (pg_name (i := 5) sc_is_lift_in.nd rfl (Or.inl rfl)) pgs_nil))))))
      (pss_one (ps_ret (pe_cmpR op_eq (pe_ix (ixL K) (pe_ix (ixL K) (pv 0) (pv 2) (fun _ _ => rfl)) (pv 4) (fun _ _ => rfl)) (pe_ix (ixL K) (pe_ix (ixL K) (pv 0) (pv 2) (fun _ _ => rfl)) (pv 5) (fun _ _ => rfl)) (nomark _))))), ?_⟩
    refine ⟨_, rfl, u, _, rfl, SqT.of hu, rfl, _, _, rfl, _, _, rfl, _, _, rfl, _, _, rfl, rfl, ?_⟩
    obtain ⟨r1, i1, g1, h1⟩ := tb.get (i := a) ha
    refine ⟨_, rfl, _, rfl, t, _, a, _, rfl, rfl, SqL.of tb.at_, atI_nat g1, _, rfl, r1, _, b, _, rfl, rfl, SqL.of h1, atI_nat (rowV_at hb), _, rfl, _, rfl, t, _, a, _, rfl, rfl, SqL.of tb.at_, atI_nat g1, _, rfl, r1, _, c, _, rfl, rfl, SqL.of h1, atI_nat (rowV_at hc), rfl, ?_⟩
    rw [bl_eq]
    exact q _ Fr.refl
def spLift : Sp := fun vs H Q _ => ∃ (v vd : V) (n : Nat) (ps : List Pr) (a d b c : Nat), vs = [v, vd] ∧ OfWeb H v n ps ∧ Tp H vd (dQ a d b c) ∧ a < n ∧ b < n ∧ c < n ∧ ∀ H', Fr [] H H' → Q (.bl (liftB (tied ps) a b c)) H'
theorem ok_lift (F : FnP K "is_lift" s_is_lift f fd) {f_is_lift_in : Addr} {fd_is_lift_in : FuncData} (F_is_lift_in : FnP K "is_lift_in" s_is_lift_in f_is_lift_in fd_is_lift_in) (m_is_lift_in : mg "is_lift_in" = some (.ref f_is_lift_in)) {f_table_of : Addr} {fd_table_of : FuncData} (F_table_of : FnP K "table_of" s_table_of f_table_of fd_table_of) (m_table_of : mg "table_of" = some (.ref f_table_of)) (G_table_of : FnG P w K mg base CX0 1 f_table_of fd_table_of ["web"] spTable) (G_is_lift_in : FnG P w K mg base CX0 1 f_is_lift_in fd_is_lift_in ["table", "deed"] spLiftIn) : FnG P w K mg base CX0 2 f fd ["web", "deed"] spLift := by
  have b_table_of : Binds K fd_table_of ["web"] [] := F_table_of.bindsN fun _ _ _ _ _ _ us hl => match us, hl with | [_], _ => rfl
  have b_is_lift_in : Binds K fd_is_lift_in ["table", "deed"] [] := F_is_lift_in.bindsN fun _ _ _ _ _ _ us hl => match us, hl with | [_, _], _ => rfl
  refine okG0 F sc_is_lift (fun vs H Q E h => ?_) (fun cdv A outer s H vs Q E hS hr h => ?_)
  · obtain ⟨_, _, _, _, _, _, _, _, rfl, _⟩ := h
    rfl
  · obtain ⟨v, vd, n, ps, a, d, b, c, rfl, hv, hd, ha, hb, hc, q⟩ := h
    refine ⟨_, (pss_one (ps_ret (pe_callG G_is_lift_in hS (hr.mono (by decide)) (by rfl) m_is_lift_in F_is_lift_in.kp b_is_lift_in .nil pass0 (pa_cons (pe_callG G_table_of hS (hr.mono (by decide)) (by rfl) m_table_of F_table_of.kp b_table_of .nil pass0 (pa_cons (pv 0) pa_nil)) (pa_cons (pv 1) pa_nil))))), ?_⟩
    refine ⟨_, rfl, v, n, ps, rfl, hv, fun H1 t rows f1 _ _ t1 => ⟨_, rfl, t, rows, n, _, vd, a, d, b, c, rfl, t1, hd.fr f1, ha, hb, hc, fun H2 f2 => q H2 (f1.trans f2)⟩⟩
def spHand : Sp := fun vs H Q _ => ∃ (t : Addr) (rows : List Addr) (n : Nat) (f : Nat → Nat → Bool) (v : V) (a d b c : Nat), vs = [.ref t, v] ∧ Tab H t rows n f ∧ Tp H v (dQ a d b c) ∧ a < n ∧ d < n ∧ b < n ∧ c < n ∧
  ∀ H', Fr rows H H' → Tab H' t rows n (handF f a d b c) → Q .non H'
end
end Lt

set_option Elab.async false
set_option linter.all false
set_option maxRecDepth 100000
set_option maxHeartbeats 8000000
namespace Lt
open PySem PySem.Spec PyProof.Rows L2
/-! ## quadruples, deeds, rows of them -/
structure Qd where
  a : Nat
  d : Nat
  b : Nat
  c : Nat
abbrev dq (q : Qd) : PyData := dQ q.a q.d q.b q.c
abbrev inR (n : Nat) (i : Int) : Bool := decide (0 ≤ i ∧ i < n)
def errQ (n : Nat) (f : Nat → Nat → Bool) (a d b c : Int) : PyData :=
  if ([a, d, b, c].all fun i => inR n i) = false then .str "form" else if ¬ [a, d, b, c].Nodup then .str "alike"
  else if tellB f b.toNat a.toNat d.toNat = false then .tuple [.str "teller", .int 2] else if tellB f c.toNat a.toNat d.toNat = false then .tuple [.str "teller", .int 3] else .none
abbrev errD (n : Nat) (f : Nat → Nat → Bool) (q : Qd) : PyData := errQ n f q.a q.d q.b q.c
abbrev handQ (f : Nat → Nat → Bool) (q : Qd) : Nat → Nat → Bool := handF f q.a q.d q.b q.c
def runF (f : Nat → Nat → Bool) (qs : List Qd) : Nat → Nat → Bool := qs.foldl handQ f
def GoOk (n : Nat) (f : Nat → Nat → Bool) (qs : List Qd) : Prop := ∀ i q, qs[i]? = some q → errD n (runF f (qs.take i)) q = .none
structure DeedOk (n : Nat) (f : Nat → Nat → Bool) (q : Qd) : Prop where
  a : q.a < n
  d : q.d < n
  b : q.b < n
  c : q.c < n
  nd : [(q.a : Int), q.d, q.b, q.c].Nodup
  t1 : tellB f q.b q.a q.d = true
  t2 : tellB f q.c q.a q.d = true
theorem errD_none {n : Nat} {f : Nat → Nat → Bool} {q : Qd} : errD n f q = .none ↔ DeedOk n f q := by
  unfold errD errQ
  constructor
  · intro h
    split at h
    · cases h
    · rename_i h1
      split at h
      · cases h
      · rename_i h2
        split at h
        · cases h
        · rename_i h3
          split at h
          · cases h
          · rename_i h4
            have h1' : ([(q.a : Int), q.d, q.b, q.c].all fun i => inR n i) = true := by simpa using h1
            simp only [List.all_cons, List.all_nil, Bool.and_true, Bool.and_eq_true, decide_eq_true_eq] at h1'
            exact ⟨by omega, by omega, by omega, by omega, Classical.not_not.mp h2, by simpa using h3, by simpa using h4⟩
  · rintro ⟨a, d, b, c, nd, t1, t2⟩
    have h1' : ([(q.a : Int), q.d, q.b, q.c].all fun i => inR n i) = true := by
      simp only [List.all_cons, List.all_nil, Bool.and_true, Bool.and_eq_true, decide_eq_true_eq]
      omega
    rw [if_neg (by rw [h1']; simp), if_neg (Classical.not_not.mpr nd)]
    simp only [Int.toNat_natCast, t1, t2]
    rfl
/-- a loop over enumerate(t) -/
theorem for_e {K : PySem.W.Frag} {a : Addr} {xs : List V} {g : TG} {tb : TS} {D : Ends} {σ : Slots} {H : Hp} (Pv : Nat → Slots → Hp → Prop) (h0 : Pv 0 σ H) (hl : ∀ i σ H, i ≤ xs.length → Pv i σ H → H a = some (.tup xs))
    (hs : ∀ (i : Nat) x σ H p, xs[i]? = some x → Pv i σ H → H p = none → g (.ref p) σ (upd H p (.tup [.int i, x])) fun σ2 H2 => tb { D with nx := Pv (i + 1), ct := Pv (i + 1), bk := D.nx } σ2 H2) (hd : ∀ σ H, Pv xs.length σ H → D.nx σ H) :
    ∃ W : Nat → Nat → Slots → Hp → Prop, (∃ m, W 0 m σ H) ∧ ∀ i m σ H, W i m σ H →
      ((ItE K a).stop i H ∧ D.nx σ H) ∨ ((ItE K a).go i H ∧ ∃ N : Slots → Hp → Prop, (∀ σ' H', N σ' H' → ∃ m', m' < m ∧ W (i + 1) m' σ' H') ∧ ∀ x H', (ItE K a).yld i H x H' → g x σ H' fun σ2 H2 => tb { D with nx := N, ct := N, bk := D.nx } σ2 H2) := by
  refine ⟨fun i m σ H => m + i = xs.length ∧ Pv i σ H, ⟨xs.length, by omega, h0⟩, ?_⟩
  rintro i m σ H ⟨e, p⟩
  have q := SqT.of (K := K) (hl i σ H (by omega) p)
  by_cases c : i < xs.length
  · refine .inr ⟨⟨xs, xs[i], q, List.getElem?_eq_getElem c⟩, Pv (i + 1), fun σ' H' p' => ⟨m - 1, by omega, by omega, p'⟩, ?_⟩
    rintro x H' ⟨t, y, rfl, nt, rfl, ey⟩
    exact hs i y σ H t (ey xs q) p nt
  · obtain rfl : i = xs.length := by omega
    exact .inl ⟨⟨xs, q, Nat.le_refl _⟩, hd σ H p⟩
section
variable {P : Program} {w : World} {K : PySem.W.Frag} {mg : Str → Option Value} {base : Heap} {f : Addr} {fd : FuncData}
def spPlace : Sp := fun vs H Q _ => ∃ (n : Nat) (i : Int), vs = [.int n, .int i] ∧ Q (.bl (inR n i)) H
theorem ok_is_place (F : FnP K "is_place" s_is_place f fd) (g_int : mg "int" = none) (g_type : mg "type" = none) : FnG P w K mg base CX0 1 f fd ["many", "value"] spPlace := by
  refine okG0 F sc_is_place (fun vs H Q E h => ?_) (fun cdv A outer s H vs Q E hS hr h => ?_)
  · obtain ⟨_, _, rfl, _⟩ := h
    rfl
  · obtain ⟨n, i, rfl, q⟩ := h
    refine ⟨_, (pss_one (ps_ret (pe_and (pe_cmpR op_isTy (pe_typeOf (by rfl) g_type (pv 1)) (pe_bltn (v := .ty "int") (by rfl) g_int rfl rfl) (nomark _)) (pe_one (pe_chain op_le op_lt pe_int (pv 1) (pv 0)))))), ?_⟩
    refine ⟨_, rfl, "int", rfl, _, _, rfl, rfl, _, rfl, ?_⟩
    rw [decide_eq_true rfl]
    refine iteT ?_
    refine ⟨_, rfl, _, _, rfl, rfl, _, rfl, ite2 (fun c => ?_) (fun c => ?_)⟩
    · refine ⟨_, rfl, _, _, rfl, rfl, ?_⟩
      have c' : (0 : Int) ≤ i := of_decide_eq_true c
      have e : decide (i < (n : Int)) = inR n i := by simp [inR, c']
      show Q (V.bl (decide (i < (n : Int)))) H
      rw [e]
      exact q
    · have c' : ¬ (0 : Int) ≤ i := fun z => c (decide_eq_true z)
      have e : inR n i = false := by simp [inR, c']
      rw [e] at q
      exact q
def spQuad : Sp := fun vs H Q _ => ∃ (n : Nat) (u : Addr) (ns : List Int), vs = [.int n, .ref u] ∧ H u = some (.tup (ns.map V.int)) ∧ ns.length = 4 ∧ ∀ H', Fr [] H H' → Q (.bl (ns.all fun i => inR n i)) H'
theorem ok_is_quad (F : FnP K "is_quadruple" s_is_quadruple f fd) (g_tuple : mg "tuple" = none) (g_all : mg "all" = none) (g_type : mg "type" = none) (g_len : mg "len" = none) {f_is_place : Addr} {fd_is_place : FuncData} (F_is_place : FnP K "is_place" s_is_place f_is_place fd_is_place) (m_is_place : mg "is_place" = some (.ref f_is_place)) (G_is_place : FnG P w K mg base CX0 1 f_is_place fd_is_place ["many", "value"] spPlace) : FnG P w K mg base CX0 2 f fd ["many", "value"] spQuad := by
  have b_is_place : Binds K fd_is_place ["many", "value"] [] := F_is_place.bindsN fun _ _ _ _ _ _ us hl => match us, hl with | [_, _], _ => rfl
  refine okG0 F sc_is_quadruple (fun vs H Q E h => ?_) (fun cdv A outer s H vs Q E hS hr h => ?_)
  · obtain ⟨_, _, _, rfl, _⟩ := h
    rfl
  · obtain ⟨n, u, ns, rfl, hu, hl, q⟩ := h
    refine ⟨_, (pss_one (ps_ret (pe_and (pe_cmpR op_isTy (pe_typeOf (by rfl) g_type (pv 1)) (pe_bltn (v := .ty "tuple") (by rfl) g_tuple rfl rfl) (nomark _)) (pe_and (pe_cmpR op_eq (pe_callB (lenK K) (by rfl) g_len (by decide +kernel) (pa_cons (pv 1) pa_nil)) pe_int (nomark _)) (pe_one (pe_callB (allK K rfl) (by rfl) g_all (by decide +kernel) (pa_cons (pe_lc (own := [("item", 2)]) (g := (gName 2)) (tt := tYes) rfl sc_is_quadruple.nd (pi_tup (pv 1)) (blkOk_by (own := [("item", 2)]) (N := N_is_quadruple) (sc := defScope s_is_quadruple) (by decide +kernel)) (fun _ _ _ _ _ => (pg_name (i := 2) sc_is_quadruple.nd rfl (Or.inl rfl))) (fun _ _ _ _ _ => pts_nil) (fun _ _ _ _ _ => (pe_callG G_is_place hS (hr.mono (by decide)) (by rfl) m_is_place F_is_place.kp b_is_place .nil pass0 (pa_cons (pv 0) (pa_cons (pv 2) pa_nil))))) pa_nil))))))), ?_⟩
    refine ⟨_, rfl, "tuple", ?_, _, _, rfl, rfl, _, rfl, ?_⟩
    · show zTyV (.ref u) H = some "tuple"
      simp only [zTyV, hu]
    rw [decide_eq_true rfl]
    refine iteT ?_
    refine ⟨_, rfl, u, _, rfl, .inr (SqT.of hu), rfl, _, rfl, ?_⟩
    rw [List.length_map, hl]
    refine iteT ?_
    refine ⟨_, rfl, u, rfl, ⟨_, SqT.of hu⟩, fun D hD => ?_⟩
    have C : LcC [] (fun _ => True) H D := ⟨hD, List.not_mem_nil, fun _ _ h => h⟩
    refine lct (M := fun k ds => ds = made ns (fun i => some (inR n i)) PyData.bool k) C hu trivial rfl ?_ ?_
    · intro k x H2 zs ds ex L
      rw [List.getElem?_map] at ex
      obtain ⟨i, ei, rfl⟩ := Option.map_eq_some_iff.mp ex
      have hk : k < 4 := by
        have := (List.getElem?_eq_some_iff.mp ei).1
        omega
      refine ⟨rfl, tyes ⟨_, rfl, _, rfl, n, i, rfl, ?_⟩⟩
      exact L.put C (d := .bool (inR n i)) (by omega) Fr.refl trivial (.bl _) (by rw [L.m]; exact (made_some (f := fun i => some (inR n i)) (en := PyData.bool) ei rfl).symm)
    · intro H2 zs ds L
      have em := L.m
      rw [made_all (by rw [List.length_map]; exact Nat.le_refl _), filterMap_one] at em
      have td := L.dat
      rw [em] at td
      have ez := bools_inv td
      have ea := L.at_
      rw [ez] at ea
      refine ⟨D, ns.map fun i => inR n i, rfl, SqL.of ea, ?_⟩
      have := q H2 L.fr
      rw [List.all_map]
      exact this
end
end Lt

set_option Elab.async false
set_option linter.all false
set_option maxRecDepth 100000
set_option maxHeartbeats 8000000
namespace Lt
open PySem PySem.Spec PyProof.Rows L2
section
variable {P : Program} {w : World} {K : PySem.W.Frag} {mg : Str → Option Value} {base : Heap} {f : Addr} {fd : FuncData}
def spErr : Sp := fun vs H Q _ => ∃ (t u : Addr) (rows : List Addr) (n : Nat) (f : Nat → Nat → Bool) (a d b c : Int), vs = [.ref t, .ref u] ∧ Tab H t rows n f ∧ n ≤ 12 ∧ H u = some (.tup [.int a, .int d, .int b, .int c]) ∧ Ret H (errQ n f a d b c) Q
def rd_error_in_1 (K : PySem.W.Frag) : TS := (tIfS (tNot (tB (tCall spQuad [] E0 (tCons (tCB (rLen K) (tCons (tVar 0) tNil)) (tCons (tVar 1) tNil))))) (tRet (tC (.str "form"))) tNext)
def rd_error_in_2 (K : PySem.W.Frag) : TS := (tIfS (tTest (tOp rLtI (tLenSetT K (tVar 1)) (tC (.int 4)))) (tRet (tC (.str "alike"))) tNext)
def rd_error_in_3_1 (K : PySem.W.Frag) : TS := (tIfS (tNot (tB (tCall spTells [] E0 (tCons (tVar 0) (tCons (tOp (rIxT K) (tVar 1) (tVar 2)) (tCons (tOp (rIxT K) (tVar 1) (tC (.int 0))) (tCons (tOp (rIxT K) (tVar 1) (tC (.int 1))) tNil))))))) (tRet (tTup (tCons (tC (.str "teller")) (tCons (tVar 2) tNil)))) tNext)
def rdS_error_in_3_1 (K : PySem.W.Frag) : TS := rd_error_in_3_1 K
def rd_error_in_3 (K : PySem.W.Frag) : TS := tFor (iTup K (tTup (tCons (tC (.int 2)) (tCons (tC (.int 3)) tNil)))) (gName 2) (rdS_error_in_3_1 K)
def rd_error_in_4 (K : PySem.W.Frag) : TS := (tRet (tC .non))
def rdS_error_in_4 (K : PySem.W.Frag) : TS := rd_error_in_4 K
def rdS_error_in_3 (K : PySem.W.Frag) : TS := tSeq (rd_error_in_3 K) (rdS_error_in_4 K)
def rdS_error_in_2 (K : PySem.W.Frag) : TS := tSeq (rd_error_in_2 K) (rdS_error_in_3 K)
def rdS_error_in_1 (K : PySem.W.Frag) : TS := tSeq (rd_error_in_1 K) (rdS_error_in_2 K)
theorem err_1 {D : Ends} {H : Hp} {t u : Addr} {rows : List Addr} {n : Nat} {g : Nat → Nat → Bool} {a d b c : Int} (tb : Tab H t rows n g) (hu : H u = some (.tup [.int a, .int d, .int b, .int c]))
    (k0 : ([a, d, b, c].all fun i => inR n i) = false → ∀ H', Fr [] H H' → D.rt (.str "form") H') (k1 : ([a, d, b, c].all fun i => inR n i) = true → ∀ H', Fr [] H H' → D.nx [some (.ref t), some (.ref u), none] H') :
    rd_error_in_1 K D [some (.ref t), some (.ref u), none] H := by
  have ll : (rows.map V.ref).length = n := by rw [List.length_map, tb.len]
  refine ⟨_, rfl, t, _, rfl, .inl (SqL.of tb.at_), _, rfl, n, u, [a, d, b, c], ?_, hu, rfl, fun H1 f1 => ⟨_, rfl, ?_⟩⟩
  · rw [ll]
    rfl
  · cases e : ([a, d, b, c].all fun i => inR n i) with
    | true => exact iteF (k1 e H1 f1)
    | false => exact iteT (k0 e H1 f1)
theorem err_2 {D : Ends} {H : Hp} {y0 y2 : Option V} {u : Addr} {a d b c : Int} (hu : H u = some (.tup [.int a, .int d, .int b, .int c]))
    (k0 : ¬ [a, d, b, c].Nodup → D.rt (.str "alike") H) (k1 : [a, d, b, c].Nodup → D.nx [y0, some (.ref u), y2] H) : rd_error_in_2 K D [y0, some (.ref u), y2] H := by
  refine ⟨_, rfl, u, [a, d, b, c], rfl, SqT.of hu, (by decide : 4 ≤ 1000), fun L hL hm => ?_⟩
  have hs := set_len hL hm
  refine ⟨_, _, rfl, rfl, _, rfl, ite2 (fun c => ?_) (fun c => ?_)⟩
  · have c' := of_decide_eq_true c
    exact k0 (hs.mp (by show L.length < 4; omega))
  · refine k1 (Classical.byContradiction fun z => c (decide_eq_true ?_))
    have := hs.mpr z
    have : L.length < 4 := this
    omega
theorem ok_error_in (F : FnP K "error_in" s_error_in f fd) (g_len : mg "len" = none) (g_set : mg "set" = none) {f_is_quadruple : Addr} {fd_is_quadruple : FuncData} (F_is_quadruple : FnP K "is_quadruple" s_is_quadruple f_is_quadruple fd_is_quadruple) (m_is_quadruple : mg "is_quadruple" = some (.ref f_is_quadruple)) {f_tells_apart : Addr} {fd_tells_apart : FuncData} (F_tells_apart : FnP K "tells_apart" s_tells_apart f_tells_apart fd_tells_apart) (m_tells_apart : mg "tells_apart" = some (.ref f_tells_apart)) (G_is_quadruple : FnG P w K mg base CX0 2 f_is_quadruple fd_is_quadruple ["many", "value"] spQuad) (G_tells_apart : FnG P w K mg base CX0 1 f_tells_apart fd_tells_apart ["table", "place", "one", "other"] spTells) : FnG P w K mg base CX0 3 f fd ["table", "value"] spErr := by
  have b_is_quadruple : Binds K fd_is_quadruple ["many", "value"] [] := F_is_quadruple.bindsN fun _ _ _ _ _ _ us hl => match us, hl with | [_, _], _ => rfl
  have b_tells_apart : Binds K fd_tells_apart ["table", "place", "one", "other"] [] := F_tells_apart.bindsN fun _ _ _ _ _ _ us hl => match us, hl with | [_, _, _, _], _ => rfl
  refine okG0 F sc_error_in (fun vs H Q E h => ?_) (fun cdv A outer s H vs Q E hS hr h => ?_)
  · obtain ⟨_, _, _, _, _, _, _, _, _, rfl, _⟩ := h
    rfl
  · obtain ⟨t, u, rows, n, g, a, d, b, c, rfl, tb, hn, hu, q⟩ := h
    refine ⟨rdS_error_in_1 K, (pss_cons (ps_if (pt_not (pt_val (pe_callG G_is_quadruple hS (hr.mono (by decide)) (by rfl) m_is_quadruple F_is_quadruple.kp b_is_quadruple .nil pass0 (pa_cons (pe_callB (lenK K) (by rfl) g_len (by decide +kernel) (pa_cons (pv 0) pa_nil)) (pa_cons (pv 1) pa_nil))))) (pss_one (ps_ret pe_str)) pss_nil)
      (pss_cons (ps_if (pt_cmpR op_lt (pe_lenSetT K rfl (by rfl) g_len (by rfl) g_set (pv 1)) pe_int (nomark _)) (pss_one (ps_ret pe_str)) pss_nil)
      (pss_cons (ps_for PassesOwn.never rfl (pi_tup (pe_tup (pa_cons pe_int (pa_cons pe_int pa_nil)))) (pg_name (i := 2) sc_error_in.nd rfl (Or.inl rfl)) (pss_one (ps_if (pt_not (pt_val (pe_callG G_tells_apart hS (hr.mono (by decide)) (by rfl) m_tells_apart F_tells_apart.kp b_tells_apart .nil pass0 (pa_cons (pv 0) (pa_cons (pe_ix (ixT K) (pv 1) (pv 2) (fun _ _ => rfl)) (pa_cons (pe_ix (ixT K) (pv 1) pe_int (fun _ _ => rfl)) (pa_cons (pe_ix (ixT K) (pv 1) pe_int (fun _ _ => rfl)) pa_nil))))))) (pss_one (ps_ret (pe_tup (pa_cons pe_str (pa_cons (pv 2) pa_nil))))) pss_nil)))
      (pss_one (ps_ret pe_non))))), ?_⟩
    refine err_1 (K := K) tb hu (fun e H1 f1 => q H1 _ f1 (by unfold errQ; rw [if_pos e]; exact .str _)) fun e H1 f1 => ?_
    have hu1 := f1.tups _ _ hu
    refine err_2 (K := K) hu1 (fun e2 => q H1 _ f1 (by unfold errQ; rw [if_neg (by rw [e]; simp), if_pos e2]; exact .str _)) fun e2 => ?_
    have hR := e
    simp only [List.all_cons, List.all_nil, Bool.and_true, Bool.and_eq_true, decide_eq_true_eq] at hR
    obtain ⟨a', rfl⟩ := Int.eq_ofNat_of_zero_le hR.1.1
    obtain ⟨d', rfl⟩ := Int.eq_ofNat_of_zero_le hR.2.1.1
    obtain ⟨b', rfl⟩ := Int.eq_ofNat_of_zero_le hR.2.2.1.1
    obtain ⟨c', rfl⟩ := Int.eq_ofNat_of_zero_le hR.2.2.2.1
    have t1 := tb.fr0 f1
    refine ⟨szl (Nat.le_of_ble_eq_true rfl), fun x hx => ⟨x, rfl, ⟨_, SqT.of upd_same⟩, ?_⟩⟩
    have fx : Fr [] H1 (upd H1 x (.tup [.int 2, .int 3])) := Fr.new hx
    refine for_tup (K := K) (a := x) (xs := [.int 2, .int 3]) (fun i σ H' => ∃ y2, σ = [some (.ref t), some (.ref u), y2] ∧ Fr [] (upd H1 x (.tup [.int 2, .int 3])) H' ∧ (1 ≤ i → tellB g b' a' d' = true) ∧ (2 ≤ i → tellB g c' a' d' = true)) ⟨none, rfl, Fr.refl, fun h => absurd h (by decide), fun h => absurd h (by decide)⟩
      (fun i σ H' _ ⟨_, _, f2, _⟩ => SqT.of (f2.tups _ _ upd_same)) ?_ ?_
    · rintro i y σ H2 ey ⟨y2, rfl, f2, p1, p2⟩
      have g2 := f1.trans (fx.trans f2)
      have hu2 := g2.tups _ _ hu
      have t2 := tb.fr0 g2
      match i, ey with
      | 0, ey =>
        cases ey
        refine ⟨_, rfl, _, rfl, _, rfl, u, _, 2, _, rfl, rfl, SqT.of hu2, atI_nat (j := 2) rfl, _, rfl, u, _, 0, _, rfl, rfl, SqT.of hu2, atI_nat (j := 0) rfl, _, rfl, u, _, 1, _, rfl, rfl, SqT.of hu2, atI_nat (j := 1) rfl, ?_⟩
        refine ⟨t, rows, n, g, b', a', d', rfl, t2, hn, by omega, by omega, by omega, fun H3 f3 => ⟨_, rfl, ?_⟩⟩
        cases e3 : tellB g b' a' d' with
        | true => exact iteF ⟨_, rfl, f2.trans f3, fun _ => rfl, fun h => absurd h (by decide)⟩
        | false =>
          refine iteT ⟨_, rfl, szl (Nat.le_of_ble_eq_true rfl), fun z hz => q _ _ (g2.trans (f3.add hz)) ?_⟩
          unfold errQ
          rw [if_neg (by rw [e]; simp), if_neg (Classical.not_not.mpr e2)]
          simp only [Int.toNat_natCast, Int.ofNat_eq_natCast, e3, if_true]
          exact .tup upd_same (.cons (.str _) (.cons (.int _) .nil))
      | 1, ey =>
        cases ey
        refine ⟨_, rfl, _, rfl, _, rfl, u, _, 3, _, rfl, rfl, SqT.of hu2, atI_nat (j := 3) rfl, _, rfl, u, _, 0, _, rfl, rfl, SqT.of hu2, atI_nat (j := 0) rfl, _, rfl, u, _, 1, _, rfl, rfl, SqT.of hu2, atI_nat (j := 1) rfl, ?_⟩
        refine ⟨t, rows, n, g, c', a', d', rfl, t2, hn, by omega, by omega, by omega, fun H3 f3 => ⟨_, rfl, ?_⟩⟩
        have e1 := p1 (Nat.le_refl 1)
        cases e3 : tellB g c' a' d' with
        | true => exact iteF ⟨_, rfl, f2.trans f3, fun _ => e1, fun _ => rfl⟩
        | false =>
          refine iteT ⟨_, rfl, szl (Nat.le_of_ble_eq_true rfl), fun z hz => q _ _ (g2.trans (f3.add hz)) ?_⟩
          unfold errQ
          rw [if_neg (by rw [e]; simp), if_neg (Classical.not_not.mpr e2)]
          simp only [Int.toNat_natCast, Int.ofNat_eq_natCast, e1, e3, if_true, Bool.true_eq_false, if_false]
          exact .tup upd_same (.cons (.str _) (.cons (.int _) .nil))
      | i + 2, ey => cases ey
    · rintro σ H2 ⟨y2, rfl, f2, p1, p2⟩
      have e1 := p1 (by decide)
      have e3 := p2 (by decide)
      refine q _ _ (f1.trans (fx.trans f2)) ?_
      unfold errQ
      rw [if_neg (by rw [e]; simp), if_neg (Classical.not_not.mpr e2)]
      simp only [Int.toNat_natCast, Int.ofNat_eq_natCast, e1, e3, Bool.true_eq_false, if_false]
      exact .non
def spDone : Sp := fun vs H Q _ => ∃ (v vd : V) (n : Nat) (ps : List Pr) (qs : List Qd), vs = [v, vd] ∧ OfWeb H v n ps ∧ Tp H vd (.tuple (qs.map dq)) ∧ qs.length ≤ 5000 ∧ GoOk n (tied ps) qs ∧ Ret H (dW n (fromT n (runF (tied ps) qs))) Q
end
end Lt

set_option Elab.async false
set_option linter.all false
set_option maxRecDepth 100000
set_option maxHeartbeats 8000000
namespace Lt
open PySem PySem.Spec PyProof.Rows L2
/-! ## rows of any quadruples, and done, which may raise -/
structure Qi where
  a : Int
  d : Int
  b : Int
  c : Int
abbrev dqi (q : Qi) : PyData := .tuple [.int q.a, .int q.d, .int q.b, .int q.c]
abbrev dQis (qs : List Qi) : List PyData := qs.map dqi
def Qi.nat (q : Qi) : Qd := ⟨q.a.toNat, q.d.toNat, q.b.toNat, q.c.toNat⟩
def Qd.int (q : Qd) : Qi := ⟨q.a, q.d, q.b, q.c⟩
theorem int_nat (q : Qd) : q.int.nat = q := by
  obtain ⟨a, d, b, c⟩ := q
  rfl
theorem dqi_int (q : Qd) : dqi q.int = dq q := rfl
def okI (n : Nat) (f : Nat → Nat → Bool) (q : Qi) : Bool :=
  ([q.a, q.d, q.b, q.c].all fun i => inR n i) && decide ([q.a, q.d, q.b, q.c].Nodup) && tellB f q.b.toNat q.a.toNat q.d.toNat && tellB f q.c.toNat q.a.toNat q.d.toNat
theorem okI_err {n : Nat} {f : Nat → Nat → Bool} {q : Qi} : errQ n f q.a q.d q.b q.c = .none ↔ okI n f q = true := by
  unfold errQ okI
  cases h1 : ([q.a, q.d, q.b, q.c].all fun i => inR n i) with
  | false => simp
  | true =>
    rw [if_neg (by simp)]
    by_cases h2 : [q.a, q.d, q.b, q.c].Nodup
    · rw [if_neg (Classical.not_not.mpr h2), decide_eq_true h2]
      cases h3 : tellB f q.b.toNat q.a.toNat q.d.toNat <;> cases h4 : tellB f q.c.toNat q.a.toNat q.d.toNat <;> simp
    · rw [if_pos h2, decide_eq_false h2]
      simp
theorem okI_nat {n : Nat} {f : Nat → Nat → Bool} {q : Qi} (h : okI n f q = true) : q.nat.int = q := by
  unfold okI at h
  simp only [Bool.and_eq_true, List.all_cons, List.all_nil, Bool.and_true, decide_eq_true_eq] at h
  obtain ⟨⟨⟨⟨ha, hd, hb, hc⟩, _⟩, _⟩, _⟩ := h
  obtain ⟨a, d, b, c⟩ := q
  simp only [Qi.nat, Qd.int, Qi.mk.injEq]
  simp only at ha hd hb hc
  omega
theorem okI_deed {n : Nat} {f : Nat → Nat → Bool} {q : Qi} (h : okI n f q = true) : DeedOk n f q.nat := by
  refine errD_none.mp ?_
  have e := okI_nat h
  have := okI_err.mpr h
  rw [← e] at this
  exact this
theorem deed_okI {n : Nat} {f : Nat → Nat → Bool} {q : Qd} : okI n f q.int = true ↔ DeedOk n f q := by
  rw [← okI_err, ← errD_none]
  exact Iff.rfl
/-- a row done: .inl: the place of the first that is no deed by then -/
def runX (n : Nat) : (Nat → Nat → Bool) → Nat → List Qi → Sum Nat (Nat → Nat → Bool)
  | f, _, [] => .inr f
  | f, p, q :: qs => if okI n f q = true then runX n (handQ f q.nat) (p + 1) qs else .inl p
section
variable {P : Program} {w : World} {K : PySem.W.Frag} {mg : Str → Option Value} {base : Heap} {f : Addr} {fd : FuncData}
/-- what a call of done may do -/
def spDoneX (C : Addr) : Sp := fun vs H Q E => ∃ (v vd : V) (n : Nat) (ps : List Pr) (qs : List Qi), vs = [v, vd] ∧ OfWeb H v n ps ∧ Tp H vd (.tuple (dQis qs)) ∧ qs.length ≤ 5000 ∧
  (∀ g, runX n (tied ps) 0 qs = .inr g → Ret H (dW n (fromT n g)) Q) ∧ ∀ p, runX n (tied ps) 0 qs = .inl p → ∀ H' d, Fr [] H H' → H' d = some (.xd [("place", .int p)]) → E (.ref C) (some d) H'
end
end Lt

set_option Elab.async false
set_option linter.all false
set_option maxRecDepth 100000
set_option maxHeartbeats 4000000
namespace Lt
/-! ## all deeds of a web: the math -/
def ups : List Nat → List Pr
  | [] => []
  | x :: l => l.map (fun y => (x, y)) ++ ups l
/-- the pairs ahead of turn i -/
def upsTo (l : List Nat) (i : Nat) : List Pr := (List.range i).flatMap fun k => (l.drop (k + 1)).map fun y => (l.getD k 0, y)
theorem upsTo_succ (l : List Nat) (i : Nat) : upsTo l (i + 1) = upsTo l i ++ (l.drop (i + 1)).map fun y => (l.getD i 0, y) := by
  unfold upsTo
  rw [List.range_succ, List.flatMap_append]
  simp
theorem upsTo_all : ∀ l : List Nat, upsTo l l.length = ups l
  | [] => rfl
  | x :: l => by
    have ih := upsTo_all l
    unfold upsTo at ih ⊢
    rw [List.length_cons, List.range_succ_eq_map, List.flatMap_cons, List.flatMap_map]
    show l.map _ ++ _ = l.map _ ++ ups l
    rw [← ih]
    rfl
theorem mem_ups : ∀ {l : List Nat}, l.Pairwise (· < ·) → ∀ {p : Pr}, p ∈ ups l ↔ p.1 ∈ l ∧ p.2 ∈ l ∧ p.1 < p.2
  | [], _, p => by simp [ups]
  | x :: l, h, p => by
    have h' := List.pairwise_cons.mp h
    unfold ups
    rw [List.mem_append, mem_ups h'.2, List.mem_map]
    constructor
    · rintro (⟨y, my, rfl⟩ | ⟨a, b, c⟩)
      · exact ⟨List.mem_cons_self, List.mem_cons_of_mem _ my, h'.1 y my⟩
      · exact ⟨List.mem_cons_of_mem _ a, List.mem_cons_of_mem _ b, c⟩
    · rintro ⟨a, b, c⟩
      rcases List.mem_cons.mp a with e | a
      · rcases List.mem_cons.mp b with e2 | b
        · omega
        · exact .inl ⟨p.2, b, by rw [← e]⟩
      · rcases List.mem_cons.mp b with e2 | b
        · have := h'.1 _ a
          omega
        · exact .inr ⟨a, b, c⟩
theorem ups_up : ∀ {l : List Nat}, l.Pairwise (· < ·) → (ups l).Pairwise Up
  | [], _ => List.Pairwise.nil
  | x :: l, h => by
    have h' := List.pairwise_cons.mp h
    unfold ups
    rw [List.pairwise_append]
    refine ⟨List.pairwise_map.mpr (h'.2.imp fun e => .inr ⟨rfl, e⟩), ups_up h'.2, ?_⟩
    intro p mp q mq
    obtain ⟨y, my, rfl⟩ := List.mem_map.mp mp
    exact .inl (h'.1 _ ((mem_ups h'.2).mp mq).1)
theorem asc_filter (n : Nat) (g : Nat → Bool) : ((List.range n).filter g).Pairwise (· < ·) := List.pairwise_lt_range.sublist List.filter_sublist
theorem ups_filter (n : Nat) (g : Nat → Bool) : ups ((List.range n).filter g) = (pairsOf n).filter fun p => g p.1 && g p.2 := by
  refine up_uniq (ups_up (asc_filter n g)) ((pairsTo_up n n).sublist List.filter_sublist) fun p => ?_
  rw [mem_ups (asc_filter n g), List.mem_filter, List.mem_filter, List.mem_filter, mem_pairsOf, List.mem_range, List.mem_range, Bool.and_eq_true]
  constructor
  · rintro ⟨⟨a, b⟩, ⟨c, d⟩, e⟩
    exact ⟨⟨e, c⟩, b, d⟩
  · rintro ⟨⟨e, c⟩, b, d⟩
    exact ⟨⟨by omega, b⟩, ⟨c, d⟩, e⟩
theorem ups_len : ∀ l : List Nat, (ups l).length ≤ l.length * l.length
  | [] => Nat.le_refl _
  | x :: l => by
    have := ups_len l
    unfold ups
    rw [List.length_append, List.length_map, List.length_cons, Nat.add_mul, Nat.mul_add]
    omega
end Lt

set_option Elab.async false
set_option linter.all false
set_option maxRecDepth 100000
set_option maxHeartbeats 8000000
namespace Lt
open PySem PySem.Spec PyProof.Rows L2
theorem pg_lstK {X : Cx} (K : PySem.W.Frag) {es : List Expr} {k : Nat} {t : TGs} {n : Nat} {pos : Pos} (hc : X.calm = true) (h : PGs X es t) (hn : (assignEach es X.env).length = n := by rfl) (hst : (assignEach es X.env).findIdx? (·.1) = none := by rfl)
    (hk : X.K = K := by rfl) : PG X (.Tuple es k pos) (gLst K n t) := hk ▸ pg_lst hc h hn hst
theorem Stk.fr0' {s d c : Addr} {H H' : Hp} (h : Stk s d c H) (f : Fr [] H H') : Stk s d c H' := by
  obtain ⟨ds, cs, sm, tn, b1, b2, b3, b4, b5⟩ := h.ex
  exact ⟨⟨ds, cs, sm, tn, f.keep _ _ b1 List.not_mem_nil, f.keep _ _ b2 List.not_mem_nil, b3, f.keep _ _ b4 List.not_mem_nil, b5⟩, h.sd, h.sc, h.dc⟩
def tellsOf (n : Nat) (f : Nat → Nat → Bool) (i j : Nat) : List Nat := (List.range n).filter fun p => tellB f p i j
theorem mem_tells {n : Nat} {f : Nat → Nat → Bool} {i j p : Nat} : p ∈ tellsOf n f i j ↔ p < n ∧ tellB f p i j = true := by
  unfold tellsOf
  rw [List.mem_filter, List.mem_range]
theorem tellB_ne {f : Nat → Nat → Bool} {p i j : Nat} (h : tellB f p i j = true) : p ≠ i ∧ p ≠ j := by
  unfold tellB at h
  simp only [Bool.and_eq_true, Bool.not_eq_true', decide_eq_false_iff_not] at h
  omega
section
variable {P : Program} {w : World} {K : PySem.W.Frag} {mg : Str → Option Value} {base : Heap} {f : Addr} {fd : FuncData}
theorem ok_law_is_tied (F : FnP K "_law_is_tied" s__law_is_tied f fd) (g_min : mg "min" = none) (g_max : mg "max" = none) : FnG P w K mg base CX0 1 f fd ["web", "a", "b"] spTied := by
  refine okG0 F sc__law_is_tied (fun vs H Q E h => ?_) (fun cdv A outer s H vs Q E hS hr h => ?_)
  · obtain ⟨_, _, _, _, _, rfl, _⟩ := h
    rfl
  · obtain ⟨v, n, ps, i, j, rfl, ⟨hv, hw⟩, hi, hj, q⟩ := h
    obtain ⟨a, t, xs, rfl, ha, ht, hx⟩ := hv.web_inv
    refine ⟨_, (pss_one (ps_ret (pe_cmpR (memK K (hu80_of hr)) (pe_tup (pa_cons (pe_callB (call_min2 rfl) (by rfl) g_min (by decide +kernel) (pa_cons (pv 1) (pa_cons (pv 2) pa_nil))) (pa_cons (pe_callB (call_max2 rfl) (by rfl) g_max (by decide +kernel) (pa_cons (pv 1) (pa_cons (pv 2) pa_nil))) pa_nil))) (pe_ix (ixT K) (pv 0) pe_int (fun _ _ => rfl)) rfl))), ?_⟩
    have := hw.hi
    refine ⟨_, rfl, _, rfl, _, _, rfl, _, rfl, _, rfl, _, _, rfl, szl (Nat.le_of_ble_eq_true rfl), fun p hp => ?_⟩
    have fp : Fr [] H (upd H p (.tup [.int (if (j : Int) < (i : Int) then (j : Int) else (i : Int)), .int (if (j : Int) > (i : Int) then (j : Int) else (i : Int))])) := Fr.new hp
    have e1 : (if (j : Int) < (i : Int) then (j : Int) else (i : Int)) = ((min i j : Nat) : Int) := by split <;> omega
    have e2 : (if (j : Int) > (i : Int) then (j : Int) else (i : Int)) = ((max i j : Nat) : Int) := by split <;> omega
    refine ⟨_, rfl, a, _, 1, _, rfl, rfl, SqT.of (fp.tups _ _ ha), atI_nat (j := 1) rfl, ?_⟩
    exact mem_tP (p := (min i j, max i j)) (Tp.pr (by rw [upd_same, e1, e2])) (fp.tups _ _ ht) (hx.fr fp) (by simp only; omega) hw.below (by have := hw.len; omega) (q _ fp)
def spTellW : Sp := fun vs H Q _ => ∃ (v : V) (n : Nat) (ps : List Pr) (p i j : Nat), vs = [v, .int p, .int i, .int j] ∧ OfWeb H v n ps ∧ p < n ∧ i < n ∧ j < n ∧ ∀ H', Fr [] H H' → Q (.bl (tellB (tied ps) p i j)) H'
theorem ok_law_tells (F : FnP K "_law_tells" s__law_tells f fd) {f__law_is_tied : Addr} {fd__law_is_tied : FuncData} (F__law_is_tied : FnP K "_law_is_tied" s__law_is_tied f__law_is_tied fd__law_is_tied) (m__law_is_tied : mg "_law_is_tied" = some (.ref f__law_is_tied)) (G__law_is_tied : FnG P w K mg base CX0 1 f__law_is_tied fd__law_is_tied ["web", "a", "b"] spTied) : FnG P w K mg base CX0 2 f fd ["web", "place", "one", "other"] spTellW := by
  have b__law_is_tied : Binds K fd__law_is_tied ["web", "a", "b"] [] := F__law_is_tied.bindsN fun _ _ _ _ _ _ us hl => match us, hl with | [_, _, _], _ => rfl
  refine okG0 F sc__law_tells (fun vs H Q E h => ?_) (fun cdv A outer s H vs Q E hS hr h => ?_)
  · obtain ⟨_, _, _, _, _, _, rfl, _⟩ := h
    rfl
  · obtain ⟨v, n, ps, p, i, j, rfl, ⟨hv, hw⟩, hp, hi, hj, q⟩ := h
    refine ⟨_, (pss_one (ps_ret (pe_and (pe_cmpR (nmemK K (hu80_of hr)) (pv 1) (pe_tup (pa_cons (pv 2) (pa_cons (pv 3) pa_nil))) rfl) (pe_one (pe_cmpR op_ne (pe_callG G__law_is_tied hS (hr.mono (by decide)) (by rfl) m__law_is_tied F__law_is_tied.kp b__law_is_tied .nil pass0 (pa_cons (pv 0) (pa_cons (pv 1) (pa_cons (pv 2) pa_nil)))) (pe_callG G__law_is_tied hS (hr.mono (by decide)) (by rfl) m__law_is_tied F__law_is_tied.kp b__law_is_tied .nil pass0 (pa_cons (pv 0) (pa_cons (pv 1) (pa_cons (pv 3) pa_nil)))) (nomark _)))))), ?_⟩
    have := hw.hi
    refine ⟨_, rfl, _, rfl, _, rfl, szl (Nat.le_of_ble_eq_true rfl), fun p2 hp2 => ?_⟩
    have fp : Fr [] H (upd H p2 (.tup [.int i, .int j])) := Fr.new hp2
    refine nmem_tN (i := p) (is := [i, j]) upd_same (.cons (.int _) (.cons (.int _) .nil)) (by omega) (fun k m => by simp only [List.mem_cons, List.not_mem_nil, or_false] at m; omega) (Nat.le_of_ble_eq_true rfl) ⟨_, rfl, ite2 (fun c => ?_) (fun c => ?_)⟩
    · refine ⟨_, rfl, _, rfl, _, rfl, v, n, ps, p, i, rfl, ⟨hv.fr fp, hw⟩, hp, hi, fun H1 f1 => ?_⟩
      refine ⟨_, rfl, _, rfl, _, rfl, v, n, ps, p, j, rfl, ⟨(hv.fr fp).fr f1, hw⟩, hp, hj, fun H2 f2 => ⟨rfl, ?_⟩⟩
      have := q H2 ((fp.trans f1).trans f2)
      unfold tellB at this
      have c' : ¬ (p = i ∨ p = j) := by simpa using c
      rw [decide_eq_false c'] at this
      rw [bl_ne]
      exact this
    · have := q _ fp
      unfold tellB at this
      have c' : p = i ∨ p = j := by
        have := c
        simp only [Bool.not_eq_true', decide_eq_false_iff_not, Classical.not_not, List.mem_cons, List.not_mem_nil, or_false] at this
        exact this
      rw [decide_eq_true c'] at this
      exact this
def spSome : Sp := fun vs H Q _ => ∃ (s d c : Addr) (v : V) (n : Nat) (ps : List Pr), vs = [.ref s, v] ∧ Stk s d c H ∧ OfWeb H v n ps ∧
  ∀ H' r, Fr [s, d] H H' → Stk s d c H' → (r = .non ∨ ∃ q, DeedOk n (tied ps) q ∧ Tp H' r (dq q)) → Q r H'
def rd__law_some_1 (K : PySem.W.Frag) : TS := (tIfS (tTest (tOp rLtI (tOp (rIxT K) (tVar 1) (tC (.int 0))) (tC (.int 4)))) (tRet (tC .non)) tNext)
def rd__law_some_2_1 (K : PySem.W.Frag) : TS := (tAsg (tCall spDraw [] E0 (tCons (tVar 0) (tCons (tOp (rIxT K) (tVar 1) (tC (.int 0))) tNil))) (gName 3))
def rd__law_some_2_2 (K : PySem.W.Frag) : TS := (tAsg (tOp rModI (tOp rAddI (tOp rAddI (tVar 3) (tC (.int 1))) (tCall spDraw [] E0 (tCons (tVar 0) (tCons (tOp rSubI (tOp (rIxT K) (tVar 1) (tC (.int 0))) (tC (.int 1))) tNil)))) (tOp (rIxT K) (tVar 1) (tC (.int 0)))) (gName 4))
def rd__law_some_2_3 (K : PySem.W.Frag) : TS := (tAsg (tLc (iRng1 (tCons (tOp (rIxT K) (tVar 1) (tC (.int 0))) tNil)) (gName 8) (tB (tCall spTellW [] E0 (tCons (tVar 1) (tCons (tVar 8) (tCons (tVar 3) (tCons (tVar 4) tNil)))))) (tVar 8) [8]) (gName 5))
def rd__law_some_2_4 (K : PySem.W.Frag) : TS := (tIfS (tTest (tOp rGtI (tCB (rLen K) (tCons (tVar 5) tNil)) (tC (.int 1)))) (tSeq (tAsg (tSl (rSlL K) (tCall spShuf [] E0 (tCons (tVar 0) (tCons (tVar 5) tNil))) tNoPart (tPart (tC (.int 2)))) (gLst K 2 (gCons (gName 6) (gCons (gName 7) gNil)))) (tRet (tTup (tCons (tVar 3) (tCons (tVar 4) (tCons (tVar 6) (tCons (tVar 7) tNil))))))) tNext)
def rdS__law_some_2_4 (K : PySem.W.Frag) : TS := rd__law_some_2_4 K
def rdS__law_some_2_3 (K : PySem.W.Frag) : TS := tSeq (rd__law_some_2_3 K) (rdS__law_some_2_4 K)
def rdS__law_some_2_2 (K : PySem.W.Frag) : TS := tSeq (rd__law_some_2_2 K) (rdS__law_some_2_3 K)
def rdS__law_some_2_1 (K : PySem.W.Frag) : TS := tSeq (rd__law_some_2_1 K) (rdS__law_some_2_2 K)
def rd__law_some_2 (K : PySem.W.Frag) : TS := tFor (iRng1 (tCons (tC (.int 12)) tNil)) (gName 2) (rdS__law_some_2_1 K)
def rd__law_some_3 (K : PySem.W.Frag) : TS := (tRet (tC .non))
def rdS__law_some_3 (K : PySem.W.Frag) : TS := rd__law_some_3 K
def rdS__law_some_2 (K : PySem.W.Frag) : TS := tSeq (rd__law_some_2 K) (rdS__law_some_3 K)
def rdS__law_some_1 (K : PySem.W.Frag) : TS := tSeq (rd__law_some_1 K) (rdS__law_some_2 K)
section
variable {s d c a t : Addr} {n : Nat} {ps : List Pr} {D : Ends} {H : Hp} {v : V} {xs : List V}
theorem some_1 {T : List (Option V)} {y0 : Option V} (ha : H a = some (.tup [.int n, .ref t])) (k0 : D.rt .non H) (k1 : 4 ≤ n → D.nx (y0 :: some (.ref a) :: T) H) : rd__law_some_1 K D (y0 :: some (.ref a) :: T) H := by
  refine ⟨_, rfl, a, _, 0, _, rfl, rfl, SqT.of ha, atI_nat (j := 0) rfl, _, _, rfl, rfl, _, rfl, ite2 (fun c1 => k0) (fun c1 => k1 ?_)⟩
  have c2 : ¬ ((n : Int) < 4) := fun z => c1 (decide_eq_true z)
  omega
theorem some_2_1 {y2 y3 : Option V} {T : List (Option V)} (hk : Stk s d c H) (ha : H a = some (.tup [.int n, .ref t])) (h1 : 4 ≤ n) (h2 : n ≤ 12)
    (k : ∀ H' (i : Nat), i < n → Fr [s, d] H H' → Stk s d c H' → D.nx (some (.ref s) :: some (.ref a) :: y2 :: some (.int i) :: T) H') : rd__law_some_2_1 K D (some (.ref s) :: some (.ref a) :: y2 :: y3 :: T) H :=
  ⟨_, rfl, _, rfl, a, _, 0, _, rfl, rfl, SqT.of ha, atI_nat (j := 0) rfl, s, d, c, n, rfl, hk, by omega, by omega, fun H1 r hr k1 f1 => k H1 r hr f1 k1⟩
theorem some_2_2 {y2 y4 : Option V} {T : List (Option V)} {i : Nat} (hk : Stk s d c H) (ha : H a = some (.tup [.int n, .ref t])) (h1 : 4 ≤ n) (h2 : n ≤ 12) (hi : i < n)
    (k : ∀ H' (j : Nat), j < n → i ≠ j → Fr [s, d] H H' → Stk s d c H' → D.nx (some (.ref s) :: some (.ref a) :: y2 :: some (.int i) :: some (.int j) :: T) H') : rd__law_some_2_2 K D (some (.ref s) :: some (.ref a) :: y2 :: some (.int i) :: y4 :: T) H := by
  refine ⟨_, rfl, _, _, rfl, rfl, _, rfl, _, rfl, a, _, 0, _, rfl, rfl, SqT.of ha, atI_nat (j := 0) rfl, _, _, rfl, rfl, ?_⟩
  refine ⟨s, d, c, n - 1, ?_, hk, by omega, by omega, fun H1 r hr k1 f1 => ?_⟩
  · show [V.ref s, V.int ((n : Int) - 1)] = _
    rw [show ((n : Int) - 1) = ((n - 1 : Nat) : Int) by omega]
  · refine ⟨_, _, rfl, rfl, _, rfl, a, _, 0, _, rfl, rfl, SqT.of (f1.tups _ _ ha), atI_nat (j := 0) rfl, _, _, rfl, rfl, (show (0 : Int) < (n : Int) by omega), ?_⟩
    have e : ((i : Int) + 1 + (r : Int)) % (n : Int) = ((if i + 1 + r < n then i + 1 + r else i + 1 + r - n : Nat) : Int) := by
      by_cases c0 : i + 1 + r < n
      · rw [if_pos c0, Int.emod_eq_of_lt (by omega) (by omega)]
        omega
      · rw [if_neg c0, ← Int.sub_emod_right, Int.emod_eq_of_lt (by omega) (by omega)]
        omega
    have := k H1 (if i + 1 + r < n then i + 1 + r else i + 1 + r - n) (by split <;> omega) (by split <;> omega) f1 k1
    rw [← e] at this
    exact this
theorem some_2_3 {y0 y2 y5 y6 y7 y8 : Option V} {i j : Nat} (hw : WebOk n ps) (hv : Tp H (.ref a) (dW n ps)) (ha : H a = some (.tup [.int n, .ref t])) (hi : i < n) (hj : j < n)
    (k : ∀ H' l ys, Fr [] H H' → H l = none → H' l = some (.lst ys) → Tps H' ys (dNs (tellsOf n (tied ps) i j)) → D.nx [y0, some (.ref a), y2, some (.int i), some (.int j), some (.ref l), y6, y7, y8] H') :
    rd__law_some_2_3 K D [y0, some (.ref a), y2, some (.int i), some (.int j), y5, y6, y7, y8] H := by
  have hn := hw.hi
  refine ⟨_, rfl, a, _, 0, _, rfl, rfl, SqT.of ha, atI_nat (j := 0) rfl, n, rfl, by omega, by omega, fun D1 hD1 => ?_⟩
  have C : LcC [] (fun _ => True) H D1 := ⟨hD1, List.not_mem_nil, fun _ _ h => h⟩
  refine lcr (M := fun k ds => ds = made (List.range n) (fun p => if tellB (tied ps) p i j = true then some p else none) dN k) C trivial rfl ?_ ?_
  · intro p H2 zs ds hp L
    have hp : p < n := hp
    have ep := range_at hp
    refine ⟨rfl, ?_⟩
    rw [Int.zero_add]
    refine ⟨_, rfl, _, rfl, _, rfl, _, rfl, .ref a, n, ps, p, i, j, rfl, ⟨hv.fr L.fr, hw⟩, hp, hi, hj, fun H3 f3 => ⟨_, rfl, ite2 (fun c => ?_) (fun c => ?_)⟩⟩
    · exact ⟨_, rfl, L.put C (d := dN p) (by omega) f3 trivial (.int _) (by rw [L.m]; exact (made_some ep (by rw [if_pos c])).symm)⟩
    · exact L.skip C f3 trivial (by rw [L.m]; exact (made_none ep (by rw [if_neg c])).symm)
  · intro H2 zs ds L
    have em := L.m
    rw [made_all (by rw [List.length_range]; exact Nat.le_refl _), filterMap_if] at em
    have td := L.dat
    rw [em] at td
    exact k _ D1 zs L.fr hD1 L.at_ td
theorem two_of {is es : List Nat} (hp : es.Perm is) (hl : 1 < is.length) (hn : is.Nodup) : ∃ b c rest, es = b :: c :: rest ∧ b ∈ is ∧ c ∈ is ∧ b ≠ c := by
  have l := hp.length_eq
  match es, hp, l with
  | [], _, l => simp at l; omega
  | [_], _, l => simp at l; omega
  | b :: c :: rest, hp, _ =>
    have nd := hp.nodup_iff.mpr hn
    have h1 := (List.nodup_cons.mp nd).1
    exact ⟨b, c, rest, rfl, hp.mem_iff.mp List.mem_cons_self, hp.mem_iff.mp (List.mem_cons_of_mem _ List.mem_cons_self), fun e => h1 (e ▸ List.mem_cons_self)⟩
theorem nat_perm {es : List PyData} {is : List Nat} (h : es.Perm (dNs is)) : ∃ nm : List Nat, es = dNs nm ∧ nm.Perm is := by
  let g : PyData → Nat := fun d => match d with
    | .int i => i.toNat
    | _ => 0
  have hg : ∀ i : Nat, g (dN i) = i := fun i => by
    show (i : Int).toNat = i
    simp
  refine ⟨es.map g, ?_, ?_⟩
  · rw [show dNs (es.map g) = es.map (fun d => dN (g d)) from List.map_map]
    have hid : ∀ d ∈ es, dN (g d) = d := fun d m => by
      obtain ⟨i, _, rfl⟩ := List.mem_map.mp (h.mem_iff.mp m)
      rw [hg]
    exact ((List.map_congr_left hid).trans (List.map_id' es)).symm
  · have := h.map g
    rw [show (dNs is).map g = is by
      rw [show (dNs is).map g = is.map (fun i => g (dN i)) from List.map_map]
      exact List.map_id'' hg _] at this
    exact this
theorem some_2_4 {y1 y2 y8 y6 y7 : Option V} {i j : Nat} {l : Addr} {ys : List V} (h0 : Stk s d c H) (hi : i < n) (hj : j < n) (hij : i ≠ j) (hn : n ≤ 12) (off : l ≠ s ∧ l ≠ d) (el : H l = some (.lst ys)) (tl : Tps H ys (dNs (tellsOf n (tied ps) i j)))
    (k0 : ∀ H' r q, Fr [s, d] H H' → Stk s d c H' → DeedOk n (tied ps) q → Tp H' r (dq q) → D.rt r H') (k1 : ∀ H' y6 y7, Fr [s, d] H H' → Stk s d c H' → D.nx [some (.ref s), y1, y2, some (.int i), some (.int j), some (.ref l), y6, y7, y8] H') :
    rd__law_some_2_4 K D [some (.ref s), y1, y2, some (.int i), some (.int j), some (.ref l), y6, y7, y8] H := by
  have hl := tl.length
  rw [List.length_map] at hl
  have hb : (tellsOf n (tied ps) i j).length ≤ n := by
    have := List.length_filter_le (fun p => tellB (tied ps) p i j) (List.range n)
    rw [List.length_range] at this
    exact this
  refine ⟨_, rfl, l, ys, rfl, .inl (SqL.of el), _, _, rfl, rfl, _, rfl, ite2 (fun c1 => ?_) (fun c1 => k1 H _ _ Fr.refl h0)⟩
  have hl1 : 1 < (tellsOf n (tied ps) i j).length := by
    have := of_decide_eq_true c1
    omega
  refine ⟨_, rfl, _, rfl, s, d, c, l, ys, _, rfl, h0, el, tl, by omega, off.1, off.2, fun H1 p ws es pm f1 np k2 ep tp => ?_⟩
  obtain ⟨nm, rfl, hnm⟩ := nat_perm pm
  obtain ⟨b', c', rest, rfl, mb, mc, nbc⟩ := two_of hnm hl1 ((List.nodup_range).sublist List.filter_sublist)
  have ew := nats_invQ tp
  refine ⟨2, rfl, p, ws, rfl, SqL.of ep, fun p2 hp2 => ?_⟩
  have ec : cutV ws none (some 2) = [.int b', .int c'] := by
    rw [show (2 : Int) = ((2 : Nat) : Int) from rfl, cut_to, ew]
    rfl
  rw [ec]
  have hp2' := f1.free hp2
  have f2 : Fr [s, d] H1 (upd H1 p2 (.lst [.int b', .int c'])) := Fr.new hp2
  have k3 : Stk s d c (upd H1 p2 (.lst [.int b', .int c'])) := h0.add k2 hp2'
  refine ⟨p2, _, rfl, SqL.of upd_same, rfl, _, _, rfl, _, _, rfl, rfl, ?_⟩
  refine ⟨_, rfl, _, rfl, _, rfl, _, rfl, szl (Nat.le_of_ble_eq_true rfl), fun p3 hp3 => ?_⟩
  have f3 : Fr [s, d] (upd H1 p2 (.lst [.int b', .int c'])) (upd (upd H1 p2 (.lst [.int b', .int c'])) p3 (.tup [.int i, .int j, .int b', .int c'])) := Fr.new hp3
  have k4 := h0.add k3 (o := .tup [.int i, .int j, .int b', .int c']) ((f1.trans f2).free hp3)
  have m1 := mem_tells.mp mb
  have m2 := mem_tells.mp mc
  have n1 := tellB_ne m1.2
  have n2 := tellB_ne m2.2
  refine k0 _ _ ⟨i, j, b', c'⟩ ((f1.trans f2).trans f3) k4 ⟨hi, hj, m1.1, m2.1, ?_, m1.2, m2.2⟩ (.tup upd_same (.cons (.int _) (.cons (.int _) (.cons (.int _) (.cons (.int _) .nil)))))
  simp only [List.nodup_cons, List.mem_cons, List.not_mem_nil, or_false, not_or, not_false_eq_true, List.nodup_nil, and_true]
  omega
end
theorem ok_some (F : FnP K "_law_some" s__law_some f fd) (g_range : mg "range" = none) (g_len : mg "len" = none) {f__law_draw : Addr} {fd__law_draw : FuncData} (F__law_draw : FnP K "_law_draw" s__law_draw f__law_draw fd__law_draw) (m__law_draw : mg "_law_draw" = some (.ref f__law_draw)) {f__law_tells : Addr} {fd__law_tells : FuncData} (F__law_tells : FnP K "_law_tells" s__law_tells f__law_tells fd__law_tells) (m__law_tells : mg "_law_tells" = some (.ref f__law_tells)) {f__law_shuffled : Addr} {fd__law_shuffled : FuncData} (F__law_shuffled : FnP K "_law_shuffled" s__law_shuffled f__law_shuffled fd__law_shuffled) (m__law_shuffled : mg "_law_shuffled" = some (.ref f__law_shuffled)) (G__law_draw : FnG P w K mg base CX0 1 f__law_draw fd__law_draw ["stock", "size"] spDraw) (G__law_tells : FnG P w K mg base CX0 2 f__law_tells fd__law_tells ["web", "place", "one", "other"] spTellW)
    (G__law_shuffled : FnG P w K mg base CX0 2 f__law_shuffled fd__law_shuffled ["stock", "row"] spShuf) : FnG P w K mg base CX0 3 f fd ["stock", "web"] spSome := by
  have b__law_draw : Binds K fd__law_draw ["stock", "size"] [] := F__law_draw.bindsN fun _ _ _ _ _ _ us hl => match us, hl with | [_, _], _ => rfl
  have b__law_tells : Binds K fd__law_tells ["web", "place", "one", "other"] [] := F__law_tells.bindsN fun _ _ _ _ _ _ us hl => match us, hl with | [_, _, _, _], _ => rfl
  have b__law_shuffled : Binds K fd__law_shuffled ["stock", "row"] [] := F__law_shuffled.bindsN fun _ _ _ _ _ _ us hl => match us, hl with | [_, _], _ => rfl
  refine okG0 F sc__law_some (fun vs H Q E h => ?_) (fun cdv A outer s0 H vs Q E hS hr h => ?_)
  · obtain ⟨_, _, _, _, _, _, rfl, _⟩ := h
    rfl
  · obtain ⟨s, d, c, v, n, ps, rfl, hk, ⟨hv, hw⟩, q⟩ := h
    refine ⟨rdS__law_some_1 K, (pss_cons (ps_if (pt_cmpR op_lt (pe_ix (ixT K) (pv 1) pe_int (fun _ _ => rfl)) pe_int (nomark _)) (pss_one (ps_ret pe_non)) pss_nil)
      (pss_cons (ps_for PassesOwn.never rfl (pi_range1 rfl g_range (pa_cons pe_int pa_nil)) (pg_name (i := 2) sc__law_some.nd rfl (Or.inl rfl)) (pss_cons (ps_set (i := 3) sc__law_some.nd rfl (Or.inr rfl) (pe_callG G__law_draw hS (hr.mono (by decide)) (by rfl) m__law_draw F__law_draw.kp b__law_draw .nil pass0 (pa_cons (pv 0) (pa_cons (pe_ix (ixT K) (pv 1) pe_int (fun _ _ => rfl)) pa_nil))))
      (pss_cons (ps_set (i := 4) sc__law_some.nd rfl (Or.inr rfl) (pe_op op_mod (pe_op op_add (pe_op op_add (pv 3) pe_int) (pe_callG G__law_draw hS (hr.mono (by decide)) (by rfl) m__law_draw F__law_draw.kp b__law_draw .nil pass0 (pa_cons (pv 0) (pa_cons (pe_op op_sub (pe_ix (ixT K) (pv 1) pe_int (fun _ _ => rfl)) pe_int) pa_nil)))) (pe_ix (ixT K) (pv 1) pe_int (fun _ _ => rfl))))
      (pss_cons (ps_setLc (i := 5) (own := [("place", 8)]) (g := (gName 8)) rfl sc__law_some.nd rfl rfl (sw_true rfl rfl rfl (by decide +kernel)) (pi_range1 rfl g_range (pa_cons (pe_ix (ixT K) (pv 1) pe_int (fun _ _ => rfl)) pa_nil)) (blkOk_by (own := [("place", 8)]) (N := N__law_some) (sc := defScope s__law_some) (by decide +kernel)) (fun _ _ _ _ _ => (pg_name (i := 8) sc__law_some.nd rfl (Or.inl rfl))) (fun _ _ _ _ _ => (pts_one (pt_val (pe_callG G__law_tells hS (hr.mono (by decide)) (by rfl) m__law_tells F__law_tells.kp b__law_tells .nil pass0 (pa_cons (pv 1) (pa_cons (pv 8) (pa_cons (pv 3) (pa_cons (pv 4) pa_nil)))))))) (fun _ _ _ _ _ => (pv 8)))
      (pss_one (ps_if (pt_cmpR op_gt (pe_callB (lenK K) (by rfl) g_len (by decide +kernel) (pa_cons (pv 5) pa_nil)) pe_int (nomark _)) (pss_cons (ps_asg (pe_slice (slL K) (pe_callG G__law_shuffled hS (hr.mono (by decide)) (by rfl) m__law_shuffled F__law_shuffled.kp b__law_shuffled .nil pass0 (pa_cons (pv 0) (pa_cons (pv 5) pa_nil))) po_none (po_some pe_int)) (pg_lstK K (n := 2) (by rfl) (pgs_cons (pg_name (i := 6) sc__law_some.nd rfl (Or.inl rfl)) (pgs_cons (pg_name (i := 7) sc__law_some.nd rfl (Or.inl rfl)) pgs_nil))))
      (pss_one (ps_ret (pe_tup (pa_cons (pv 3) (pa_cons (pv 4) (pa_cons (pv 6) (pa_cons (pv 7) pa_nil)))))))) pss_nil))))))
      (pss_one (ps_ret pe_non)))), ?_⟩
    have hn := hw.hi
    obtain ⟨a, t, xs, rfl, ha, ht, hx⟩ := hv.web_inv
    refine some_1 (K := K) ha (q H _ Fr.refl hk (.inl rfl)) fun h4 => ?_
    refine ⟨12, rfl, by decide, by decide, ?_⟩
    refine for_range (lo := 0) (n := 12) (fun i σ H' => ∃ y2 y3 y4 y5 y6 y7, σ = [some (.ref s), some (.ref a), y2, y3, y4, y5, y6, y7, none] ∧ Stk s d c H' ∧ Fr [s, d] H H') ⟨none, none, none, none, none, none, rfl, hk, Fr.refl⟩ ?_ ?_
    · rintro i σ H1 hi ⟨y2, y3, y4, y5, y6, y7, rfl, k1, f1⟩
      show rdS__law_some_2_1 K _ _ _
      refine some_2_1 (K := K) k1 (f1.tups _ _ ha) h4 hn fun H2 x hx2 f2 k2 => ?_
      have g2 := f1.trans f2
      refine some_2_2 (K := K) k2 (g2.tups _ _ ha) h4 hn hx2 fun H3 y hy hxy f3 k3 => ?_
      have g3 := g2.trans f3
      refine some_2_3 (K := K) hw (hv.fr g3) (g3.tups _ _ ha) hx2 hy fun H4 l ys f4 nl el tl => ?_
      have g4 := g3.trans f4.of0
      have k4 := k3.fr0' f4
      obtain ⟨o1, o2, _⟩ := k3.apart nl
      refine some_2_4 (K := K) k4 hx2 hy hxy hn ⟨o1, o2⟩ el tl (fun H5 r qd f5 k5 ok tr => ?_) fun H5 y6 y7 f5 k5 => ?_
      · exact q H5 r (g4.trans f5) k5 (.inr ⟨qd, ok, tr⟩)
      · exact ⟨_, _, _, _, _, _, rfl, k5, g4.trans f5⟩
    · rintro σ H1 ⟨y2, y3, y4, y5, y6, y7, rfl, k1, f1⟩
      exact q H1 _ f1 k1 (.inl rfl)
end
end Lt

set_option Elab.async false
set_option linter.all false
set_option maxRecDepth 100000
set_option maxHeartbeats 8000000
namespace Lt
open PySem PySem.Spec PyProof.Rows L2
theorem cut_from {xs : List V} (k : Nat) : cutV xs (some (k : Int)) none = xs.drop k := by
  unfold cutV
  rw [HT.sIx_none, HT.sIx_nat]
  by_cases c : k ≤ xs.length
  · rw [Nat.min_eq_left c, List.take_of_length_le (by rw [List.length_drop]; exact Nat.le_refl _)]
  · rw [Nat.min_eq_right (by omega), List.drop_of_length_le (Nat.le_refl _), List.drop_of_length_le (by omega), List.take_nil]
abbrev qOf (p q : Pr) : Qd := ⟨p.1, p.2, q.1, q.2⟩
abbrev keepQ (f : Nat → Nat → Bool) (p q : Pr) : Bool := decide (p.1 < q.1) || liftB f p.1 q.1 q.2
def namQ (n : Nat) (f : Nat → Nat → Bool) (p : Pr) : List Pr := (ups (tellsOf n f p.1 p.2)).filter (keepQ f p)
def allQ (n : Nat) (f : Nat → Nat → Bool) : List Qd := (pairsOf n).flatMap fun p => (namQ n f p).map (qOf p)
abbrev isLiftQ (f : Nat → Nat → Bool) (q : Qd) : Bool := liftB f q.a q.b q.c
def liftsQ (n : Nat) (f : Nat → Nat → Bool) : List Qd := (allQ n f).filter (isLiftQ f)
abbrev dQs (qs : List Qd) : List PyData := qs.map dq
theorem tells_len (n : Nat) (f : Nat → Nat → Bool) (i j : Nat) : (tellsOf n f i j).length ≤ n := by
  have := List.length_filter_le (fun p => tellB f p i j) (List.range n)
  rw [List.length_range] at this
  exact this
theorem tells_lt {n : Nat} {f : Nat → Nat → Bool} {i j p : Nat} (h : p ∈ tellsOf n f i j) : p < n := (mem_tells.mp h).1
theorem sq_le {x n : Nat} (h : x ≤ n) (hn : n ≤ 12) : x * x ≤ 144 := Nat.mul_le_mul (Nat.le_trans h hn) (Nat.le_trans h hn)
theorem namQ_len {n : Nat} (hn : n ≤ 12) (f : Nat → Nat → Bool) (p : Pr) : (namQ n f p).length ≤ 144 := by
  have h1 := List.length_filter_le (keepQ f p) (ups (tellsOf n f p.1 p.2))
  have h2 := ups_len (tellsOf n f p.1 p.2)
  have h3 := sq_le (tells_len n f p.1 p.2) hn
  unfold namQ
  omega
theorem flat_len {α β : Type} {g : α → List β} {m : Nat} : ∀ {l : List α}, (∀ x ∈ l, (g x).length ≤ m) → (l.flatMap g).length ≤ l.length * m
  | [], _ => by simp
  | x :: l, h => by
    have h1 := h x List.mem_cons_self
    have h2 := flat_len (l := l) fun y my => h y (List.mem_cons_of_mem _ my)
    rw [List.flatMap_cons, List.length_append, List.length_cons, Nat.add_mul]
    omega
section
variable {P : Program} {w : World} {K : PySem.W.Frag} {mg : Str → Option Value} {base : Heap} {f : Addr} {fd : FuncData}
def spTellIn : Sp := fun vs H Q _ => ∃ (a : Addr) (rows : List Addr) (n : Nat) (f : Nat → Nat → Bool) (i j : Nat), vs = [.ref a, .int i, .int j] ∧ Tab H a rows n f ∧ n ≤ 12 ∧ i < n ∧ j < n ∧ RetL H (dNs (tellsOf n f i j)) Q
theorem ok_tellers_in (F : FnP K "tellers_in" s_tellers_in f fd) (g_range : mg "range" = none) (g_len : mg "len" = none) {f_tells_apart : Addr} {fd_tells_apart : FuncData} (F_tells_apart : FnP K "tells_apart" s_tells_apart f_tells_apart fd_tells_apart) (m_tells_apart : mg "tells_apart" = some (.ref f_tells_apart)) (G_tells_apart : FnG P w K mg base CX0 1 f_tells_apart fd_tells_apart ["table", "place", "one", "other"] spTells) : FnG P w K mg base CX0 2 f fd ["table", "one", "other"] spTellIn := by
  have b_tells_apart : Binds K fd_tells_apart ["table", "place", "one", "other"] [] := F_tells_apart.bindsN fun _ _ _ _ _ _ us hl => match us, hl with | [_, _, _, _], _ => rfl
  refine okG0 F sc_tellers_in (fun vs H Q E h => ?_) (fun cdv A outer s H vs Q E hS hr h => ?_)
  · obtain ⟨_, _, _, _, _, _, rfl, _⟩ := h
    rfl
  · obtain ⟨a, rows, n, g, i, j, rfl, tb, hn, hi, hj, q⟩ := h
    refine ⟨_, (pss_one (ps_ret (pe_lc (own := [("place", 3)]) (g := (gName 3)) rfl sc_tellers_in.nd (pi_range1 rfl g_range (pa_cons (pe_callB (lenK K) (by rfl) g_len (by decide +kernel) (pa_cons (pv 0) pa_nil)) pa_nil)) (blkOk_by (own := [("place", 3)]) (N := N_tellers_in) (sc := defScope s_tellers_in) (by decide +kernel)) (fun _ _ _ _ _ => (pg_name (i := 3) sc_tellers_in.nd rfl (Or.inl rfl))) (fun _ _ _ _ _ => (pts_one (pt_val (pe_callG G_tells_apart hS (hr.mono (by decide)) (by rfl) m_tells_apart F_tells_apart.kp b_tells_apart .nil pass0 (pa_cons (pv 0) (pa_cons (pv 3) (pa_cons (pv 1) (pa_cons (pv 2) pa_nil)))))))) (fun _ _ _ _ _ => (pv 3))))), ?_⟩
    have ll : (rows.map V.ref).length = n := by rw [List.length_map, tb.len]
    refine ⟨_, rfl, a, _, rfl, .inl (SqL.of tb.at_), ?_⟩
    rw [ll]
    refine ⟨n, rfl, by omega, by omega, fun D hD => ?_⟩
    have C : LcC [] (fun _ => True) H D := ⟨hD, List.not_mem_nil, fun _ _ h => h⟩
    refine lcr (M := fun k ds => ds = made (List.range n) (fun p => if tellB g p i j = true then some p else none) dN k) C trivial rfl ?_ ?_
    · intro p H2 zs ds hp L
      have hp : p < n := hp
      have ep := range_at hp
      refine ⟨rfl, ?_⟩
      rw [Int.zero_add]
      refine ⟨_, rfl, _, rfl, _, rfl, _, rfl, a, rows, n, g, p, i, j, rfl, tb.fr0 L.fr, hn, hp, hi, hj, fun H3 f3 => ⟨_, rfl, ite2 (fun c => ?_) (fun c => ?_)⟩⟩
      · exact ⟨_, rfl, L.put C (d := dN p) (by omega) f3 trivial (.int _) (by rw [L.m]; exact (made_some ep (by rw [if_pos c])).symm)⟩
      · exact L.skip C f3 trivial (by rw [L.m]; exact (made_none ep (by rw [if_neg c])).symm)
    · intro H2 zs ds L
      have em := L.m
      rw [made_all (by rw [List.length_range]; exact Nat.le_refl _), filterMap_if] at em
      have td := L.dat
      rw [em] at td
      exact q _ D zs L.fr hD L.at_ td
def spTellers : Sp := fun vs H Q _ => ∃ (v : V) (n : Nat) (ps : List Pr) (i j : Nat), vs = [v, .int i, .int j] ∧ OfWeb H v n ps ∧ i < n ∧ j < n ∧ Ret H (.tuple (dNs (tellsOf n (tied ps) i j))) Q
theorem ok_tellers (F : FnP K "tellers" s_tellers f fd) (g_tuple : mg "tuple" = none) {f_tellers_in : Addr} {fd_tellers_in : FuncData} (F_tellers_in : FnP K "tellers_in" s_tellers_in f_tellers_in fd_tellers_in) (m_tellers_in : mg "tellers_in" = some (.ref f_tellers_in)) {f_table_of : Addr} {fd_table_of : FuncData} (F_table_of : FnP K "table_of" s_table_of f_table_of fd_table_of) (m_table_of : mg "table_of" = some (.ref f_table_of)) (G_table_of : FnG P w K mg base CX0 1 f_table_of fd_table_of ["web"] spTable) (G_tellers_in : FnG P w K mg base CX0 2 f_tellers_in fd_tellers_in ["table", "one", "other"] spTellIn) : FnG P w K mg base CX0 3 f fd ["web", "one", "other"] spTellers := by
  have b_table_of : Binds K fd_table_of ["web"] [] := F_table_of.bindsN fun _ _ _ _ _ _ us hl => match us, hl with | [_], _ => rfl
  have b_tellers_in : Binds K fd_tellers_in ["table", "one", "other"] [] := F_tellers_in.bindsN fun _ _ _ _ _ _ us hl => match us, hl with | [_, _, _], _ => rfl
  refine okG0 F sc_tellers (fun vs H Q E h => ?_) (fun cdv A outer s H vs Q E hS hr h => ?_)
  · obtain ⟨_, _, _, _, _, rfl, _⟩ := h
    rfl
  · obtain ⟨v, n, ps, i, j, rfl, ⟨hv, hw⟩, hi, hj, q⟩ := h
    refine ⟨_, (pss_one (ps_ret (pe_callTy (tupOfK K) (by rfl) g_tuple (by decide +kernel) (pa_cons (pe_callG G_tellers_in hS (hr.mono (by decide)) (by rfl) m_tellers_in F_tellers_in.kp b_tellers_in .nil pass0 (pa_cons (pe_callG G_table_of hS (hr.mono (by decide)) (by rfl) m_table_of F_table_of.kp b_table_of .nil pass0 (pa_cons (pv 0) pa_nil)) (pa_cons (pv 1) (pa_cons (pv 2) pa_nil)))) pa_nil)))), ?_⟩
    refine ⟨_, rfl, v, n, ps, rfl, ⟨hv, hw⟩, fun H1 t rows f1 _ nr t1 => ?_⟩
    refine ⟨_, rfl, _, rfl, t, rows, n, _, i, j, rfl, t1, hw.hi, hi, hj, fun H2 l ys f2 nl el tl => ?_⟩
    refine ⟨l, ys, rfl, .inl ⟨SqL.of el, fun p hp => ?_⟩⟩
    have fp : Fr [] H2 (upd H2 p (.tup ys)) := Fr.new hp
    exact q _ _ ((f1.trans f2).trans fp) (.tup upd_same (tl.fr fp))
def spNamings : Sp := fun vs H Q _ => ∃ (a : Addr) (rows : List Addr) (n : Nat) (f : Nat → Nat → Bool) (i j : Nat), vs = [.ref a, .int i, .int j] ∧ Tab H a rows n f ∧ n ≤ 12 ∧ i < n ∧ j < n ∧ RetL H (dQs ((namQ n f (i, j)).map (qOf (i, j)))) Q
end
end Lt

set_option Elab.async false
set_option linter.all false
set_option maxRecDepth 100000
set_option maxHeartbeats 8000000
namespace Lt
open PySem PySem.Spec PyProof.Rows L2
def allTo (n : Nat) (f : Nat → Nat → Bool) (i : Nat) : List Qd := ((pairsOf n).take i).flatMap fun p => (namQ n f p).map (qOf p)
theorem allTo_succ {n : Nat} {f : Nat → Nat → Bool} {i : Nat} {p : Pr} (e : (pairsOf n)[i]? = some p) : allTo n f (i + 1) = allTo n f i ++ (namQ n f p).map (qOf p) := by
  unfold allTo
  rw [List.take_add_one, e, List.flatMap_append]
  simp
theorem allTo_all {n : Nat} {f : Nat → Nat → Bool} {i : Nat} (h : (pairsOf n).length ≤ i) : allTo n f i = allQ n f := by
  unfold allTo allQ
  rw [List.take_of_length_le h]
theorem allTo_len {n : Nat} (hn : n ≤ 12) (f : Nat → Nat → Bool) (i : Nat) : (allTo n f i).length ≤ 9504 := by
  have h1 := flat_len (l := (pairsOf n).take i) (g := fun p => (namQ n f p).map (qOf p)) (m := 144) fun p _ => by
    rw [List.length_map]
    exact namQ_len hn f p
  have h2 := pairsOf_len12 n hn
  have h3 : ((pairsOf n).take i).length ≤ 66 := by
    rw [List.length_take]
    omega
  have h4 : ((pairsOf n).take i).length * 144 ≤ 66 * 144 := Nat.mul_le_mul_right _ h3
  exact Nat.le_trans h1 h4
theorem allQ_len {n : Nat} (hn : n ≤ 12) (f : Nat → Nat → Bool) : (allQ n f).length ≤ 9504 := by
  rw [← allTo_all (Nat.le_refl _)]
  exact allTo_len hn f _
theorem mem_namQ {n : Nat} {f : Nat → Nat → Bool} {p q : Pr} : q ∈ namQ n f p ↔ (q.1 < q.2 ∧ q.2 < n) ∧ tellB f q.1 p.1 p.2 = true ∧ tellB f q.2 p.1 p.2 = true ∧ keepQ f p q = true := by
  unfold namQ tellsOf
  rw [ups_filter, List.mem_filter, List.mem_filter, mem_pairsOf, Bool.and_eq_true]
  constructor
  · rintro ⟨⟨a, b, c⟩, d⟩
    exact ⟨a, b, c, d⟩
  · rintro ⟨a, b, c, d⟩
    exact ⟨⟨a, b, c⟩, d⟩
theorem mem_allQ {n : Nat} {f : Nat → Nat → Bool} {q : Qd} : q ∈ allQ n f ↔ (q.a < q.d ∧ q.d < n) ∧ (q.b < q.c ∧ q.c < n) ∧ tellB f q.b q.a q.d = true ∧ tellB f q.c q.a q.d = true ∧ (q.a < q.b ∨ isLiftQ f q = true) := by
  unfold allQ
  rw [List.mem_flatMap]
  constructor
  · rintro ⟨p, mp, m⟩
    obtain ⟨r, mr, rfl⟩ := List.mem_map.mp m
    obtain ⟨a, b, c, d⟩ := mem_namQ.mp mr
    refine ⟨mem_pairsOf.mp mp, a, b, c, ?_⟩
    unfold keepQ at d
    rcases Bool.or_eq_true_iff.mp d with d | d
    · exact .inl (of_decide_eq_true d)
    · exact .inr d
  · rintro ⟨a, b, c, d, e⟩
    refine ⟨(q.a, q.d), mem_pairsOf.mpr a, List.mem_map.mpr ⟨(q.b, q.c), mem_namQ.mpr ⟨b, c, d, ?_⟩, rfl⟩⟩
    unfold keepQ
    rcases e with e | e
    · rw [decide_eq_true e]
      rfl
    · exact Bool.or_eq_true_iff.mpr (.inr e)
theorem deed_of_all {n : Nat} {f : Nat → Nat → Bool} {q : Qd} (h : q ∈ allQ n f) : DeedOk n f q := by
  obtain ⟨a, b, c, d, _⟩ := mem_allQ.mp h
  have n1 := tellB_ne c
  have n2 := tellB_ne d
  refine ⟨by omega, by omega, by omega, by omega, ?_, c, d⟩
  simp only [List.nodup_cons, List.mem_cons, List.not_mem_nil, or_false, not_or, not_false_eq_true, List.nodup_nil, and_true]
  omega
section
variable {P : Program} {w : World} {K : PySem.W.Frag} {mg : Str → Option Value} {base : Heap} {f : Addr} {fd : FuncData}
def spAllIn : Sp := fun vs H Q _ => ∃ (a : Addr) (rows : List Addr) (n : Nat) (f : Nat → Nat → Bool), vs = [.ref a] ∧ Tab H a rows n f ∧ n ≤ 12 ∧ RetL H (dQs (allQ n f)) Q
def spAllDeeds : Sp := fun vs H Q _ => ∃ (v : V) (n : Nat) (ps : List Pr), vs = [v] ∧ OfWeb H v n ps ∧ Ret H (.tuple (dQs (allQ n (tied ps)))) Q
def spAllLifts : Sp := fun vs H Q _ => ∃ (v : V) (n : Nat) (ps : List Pr), vs = [v] ∧ OfWeb H v n ps ∧ Ret H (.tuple (dQs (liftsQ n (tied ps)))) Q
end
end Lt

set_option Elab.async false
set_option linter.all false
set_option maxRecDepth 100000
set_option maxHeartbeats 8000000
namespace Lt
open PySem PySem.Spec PyProof.Rows L2
def leastQ (f : Nat → Nat → Bool) (q : Qd) : Qd :=
  if isLiftQ f q = true ∨ min q.a q.d < min q.b q.c then ⟨min q.a q.d, max q.a q.d, min q.b q.c, max q.b q.c⟩ else ⟨min q.b q.c, max q.b q.c, min q.a q.d, max q.a q.d⟩
theorem DeedOk.sep {n : Nat} {f : Nat → Nat → Bool} {q : Qd} (o : DeedOk n f q) : q.a ≠ q.d ∧ q.a ≠ q.b ∧ q.a ≠ q.c ∧ q.d ≠ q.b ∧ q.d ≠ q.c ∧ q.b ≠ q.c := by
  have h := o.nd
  simp only [List.nodup_cons, List.mem_cons, List.not_mem_nil, or_false, not_or, List.nodup_nil, and_true, not_false_eq_true] at h
  omega
section
variable {P : Program} {w : World} {K : PySem.W.Frag} {mg : Str → Option Value} {base : Heap} {f : Addr} {fd : FuncData}
def spLeastNm : Sp := fun vs H Q _ => ∃ (v vd : V) (n : Nat) (ps : List Pr) (q : Qd), vs = [v, vd] ∧ OfWeb H v n ps ∧ Tp H vd (dq q) ∧ DeedOk n (tied ps) q ∧ Ret H (dq (leastQ (tied ps) q)) Q
end
end Lt

set_option Elab.async false
set_option linter.all false
set_option maxRecDepth 100000
set_option maxHeartbeats 8000000
namespace Lt
open PySem PySem.Spec PyProof.Rows L2
abbrev T4 (a d b c : Nat) : List Pr := [nm b a, nm b d, nm c a, nm c d]
theorem nm_comm (i j : Nat) : nm i j = nm j i := by
  unfold nm
  rw [Nat.min_comm, Nat.max_comm]
theorem mem_T4 {a d b c : Nat} {p : Pr} : p ∈ T4 a d b c ↔ p ∈ X4 a d b c := by
  rw [show T4 a d b c = [nm a b, nm d b, nm a c, nm d c] by rw [nm_comm a b, nm_comm d b, nm_comm a c, nm_comm d c]]
  simp only [List.mem_cons, List.not_mem_nil, or_false]
  constructor
  · rintro (h | h | h | h) <;> simp [h]
  · rintro (h | h | h | h) <;> simp [h]
section
variable {n : Nat} {ps : List Pr} {q : Qd}
theorem mem_behind (w : WebOk n ps) (o : DeedOk n (tied ps) q) {p : Pr} : p ∈ fromT n (handQ (tied ps) q) ↔ (p ∈ ps ∧ p ∉ T4 q.a q.d q.b q.c) ∨ (p ∈ T4 q.a q.d q.b q.c ∧ p ∉ ps) := by
  rw [mem_from, mem_T4]
  have ap : Apart4 q.a q.d q.b q.c := by
    obtain ⟨h1, h2, h3, h4, h5, h6⟩ := o.sep
    exact ⟨h1, h2, h3, h4, h5, h6⟩
  have hm : p ∈ ps ↔ (p.1 < p.2 ∧ p.2 < n) ∧ tied ps p.1 p.2 = true := mem_tied w
  by_cases hx : p ∈ X4 q.a q.d q.b q.c
  · obtain ⟨b1, b2⟩ := x4_flip w ap o.a o.d o.b o.c hx
    rw [show handQ (tied ps) q = handF (tied ps) q.a q.d q.b q.c from rfl, b2, hm]
    constructor
    · rintro ⟨_, h⟩
      exact .inr ⟨hx, fun z => by rw [z.2] at h; cases h⟩
    · rintro (⟨_, h⟩ | ⟨_, h⟩)
      · exact absurd hx h
      · refine ⟨b1, ?_⟩
        cases e : tied ps p.1 p.2 with
        | true => exact absurd ⟨b1, e⟩ h
        | false => rfl
  · constructor
    · rintro ⟨h1, h2⟩
      rw [show handQ (tied ps) q = handF (tied ps) q.a q.d q.b q.c from rfl, hand_out (tied_sym ps) h1.1 hx] at h2
      exact .inl ⟨hm.mpr ⟨h1, h2⟩, hx⟩
    · rintro (⟨h1, _⟩ | ⟨h1, _⟩)
      · have h3 := hm.mp h1
        refine ⟨h3.1, ?_⟩
        rw [show handQ (tied ps) q = handF (tied ps) q.a q.d q.b q.c from rfl, hand_out (tied_sym ps) h3.1.1 hx]
        exact h3.2
      · exact absurd h1 hx
abbrev oldOf (ps : List Pr) (q : Qd) : List Pr := ps.filter fun p => !decide (p ∈ T4 q.a q.d q.b q.c)
abbrev newOf (ps : List Pr) (q : Qd) : List Pr := (T4 q.a q.d q.b q.c).filter fun p => !decide (p ∈ ps)
theorem t4_nodup (o : DeedOk n (tied ps) q) : (T4 q.a q.d q.b q.c).Nodup := by
  obtain ⟨h1, h2, h3, h4, h5, h6⟩ := o.sep
  simp only [List.nodup_cons, List.mem_cons, List.not_mem_nil, or_false, not_or, not_false_eq_true, List.nodup_nil, and_true, Prod.mk.injEq]
  omega
theorem both_nodup (w : WebOk n ps) (o : DeedOk n (tied ps) q) : (oldOf ps q ++ newOf ps q).Nodup := by
  rw [List.nodup_append]
  refine ⟨(up_nodup w.up).sublist List.filter_sublist, (t4_nodup o).sublist List.filter_sublist, ?_⟩
  intro x hx y hy e
  subst e
  have h1 := (List.mem_filter.mp hx).1
  have h2 := (List.mem_filter.mp hy).2
  rw [Bool.not_eq_true', decide_eq_false_iff_not] at h2
  exact h2 h1
theorem behind_eq (w : WebOk n ps) (o : DeedOk n (tied ps) q) {qs : List Pr} (hp : qs.Perm (oldOf ps q ++ newOf ps q)) (hu : qs.Pairwise Up) : qs = fromT n (handQ (tied ps) q) := by
  refine up_uniq hu (fromT_ok _ w.lo w.hi).up fun p => ?_
  rw [hp.mem_iff, mem_behind w o, List.mem_append, List.mem_filter, List.mem_filter, Bool.not_eq_true', Bool.not_eq_true', decide_eq_false_iff_not, decide_eq_false_iff_not]
end
section
variable {P : Program} {w : World} {K : PySem.W.Frag} {mg : Str → Option Value} {base : Heap} {f : Addr} {fd : FuncData}
def spPick : Sp := fun vs H Q _ => ∃ (s d c a : Addr) (xs : List V) (ds : List PyData), vs = [.ref s, .ref a] ∧ Stk s d c H ∧ (H a = some (.lst xs) ∨ H a = some (.tup xs)) ∧ Tps H xs ds ∧ 0 < xs.length ∧ xs.length ≤ 100000 ∧ a ≠ s ∧ a ≠ d ∧
  ∀ H' r e, e ∈ ds → Fr [s, d] H H' → Stk s d c H' → Tp H' r e → Q r H'
def spBehind : Sp := fun vs H Q _ => ∃ (v vd : V) (n : Nat) (ps : List Pr) (q : Qd), vs = [v, vd] ∧ OfWeb H v n ps ∧ Tp H vd (dq q) ∧ DeedOk n (tied ps) q ∧ Ret H (dW n (fromT n (handQ (tied ps) q))) Q
end
end Lt

set_option Elab.async false
set_option linter.all false
set_option maxRecDepth 100000
set_option maxHeartbeats 4000000
namespace Lt
open PySem PySem.Spec PyProof.Rows L2
section
variable {n : Nat} {ps : List Pr}
/-! ## their order -/
def QLt (q r : Qd) : Prop := q.a < r.a ∨ (q.a = r.a ∧ (q.d < r.d ∨ (q.d = r.d ∧ (q.b < r.b ∨ (q.b = r.b ∧ q.c < r.c)))))
theorem allQ_up (n : Nat) (f : Nat → Nat → Bool) : (allQ n f).Pairwise QLt := by
  unfold allQ
  rw [List.pairwise_flatMap]
  constructor
  · intro p _
    rw [List.pairwise_map]
    have h : (namQ n f p).Pairwise Up := (ups_up (asc_filter n _)).sublist List.filter_sublist
    refine h.imp fun {q r} u => .inr ⟨rfl, .inr ⟨rfl, ?_⟩⟩
    exact u
  · refine (pairsTo_up n n).imp fun {p r} u => ?_
    intro x mx y my
    obtain ⟨q, _, rfl⟩ := List.mem_map.mp mx
    obtain ⟨t, _, rfl⟩ := List.mem_map.mp my
    rcases u with u | ⟨u1, u2⟩
    · exact .inl u
    · exact .inr ⟨u1, .inl u2⟩
theorem allQ_step {f : Nat → Nat → Bool} {i : Nat} {q r : Qd} (h1 : (allQ n f)[i]? = some r) (h2 : (allQ n f)[i + 1]? = some q) : QLt r q := by
  obtain ⟨l1, e1⟩ := List.getElem?_eq_some_iff.mp h1
  obtain ⟨l2, e2⟩ := List.getElem?_eq_some_iff.mp h2
  have := List.pairwise_iff_getElem.mp (allQ_up n f) i (i + 1) l1 l2 (Nat.lt_succ_self i)
  rw [e1, e2] at this
  exact this
/-! ## its names -/
abbrev swA (q : Qd) : Qd := ⟨q.d, q.a, q.b, q.c⟩
abbrev swB (q : Qd) : Qd := ⟨q.a, q.d, q.c, q.b⟩
abbrev swX (q : Qd) : Qd := ⟨q.b, q.c, q.a, q.d⟩
theorem tellB_swap {f : Nat → Nat → Bool} {p i j : Nat} : tellB f p j i = tellB f p i j := by
  unfold tellB
  have e : decide (p = j ∨ p = i) = decide (p = i ∨ p = j) := by
    congr 1
    apply propext
    omega
  rw [e]
  cases f p i <;> cases f p j <;> rfl
theorem DeedOk.of {f : Nat → Nat → Bool} {q : Qd} (a : q.a < n) (d : q.d < n) (b : q.b < n) (c : q.c < n) (h1 : q.a ≠ q.d) (h2 : q.b ≠ q.c) (t1 : tellB f q.b q.a q.d = true) (t2 : tellB f q.c q.a q.d = true) : DeedOk n f q := by
  have n1 := tellB_ne t1
  have n2 := tellB_ne t2
  refine ⟨a, d, b, c, ?_, t1, t2⟩
  simp only [List.nodup_cons, List.mem_cons, List.not_mem_nil, or_false, not_or, not_false_eq_true, List.nodup_nil, and_true]
  omega
/-- what is the same of a deed and of another naming -/
structure Same4 (n : Nat) (f : Nat → Nat → Bool) (q r : Qd) : Prop where
  ok : DeedOk n f r
  lift : isLiftQ f r = isLiftQ f q
  least : leastQ f r = leastQ f q
  hand : handQ f r = handQ f q
theorem Same4.trans {f : Nat → Nat → Bool} {q r t : Qd} (a : Same4 n f q r) (b : Same4 n f r t) : Same4 n f q t := ⟨b.ok, b.lift.trans a.lift, b.least.trans a.least, b.hand.trans a.hand⟩
theorem Same4.self {f : Nat → Nat → Bool} {q : Qd} (o : DeedOk n f q) : Same4 n f q q := ⟨o, rfl, rfl, rfl⟩
theorem hand_ext {f : Nat → Nat → Bool} (s : Sym f) (a d b c a' d' b' c' : Nat) (h : ∀ i j, ((((f i j != at2 a b i j) != at2 a c i j) != at2 d b i j) != at2 d c i j) = ((((f i j != at2 a' b' i j) != at2 a' c' i j) != at2 d' b' i j) != at2 d' c' i j)) : handF f a d b c = handF f a' d' b' c' := by
  rw [hand_xor s, hand_xor s]
  funext i j
  exact h i j
theorem at2_comm (s p i j : Nat) : at2 s p i j = at2 p s i j := by
  unfold at2
  congr 1
  apply propext
  omega
theorem same_A {f : Nat → Nat → Bool} (s : Sym f) {q : Qd} (o : DeedOk n f q) : Same4 n f q (swA q) := by
  obtain ⟨h1, h2, h3, h4, h5, h6⟩ := o.sep
  have t1 := o.t1
  have t2 := o.t2
  have e : isLiftQ f (swA q) = isLiftQ f q := by
    unfold tellB at t1 t2
    have u1 := (Bool.and_eq_true_iff.mp t1).2
    have u2 := (Bool.and_eq_true_iff.mp t2).2
    unfold isLiftQ liftB
    show (f q.d q.b == f q.d q.c) = (f q.a q.b == f q.a q.c)
    rw [s q.b q.a, s q.b q.d] at u1
    rw [s q.c q.a, s q.c q.d] at u2
    generalize f q.a q.b = x at *
    generalize f q.d q.b = y at *
    generalize f q.a q.c = z at *
    generalize f q.d q.c = w at *
    cases x <;> cases y <;> cases z <;> cases w <;> simp_all
  refine ⟨.of o.d o.a o.b o.c (Ne.symm h1) h6 (tellB_swap.trans t1) (tellB_swap.trans t2), e, ?_, ?_⟩
  · unfold leastQ
    rw [e, Nat.min_comm q.d q.a, Nat.max_comm q.d q.a]
  · refine hand_ext s _ _ _ _ _ _ _ _ fun i j => ?_
    generalize at2 q.a q.b i j = x
    generalize at2 q.a q.c i j = y
    generalize at2 q.d q.b i j = z
    generalize at2 q.d q.c i j = w
    cases f i j <;> cases x <;> cases y <;> cases z <;> cases w <;> rfl
theorem same_B {f : Nat → Nat → Bool} (s : Sym f) {q : Qd} (o : DeedOk n f q) : Same4 n f q (swB q) := by
  obtain ⟨h1, h2, h3, h4, h5, h6⟩ := o.sep
  have e : isLiftQ f (swB q) = isLiftQ f q := by
    unfold isLiftQ liftB
    show (f q.a q.c == f q.a q.b) = (f q.a q.b == f q.a q.c)
    cases f q.a q.b <;> cases f q.a q.c <;> rfl
  refine ⟨.of o.a o.d o.c o.b h1 (Ne.symm h6) o.t2 o.t1, e, ?_, ?_⟩
  · unfold leastQ
    rw [e, Nat.min_comm q.c q.b, Nat.max_comm q.c q.b]
  · refine hand_ext s _ _ _ _ _ _ _ _ fun i j => ?_
    generalize at2 q.a q.b i j = x
    generalize at2 q.a q.c i j = y
    generalize at2 q.d q.b i j = z
    generalize at2 q.d q.c i j = w
    cases f i j <;> cases x <;> cases y <;> cases z <;> cases w <;> rfl
theorem same_X {f : Nat → Nat → Bool} (s : Sym f) {q : Qd} (o : DeedOk n f q) (hl : isLiftQ f q = false) : Same4 n f q (swX q) := by
  obtain ⟨h1, h2, h3, h4, h5, h6⟩ := o.sep
  have t1 := o.t1
  have t2 := o.t2
  unfold tellB at t1 t2
  have u1 := (Bool.and_eq_true_iff.mp t1).2
  have u2 := (Bool.and_eq_true_iff.mp t2).2
  have hl' := hl
  unfold isLiftQ liftB at hl'
  rw [s q.b q.a, s q.b q.d] at u1
  rw [s q.c q.a, s q.c q.d] at u2
  have e : isLiftQ f (swX q) = false := by
    unfold isLiftQ liftB
    show (f q.b q.a == f q.b q.d) = false
    rw [s q.b q.a, s q.b q.d]
    generalize f q.a q.b = x at *
    generalize f q.d q.b = y at *
    cases x <;> cases y <;> simp_all
  refine ⟨.of o.b o.c o.a o.d h6 h1 ?_ ?_, e.trans hl.symm, ?_, ?_⟩
  · show tellB f q.a q.b q.c = true
    unfold tellB
    rw [decide_eq_false (by omega)]
    generalize f q.a q.b = x at *
    generalize f q.a q.c = z at *
    cases x <;> cases z <;> simp_all
  · show tellB f q.d q.b q.c = true
    unfold tellB
    rw [decide_eq_false (by omega)]
    generalize f q.a q.b = x at *
    generalize f q.d q.b = y at *
    generalize f q.a q.c = z at *
    generalize f q.d q.c = w at *
    cases x <;> cases y <;> cases z <;> cases w <;> simp_all
  · unfold leastQ
    rw [e, hl]
    show (if false = true ∨ min q.b q.c < min q.a q.d then (⟨min q.b q.c, max q.b q.c, min q.a q.d, max q.a q.d⟩ : Qd) else ⟨min q.a q.d, max q.a q.d, min q.b q.c, max q.b q.c⟩) = _
    by_cases c1 : min q.b q.c < min q.a q.d
    · rw [if_pos (.inr c1), if_neg (by rintro (z | z); cases z; omega)]
    · rw [if_neg (by rintro (z | z); cases z; omega), if_pos (.inr (by omega))]
  · refine hand_ext s _ _ _ _ _ _ _ _ fun i j => ?_
    show ((((f i j != at2 q.b q.a i j) != at2 q.b q.d i j) != at2 q.c q.a i j) != at2 q.c q.d i j) = _
    rw [at2_comm q.b q.a, at2_comm q.b q.d, at2_comm q.c q.a, at2_comm q.c q.d]
    generalize at2 q.a q.b i j = x
    generalize at2 q.a q.c i j = y
    generalize at2 q.d q.b i j = z
    generalize at2 q.d q.c i j = w
    cases f i j <;> cases x <;> cases y <;> cases z <;> cases w <;> rfl
/-- the least of its namings is itself -/
theorem least_self {f : Nat → Nat → Bool} {q : Qd} (h : q ∈ allQ n f) : leastQ f q = q := by
  obtain ⟨a, b, c, d, e⟩ := mem_allQ.mp h
  have sep := (deed_of_all h).sep
  have m1 : min q.a q.d = q.a := Nat.min_eq_left (by omega)
  have m2 : max q.a q.d = q.d := Nat.max_eq_right (by omega)
  have m3 : min q.b q.c = q.b := Nat.min_eq_left (by omega)
  have m4 : max q.b q.c = q.c := Nat.max_eq_right (by omega)
  unfold leastQ
  rw [m1, m2, m3, m4]
  rcases e with e | e
  · rw [if_pos (.inr e)]
  · rw [if_pos (.inl e)]
end
end Lt

set_option Elab.async false
set_option linter.all false
set_option maxRecDepth 100000
set_option maxHeartbeats 8000000
namespace Lt
open PySem PySem.Spec PyProof.Rows L2
/-! ## rows of deeds: the math -/
theorem run_sym' {n : Nat} : ∀ {qs : List Qi} {f g : Nat → Nat → Bool} {p : Nat}, Sym f → runX n f p qs = .inr g → Sym g
  | [], f, g, p, s, h => by
    cases h
    exact s
  | q :: qs, f, g, p, s, h => by
    unfold runX at h
    split at h
    · exact run_sym' (hand_sym s _ _ _ _) h
    · cases h
theorem tell_fromE {n : Nat} {f : Nat → Nat → Bool} (s : Sym f) {p i j : Nat} (hp : p < n) (hi : i < n) (hj : j < n) : tellB (tied (fromT n f)) p i j = tellB f p i j := by
  by_cases c : p = i ∨ p = j
  · unfold tellB
    rw [decide_eq_true c]
    rfl
  · unfold tellB
    rw [tied_from s hp hi (fun z => c (.inl z)), tied_from s hp hj (fun z => c (.inr z))]
theorem from_hand {n : Nat} {f : Nat → Nat → Bool} (s : Sym f) (h1 : 1 ≤ n) (h2 : n ≤ 12) (q : Qd) : fromT n (handQ (tied (fromT n f)) q) = fromT n (handQ f q) := by
  unfold fromT
  refine filter_congr' fun p mp => ?_
  have hp := mem_pairsOf.mp mp
  have e : tied (fromT n f) p.1 p.2 = f p.1 p.2 := tied_from s (by omega) hp.2 (by omega)
  show handF (tied (fromT n f)) q.a q.d q.b q.c p.1 p.2 = handF f q.a q.d q.b q.c p.1 p.2
  rw [hand_xor (tied_sym _), hand_xor s]
  unfold xorP
  rw [e]
abbrev InN (n : Nat) (q : Qd) : Prop := q.a < n ∧ q.d < n ∧ q.b < n ∧ q.c < n
theorem DeedOk.inN {n : Nat} {f : Nat → Nat → Bool} {q : Qd} (o : DeedOk n f q) : InN n q := ⟨o.a, o.d, o.b, o.c⟩
theorem runX_app {n : Nat} : ∀ {qs rs : List Qi} {f g : Nat → Nat → Bool} {p : Nat}, runX n f p qs = .inr g → runX n f p (qs ++ rs) = runX n g (p + qs.length) rs
  | [], rs, f, g, p, h => by
    cases h
    rfl
  | q :: qs, rs, f, g, p, h => by
    unfold runX at h
    rw [List.cons_append]
    show (if okI n f q = true then runX n (handQ f q.nat) (p + 1) (qs ++ rs) else .inl p) = _
    split at h
    · rename_i c
      rw [if_pos c, runX_app h, List.length_cons]
      congr 1
      omega
    · cases h
theorem dQis_int (qs : List Qd) : dQis (qs.map Qd.int) = dQs qs := List.map_map
/-- the same at unlike places -/
def SameF (n : Nat) (f g : Nat → Nat → Bool) : Prop := ∀ i j, i < n → j < n → i ≠ j → g i j = f i j
section
variable {n : Nat} {f g : Nat → Nat → Bool} {q : Qd}
theorem SameF.tell (h : SameF n f g) {p i j : Nat} (hp : p < n) (hi : i < n) (hj : j < n) : tellB g p i j = tellB f p i j := by
  unfold tellB
  by_cases c : p = i ∨ p = j
  · rw [decide_eq_true c]
    rfl
  · rw [decide_eq_false c, h p i hp hi (fun z => c (.inl z)), h p j hp hj (fun z => c (.inr z))]
theorem SameF.deed (h : SameF n f g) : DeedOk n g q ↔ DeedOk n f q := by
  constructor
  · rintro ⟨a, d, b, c, nd, t1, t2⟩
    exact ⟨a, d, b, c, nd, by rw [← h.tell b a d]; exact t1, by rw [← h.tell c a d]; exact t2⟩
  · rintro ⟨a, d, b, c, nd, t1, t2⟩
    exact ⟨a, d, b, c, nd, by rw [h.tell b a d]; exact t1, by rw [h.tell c a d]; exact t2⟩
theorem SameF.okI (h : SameF n f g) (q : Qi) : okI n g q = okI n f q := by
  cases e : Lt.okI n f q with
  | true =>
    have o := okI_deed e
    have e2 := deed_okI.mpr (h.deed.mpr o)
    rw [okI_nat e] at e2
    exact e2
  | false =>
    cases e2 : Lt.okI n g q with
    | false => rfl
    | true =>
      have o := okI_deed e2
      have e3 := deed_okI.mpr (h.deed.mp o)
      rw [okI_nat e2, e] at e3
      cases e3
theorem SameF.hand (h : SameF n f g) (sf : Sym f) (sg : Sym g) (q : Qd) : SameF n (handQ f q) (handQ g q) := fun i j hi hj ne => by
  show handF g q.a q.d q.b q.c i j = handF f q.a q.d q.b q.c i j
  rw [hand_xor sf, hand_xor sg]
  unfold xorP
  rw [h i j hi hj ne]
theorem SameF.from (h : SameF n f g) : fromT n g = fromT n f := by
  unfold fromT
  refine filter_congr' fun p mp => ?_
  have hp := mem_pairsOf.mp mp
  exact h p.1 p.2 (by omega) hp.2 (by omega)
theorem sameF_from (s : Sym f) : SameF n f (tied (fromT n f)) := fun i j hi hj ne => tied_from s hi hj ne
theorem run_same : ∀ (qs : List Qi) (f g : Nat → Nat → Bool) (p : Nat), SameF n f g → Sym f → Sym g →
    (∃ k, runX n f p qs = .inl k ∧ runX n g p qs = .inl k) ∨ ∃ f' g', runX n f p qs = .inr f' ∧ runX n g p qs = .inr g' ∧ SameF n f' g'
  | [], f, g, p, h, sf, sg => .inr ⟨f, g, rfl, rfl, h⟩
  | q :: qs, f, g, p, h, sf, sg => by
    unfold runX
    rw [h.okI q]
    by_cases c : Lt.okI n f q = true
    · rw [if_pos c, if_pos c]
      exact run_same qs _ _ (p + 1) (h.hand sf sg _) (hand_sym sf _ _ _ _) (hand_sym sg _ _ _ _)
    · rw [if_neg c, if_neg c]
      exact .inl ⟨p, rfl, rfl⟩
theorem hand_twice (s : Sym f) (q : Qd) : handQ (handQ f q) q = f := by
  show handF (handF f q.a q.d q.b q.c) q.a q.d q.b q.c = f
  rw [hand_xor (hand_sym s _ _ _ _), hand_xor s]
  funext i j
  unfold xorP
  cases f i j <;> cases at2 q.a q.b i j <;> cases at2 q.a q.c i j <;> cases at2 q.d q.b i j <;> cases at2 q.d q.c i j <;> rfl
theorem hand_ok (s : Sym f) (o : DeedOk n f q) : DeedOk n (handQ f q) q := by
  obtain ⟨h1, h2, h3, h4, h5, h6⟩ := o.sep
  have s2 := hand_sym s q.a q.d q.b q.c
  obtain ⟨e1, e2, e3, e4⟩ := hand_in4 s (a := q.a) (d := q.d) (b := q.b) (c := q.c) ⟨h1, h2, h3, h4, h5, h6⟩
  have t : ∀ x, (x = q.b ∨ x = q.c) → tellB f x q.a q.d = true → tellB (handQ f q) x q.a q.d = true := fun x hx t => by
    have ne := tellB_ne t
    unfold tellB at t ⊢
    show (!decide (x = q.a ∨ x = q.d) && (handF f q.a q.d q.b q.c x q.a != handF f q.a q.d q.b q.c x q.d)) = true
    rw [decide_eq_false (by omega)] at t ⊢
    rw [s2 x q.a, s2 x q.d]
    rw [s x q.a, s x q.d] at t
    rcases hx with rfl | rfl
    · rw [e1, e3]
      revert t
      cases f q.a q.b <;> cases f q.d q.b <;> simp
    · rw [e2, e4]
      revert t
      cases f q.a q.c <;> cases f q.d q.c <;> simp
  exact ⟨o.a, o.d, o.b, o.c, o.nd, t _ (.inl rfl) o.t1, t _ (.inr rfl) o.t2⟩
/-- a row backwards leads back -/
theorem run_rev : ∀ {qs : List Qi} {f g : Nat → Nat → Bool} {p : Nat} (p' : Nat), Sym f → runX n f p qs = .inr g → runX n g p' qs.reverse = .inr f
  | [], f, g, p, p', s, h => by
    cases h
    rfl
  | q :: qs, f, g, p, p', s, h => by
    unfold runX at h
    split at h
    · rename_i c
      have o := okI_deed c
      have ih := run_rev p' (hand_sym s _ _ _ _) h
      rw [List.reverse_cons, runX_app ih]
      have o2 := hand_ok s o
      have e := okI_nat c
      show (if okI n (handQ f q.nat) q = true then runX n (handQ (handQ f q.nat) q.nat) _ [] else _) = _
      rw [if_pos (by
        have := deed_okI.mpr o2
        rw [e] at this
        exact this), hand_twice s]
      rfl
    · cases h
/-- a row on the way, behind it the web qn -/
structure WayR (n : Nat) (ps qn : List Pr) (qs : List Qd) : Prop where
  run : ∃ g, runX n (tied ps) 0 (qs.map Qd.int) = .inr g ∧ Sym g ∧ qn = fromT n g
  ok : WebOk n qn
  ins : ∀ q ∈ qs, InN n q
theorem WayR.nil {ps : List Pr} (w : WebOk n ps) : WayR n ps ps [] := ⟨⟨tied ps, rfl, tied_sym ps, (fromT_tied w).symm⟩, w, fun _ m => absurd m List.not_mem_nil⟩
theorem WayR.step {ps qn : List Pr} {qs : List Qd} {q : Qd} (W : WayR n ps qn qs) (o : DeedOk n (tied qn) q) : WayR n ps (fromT n (handQ (tied qn) q)) (qs ++ [q]) := by
  obtain ⟨g, er, sg, e⟩ := W.run
  have eok : okI n g q.int = true := by
    have h := deed_okI.mpr o
    rw [e, (sameF_from sg).okI] at h
    exact h
  refine ⟨⟨handQ g q, ?_, hand_sym sg _ _ _ _, ?_⟩, fromT_ok _ W.ok.lo W.ok.hi, fun x m => ?_⟩
  · rw [List.map_append, runX_app er]
    show (if okI n g q.int = true then _ else _) = _
    rw [if_pos eok, int_nat]
    rfl
  · rw [e, from_hand sg W.ok.lo W.ok.hi]
  · rcases List.mem_append.mp m with m | m
    · exact W.ins x m
    · rw [List.mem_singleton.mp m]
      exact o.inN
end
theorem runX_le {n : Nat} : ∀ {qs : List Qi} {f : Nat → Nat → Bool} {p k : Nat}, runX n f p qs = .inl k → k < p + qs.length
  | [], f, p, k, h => by cases h
  | q :: qs, f, p, k, h => by
    unfold runX at h
    split at h
    · have := runX_le h
      rw [List.length_cons]
      omega
    · cases h
      rw [List.length_cons]
      omega
section
variable {X : Cx}
theorem catAK (K : PySem.W.Frag) (h : X.K = K := by rfl) : OpR X (binaryOp .Add) (rCatA K) := h ▸ op_catA
theorem slAK (K : PySem.W.Frag) (h : X.K = K := by rfl) : SlR X (rSlA K) := h ▸ sl_tupA
end
theorem catA_of {K : PySem.W.Frag} {H : Hp} {Q : VK} {a b : Addr} {xs ys : List V} (ha : H a = some (.tup xs)) (hb : H b = some (.tup ys)) (hl : xs.length + ys.length ≤ 100000)
    (k : ∀ H' u, Fr [] H H' → H' u = some (.tup (xs ++ ys)) → Q (.ref u) H') : rCatA K (.ref a) (.ref b) H Q := by
  refine ⟨a, b, xs, ys, rfl, rfl, SqT.of ha, SqT.of hb, szl hl, fun e => k H b Fr.refl ?_, fun _ e => k H a Fr.refl ?_, fun _ _ p hp => k _ p (Fr.new hp) upd_same⟩
  · rw [e, List.nil_append]
    exact hb
  · rw [e, List.append_nil]
    exact ha
theorem slA_of {K : PySem.W.Frag} {H : Hp} {Q : VK} {a : Addr} {xs zs : List V} {lo hi : Option Int} (ha : H a = some (.tup xs)) (e : cutV xs lo hi = zs) (k : ∀ H' u, Fr [] H H' → H' u = some (.tup zs) → Q (.ref u) H') : rSlA K (.ref a) lo hi H Q := by
  refine ⟨a, xs, rfl, SqT.of ha, fun c => k H a Fr.refl ?_, fun _ p hp => ?_⟩
  · rw [ha, ← e]
    unfold cutV
    rw [c.1, c.2, List.drop_zero, Nat.sub_zero, List.take_length]
  · rw [e]
    exact k _ p (Fr.new hp) upd_same
end Lt

set_option Elab.async false
set_option linter.all false
set_option maxRecDepth 100000
set_option maxHeartbeats 4000000
namespace Lt
open PySem PySem.Spec PyProof.Rows L2
/-! ## isinstance of the error that a suite holds -/
structure IsErr (K : PySem.W.Frag) (D B : Addr) : Prop where
  e : ExcC K D
  k : PySem.W.kitOne K (.ref D) (.ref B) = some true
def isB (K : PySem.W.Frag) (D B : Addr) : Bool :=
  He.eqO (PySem.W.findIn K (.ref D) "__getattribute__") (some (some (.builtin "BaseException.__getattribute__"))) && (He.eqO (PySem.W.findIn K (.ref D) "__getattr__") (some none) && (decide (PySem.W.subIn K (.ref D) (.type "BaseException") = some true) &&
  (PySem.W.hasDictIn K D && (He.eqO (PySem.W.findIn K (.ref D) "__class__") (some (some (.builtin "object.__class__"))) && (He.eqO (PySem.W.specialIn K (.builtin "object.__class__") "__get__") (some (some (.builtin "getset_descriptor.__get__"))) &&
  (decide (PySem.W.takesIn K (.builtin "object.__class__") = some true) && (decide (PySem.W.mroIn K D (.type "object") = some true) && decide (PySem.W.kitOne K (.ref D) (.ref B) = some true))))))))
theorem isB_ok {K : PySem.W.Frag} {D B : Addr} (c : isB K D B = true) : IsErr K D B := by
  unfold isB at c
  obtain ⟨c1, c⟩ := He.ba c
  obtain ⟨c2, c⟩ := He.ba c
  obtain ⟨c3, c⟩ := He.ba c
  obtain ⟨c4, c⟩ := He.ba c
  obtain ⟨c5, c⟩ := He.ba c
  obtain ⟨c6, c⟩ := He.ba c
  obtain ⟨c7, c⟩ := He.ba c
  obtain ⟨c8, c9⟩ := He.ba c
  exact ⟨⟨He.eqO_ok c1, He.eqO_ok c2, of_decide_eq_true c3, c4, He.eqO_ok c5, He.eqO_ok c6, of_decide_eq_true c7, of_decide_eq_true c8⟩, of_decide_eq_true c9⟩
/-- isinstance(n, B), n the error that the suite holds -/
def rIsErr (K : PySem.W.Frag) (D B a : Addr) (cls : Value) (d : Option Addr) : List V → Hp → VK → Prop := fun xs H Q => ∃ (dd : Addr) (fs : List (Str × V)), xs = [.ref a, .ref B] ∧ cls = .ref D ∧ d = some dd ∧ H dd = some (.xd fs) ∧ Q (.bl true) H
theorem call_isErr {X : Cx} {a D B : Addr} {oe : Obj} {cls : Value} {d : Option Addr} {pn : List (Addr × Obj)} (K : PySem.W.Frag) (C : IsErr K D B) (hz : Zc cls d oe) (hf : ∃ vs, oe.data = .fields vs) (hK : X.K = K := by rfl) :
    CallR (X.suite a ((a, oe) :: pn)) (.builtin "isinstance") (rIsErr K D B a cls d) := by
  subst hK
  intro pins s σ H xs us Q I r h
  obtain ⟨dd, fs, rfl, rfl, rfl, eH, q⟩ := h
  cases r with
  | cons rx rr =>
    cases rr with
    | cons rt rr =>
      cases rr
      cases rx
      cases rt
      obtain ⟨hget, _⟩ := I.pin (a, oe) (List.mem_append.mpr (.inl List.mem_cons_self))
      obtain ⟨vs, hv⟩ := hf
      have hx : ObjOk X.prog X.w H s.heap dd (.xd fs) := I.hok dd _ eH
      obtain ⟨mA, hns, hr⟩ := hx
      obtain ⟨od, ho, hl⟩ := lookIn_ns hns
      have J : PySem.W.InstAt s.heap a oe D (some od) := by
        obtain ⟨oc, odd, oda, osl⟩ := oe
        obtain ⟨h1, h2⟩ := hz
        dsimp only at h1 h2 hv
        subst h1 h2 hv
        exact ⟨hget, rfl, rfl, ho⟩
      have hcl : (PySem.W.clsIn X.K D).isSome = true := by
        obtain ⟨cd, hc, _⟩ := PySem.W.any_some C.e.hd
        rw [hc]
        rfl
      exact PySem.W.kia_one (PySem.W.kitx_exc hcl C.e.hg C.e.hk C.e.hs C.e.ha C.e.hn C.e.ht C.e.hm) I.kIn J C.k (fun z => nomatch z) fun tk => ⟨.bl true, H, I.kept (t' := tk) fun _ _ z => z, rfl, q⟩
end Lt

set_option Elab.async false
set_option linter.all false
set_option maxRecDepth 100000
set_option maxHeartbeats 4000000
namespace Lt
open PySem in
theorem szl' {n : Nat} (h : n ≤ 1000000) : n ≤ sizeLine := by
  rw [sizeLine_eq]
  omega
/-! ## t[::-1] of a tuple -/
section
open PySem PySem.Spec PyProof.Rows HT
variable {prog : Program} {w : World} {A : Around} {E : Value → Shared → Prop} {s : Shared}
theorem rev_places (n : Nat) : Builtin.Slice.sliceAdjust none none (-1) (n : Int) = ((n : Int) - 1, -1) ∧ Builtin.Slice.slicePlaces ((n : Int) - 1) (-1) (-1) = n := by
  constructor
  · unfold Builtin.Slice.sliceAdjust
    simp
  · unfold Builtin.Slice.slicePlaces
    have h1 : ¬ ((-1 : Int) > 0) := by decide
    simp only [h1, if_false]
    by_cases h : (n : Int) - 1 > -1
    · simp only [h, if_true, show (- -1 : Int) = 1 by decide, Int.ediv_one]
      omega
    · simp only [h, if_false]
      omega
theorem rev_pick (items : Array Value) : ((List.range items.size).filterMap fun (k : Nat) => items[(((items.size : Nat) : Int) - 1 + (k : Int) * (-1)).toNat]?).toArray = items.toList.reverse.toArray := by
  have e : (List.range items.size).filterMap (fun (k : Nat) => items[(((items.size : Nat) : Int) - 1 + (k : Int) * (-1)).toNat]?) = ((List.range items.size).map fun k => items.size - 1 - k).filterMap (items[·]?) := by
    rw [List.filterMap_map]
    have go : ∀ l : List Nat, (∀ k ∈ l, k < items.size) → l.filterMap (fun (k : Nat) => items[(((items.size : Nat) : Int) - 1 + (k : Int) * (-1)).toNat]?) = l.filterMap ((items[·]?) ∘ fun k => items.size - 1 - k) := by
      intro l
      induction l with
      | nil => exact fun _ => rfl
      | cons x l ih =>
        intro hl
        have h1 := hl x List.mem_cons_self
        have e1 : (((items.size : Nat) : Int) - 1 + (x : Int) * (-1)).toNat = items.size - 1 - x := by omega
        rw [List.filterMap_cons, List.filterMap_cons, ih fun k m => hl k (List.mem_cons_of_mem _ m), e1]
        rfl
    exact go _ fun k hk => List.mem_range.mp hk
  rw [e, PySem.W.krv_range, List.filterMap_reverse, PySem.W.krv_all]
theorem sliceApplied_rev {sl : Addr} {vl vu vs : Value} {n : Nat} {Q : Int × Int × Nat → Shared → Prop} (hs : s.heap.IsSliceOf sl vl vu vs) (pl : IsPart vl none) (pu : IsPart vu none) (ps : IsPart vs (some (-1)))
    (h : Q ((n : Int) - 1, -1, n) s) : wpAny (model prog w) A (Builtin.Slice.sliceApplied (.ref sl) (pure (n : Int))) Q E s := by
  obtain ⟨os, hos, hcs, hds⟩ := id hs
  unfold Builtin.Slice.sliceApplied Builtin.Slice.sliceFields
  refine wpAny_bind (wpAny_bind (wpAny_field hos hds (x := vl) rfl (wpAny_bind (wpAny_field hos hds (x := vu) rfl (wpAny_bind (wpAny_field hos hds (x := vs) rfl (wpAny_pure ?_)))))))
  refine wpAny_bind (slicePart_ ps ?_)
  show wpAny _ _ (if ((-1 : Int) == 0) = true then _ else _) _ _ s
  rw [if_neg (by decide)]
  refine wpAny_bind (slicePart_ pl (wpAny_bind (slicePart_ pu (wpAny_bind (wpAny_pure ?_)))))
  show wpAny _ _ (match Builtin.Slice.sliceAdjust none none (-1) (n : Int) with | (lo, hi) => pure (lo, (-1 : Int), Builtin.Slice.slicePlaces lo hi (-1))) _ _ s
  rw [(rev_places n).1]
  show wpAny _ _ (pure ((n : Int) - 1, (-1 : Int), Builtin.Slice.slicePlaces ((n : Int) - 1) (-1) (-1))) _ _ s
  rw [(rev_places n).2]
  exact wpAny_pure h
theorem getItem_tuple_rev {t sl : Addr} {items : Array Value} {vl vu vs : Value} {Q : Value → Shared → Prop} (ht : IsTup s.heap t items) (hs : s.heap.IsSliceOf sl vl vu vs) (pl : IsPart vl none) (pu : IsPart vu none) (ps : IsPart vs (some (-1)))
    (h : Q (.ref s.heap.objs.size) { s with heap := s.heap.push { cls := .type "tuple", data := .seq items.toList.reverse.toArray } }) (hsz : items.size ≤ sizeLine) : wpAny (model prog w) A (getItem (.ref t) (.ref sl)) Q E s := by
  have hok : sizeOk (.seq items.toList.reverse.toArray) := by
    show items.toList.reverse.toArray.size ≤ sizeLine
    rw [List.size_toArray, List.length_reverse, Array.length_toList]
    exact hsz
  obtain ⟨os, hos, hcs, hds⟩ := id hs
  have hTs : s.TypeIs (.ref sl) "slice" := ⟨os, hos, hcs⟩
  unfold getItem
  try with_reducible refine wpAny_holding ?_
  first | refine wpAny_bind (wpAny_pure ?_) | skip
  refine wpAny_bind (wpAny_sequenceKey ht.typeIs (by decide) ?_)
  refine wpAny_bind (wpAny_callSpecial?_slot (name := Str.ofString "__getitem__") ht.typeIs PyProof.Rows.slot_tuple_getitem
    (wpAny_call_entry PyProof.Rows.slot_tuple_getitem ht.typeIs entry_tuple_getitem ?_ (args_tuple_getitem _ _)))
  show wpAny _ _ (Builtin.Tuple.tupleItemsOf (.ref t) >>= _) _ _ s
  refine wpAny_bind (tupleItemsOf_ ht ?_)
  refine wpAny_bind (wpAny_typeOf hTs ?_)
  rw [if_pos (by decide)]
  refine wpAny_bind (sliceApplied_rev hs pl pu ps ?_)
  have hno : ¬ (((((items.size : Nat) : Int) - 1) == 0 && (-1 : Int) == 1 && items.size == items.size) = true) := by
    rw [show ((-1 : Int) == 1) = false by decide, Bool.and_false]
    simp
  show wpAny _ _ (if ((((items.size : Nat) : Int) - 1) == 0 && (-1 : Int) == 1 && items.size == items.size) = true then _ else _) _ _ s
  rw [if_neg hno, rev_pick]
  first
    | exact wpAny_bind (m := Builtin.Tuple.tupleExact _) (wpAny_newObj_type (wpAny_pure ⟨_, rfl, wpAny_pure h⟩) hok)
    | exact wpAny_bind (m := Builtin.Tuple.tupleExact _) (wpAny_newObj_type (wpAny_bind (wpAny_pure (wpAny_pure ⟨_, rfl, wpAny_pure h⟩))) hok)
    | exact wpAny_bind (wpAny_bind (m := Builtin.Tuple.tupleExact _) (wpAny_newObj_type (wpAny_pure (wpAny_pure ⟨_, rfl, wpAny_pure h⟩)) hok))
    | exact wpAny_bind (wpAny_bind (m := Builtin.Tuple.tupleExact _) (wpAny_newObj_type (wpAny_pure ⟨_, rfl, wpAny_pure h⟩) hok))
end
section
open PySem PySem.Spec PyProof.Rows L2
variable {X : Cx}
def tRevT (K : PySem.W.Frag) (te : TE) : TE := fun σ H Q => te σ H fun x H1 => ∃ a xs, x = .ref a ∧ SqT K H1 a xs ∧ ∀ p, H1 p = none → Q (.ref p) (upd H1 p (.tup xs.reverse))
theorem pe_revT (K : PySem.W.Frag) {e : Expr} {te : TE} {k : Nat} {p1 p2 p3 pos : Pos} (he : PE X e te) (hK : X.K = K := by rfl) : PE X (.Subscript e (.Slice none none (some (.UnaryOp .USub (.Constant (.int 1) k p1) p2)) p3) pos) (tRevT K te) := by
  subst hK
  refine ⟨fun pins s σ H Q I h => ?_⟩
  refine Subscript_ (thn (he.run pins s σ H _ I h) fun v s1 ⟨x, H1, I1, r1, q1⟩ => ?_)
  obtain ⟨a, xs, ex, hx, q⟩ := q1
  subst ex
  cases r1
  have hst : PO X (some (.UnaryOp .USub (.Constant (.int 1) k p1) p2)) (tPart (tUn (rU fun i => .int (-i)) (tC (.int 1)))) := po_some (pe_un un_neg pe_int)
  refine wpAny_Slice (thn (po_none.run pins s1 σ H1 (fun o H2 => o = none ∧ H2 = H1) I1 ⟨rfl, rfl⟩) fun vl s2 ⟨l, H2, I2, pl, el, e2⟩ => ?_)
  subst el e2
  refine thn (po_none.run pins s2 σ H2 (fun o H3 => o = none ∧ H3 = H2) I2 ⟨rfl, rfl⟩) fun vu s3 ⟨u, H3, I3, pu, eu, e3⟩ => ?_
  subst eu e3
  refine thn (hst.run pins s3 σ H3 (fun o H4 => o = some (-1) ∧ H4 = H3) I3 ⟨1, rfl, -1, rfl, rfl, rfl⟩) fun vs s4 ⟨o, H4, I4, ps, eo, e4⟩ => ?_
  subst eo e4
  have I5 : Inv X pins σ H4 { s4 with heap := s4.heap.push { cls := .type "slice", data := .fields #[vl, vu, vs] } } := I4.kept (t' := s4.toks) fun b ob q => Heap.get?_push_of_some _ q
  obtain ⟨its, r, ht, hz⟩ := I5.tuple hx
  have hlen := r.length
  show wpAny (model X.prog X.w) X.A (subscriptTail e (.Slice none none (some (.UnaryOp .USub (.Constant (.int 1) k p1) p2)) p3) (.ref a) (.ref s4.heap.objs.size)) (EP X pins σ Q) X.xe { s4 with heap := s4.heap.push { cls := .type "slice", data := .fields #[vl, vu, vs] } }
  refine tail_any (ops := [.ref a, .ref s4.heap.objs.size]) ht.typeIs PyProof.Rows.slot_tuple_getitem.lookup ?_ (by with_unfolding_all rfl)
  refine getItem_tuple_rev ht (Heap.IsSliceOf.new _ vl vu vs) pl pu ps ?_ (by rw [List.size_toArray]; omega)
  refine ⟨.ref _, _, I5.laid (t' := s4.toks) (o := .tup xs.reverse) (fun b ob q => Heap.get?_push_of_some _ q) (Nat.le_refl _) ?_, rfl, q _ (I5.hok.fresh (Nat.le_refl _))⟩
  exact ⟨by rw [List.length_reverse]; exact hz, _, r.reverse, IsTup.new _ _⟩
end
/-! ## t * k of a tuple, k some thousands -/
section
open PySem PySem.Spec PyProof.Rows L2
variable {X : Cx}
def rRepB (K : PySem.W.Frag) : R2 := fun x y H Q => ∃ l xs, ∃ k : Nat, x = .ref l ∧ y = .int k ∧ SqT K H l xs ∧ xs ≠ [] ∧ 2 ≤ k ∧ k ≤ 10000 ∧ xs.length ≤ 100 ∧ ∀ p, H p = none → Q (.ref p) (upd H p (.tup (List.replicate k xs).flatten))
theorem repB (K : PySem.W.Frag) (hK : X.K = K := by rfl) : OpR X (binaryOp .Mult) (rRepB K) := by
  subst hK
  intro pins s σ H x y v u Q I rx ry h
  obtain ⟨l, xs, k, rfl, rfl, hT, hne, h1, h2, hz, q⟩ := h
  cases rx
  obtain ⟨t, rfl⟩ := ry
  obtain ⟨its, r, ⟨⟨cls, dd, data, sl⟩, ho, hc, n, hd⟩, hs⟩ := I.tuple hT
  simp only at hc hd
  subst hc hd
  have hle : its.length = xs.length := r.length.symm
  have hb : xs.length * k ≤ 1000000 := Nat.le_trans (Nat.mul_le_mul hz h2) (by decide)
  have hi : its.toArray.isEmpty = false := by
    cases its with
    | nil => exact absurd (List.eq_nil_of_length_eq_zero hle.symm) hne
    | cons a b => rfl
  have hm : ((its.toArray.size : Nat) : Int) * ((k : Nat) : Int) ≤ 1000000 := by
    rw [List.size_toArray, hle]
    have : (((xs.length * k : Nat)) : Int) ≤ 1000000 := by omega
    rw [Int.natCast_mul] at this
    exact this
  have fl : ∀ ys : List Value, ys.length = xs.length → (List.replicate k ys).flatten.length ≤ sizeLine := fun ys e => by
    rw [lm_len_rep_flat, e]
    exact szl' (by rw [Nat.mul_comm]; exact hb)
  have fv : (List.replicate k xs).flatten.length ≤ sizeLine := by
    rw [lm_len_rep_flat]
    exact szl' (by rw [Nat.mul_comm]; exact hb)
  have ek : ((k : Nat) : Int).toNat = k := Int.toNat_natCast k
  have d1 : (decide (((k : Nat) : Int) < -(2 ^ 63)) || decide (((k : Nat) : Int) ≥ 2 ^ 63)) = false := by
    rw [decide_eq_false (by omega), decide_eq_false (by omega)]
    rfl
  have d2 : (its.toArray.isEmpty || ((k : Nat) : Int) == 1) = false := by
    rw [hi]
    exact beq_eq_false_iff_ne.mpr (by omega)
  have d3 : (decide (((k : Nat) : Int) ≤ 0) || its.toArray.isEmpty) = false := by
    rw [hi, decide_eq_false (by omega)]
    rfl
  have d4 : Builtin.Tuple.tupleTooMany (((its.toArray.size : Nat) : Int) * ((k : Nat) : Int)) = false := by
    unfold Builtin.Tuple.tupleTooMany
    rw [sizeLine_eq]
    exact decide_eq_false (by omega)
  have d5 := tuple_mulW l its.toArray n dd sl ((k : Nat) : Int) t d1 d2 d3 (by omega) d4 (by rw [size_rep, List.size_toArray, ek]; exact fl its hle)
  refine wpAny_binaryOp_repeat_ref (T := "tuple") (U := "int") (by decide) ⟨_, ho, rfl⟩ (fun s' => typeIs_int s' _ t) noFill_tuple_mul F.fills_int_mul F.slot_int_rmul repeat_tuple F.slot_int_index.lookup ?_
  refine call_meets F.slot_int_rmul (typeIs_int s _ t) F.entry_int_rmul (F.args_int_rmul_2 _ _) (int_rmul_tuple _ t l its.toArray n dd sl) ⟨ho, rfl, ⟨_, ho, rfl⟩, ?_⟩
  refine call_meets F.slot_tuple_mul ⟨_, ho, rfl⟩ F.entry_tuple_mul (F.args_tuple_mul_2 _ _) d5 ⟨ho, ?_⟩
  rw [size_rep, ek]
  exact ⟨.ref s.heap.objs.size, _, I.laid (t' := s.toks) (o := .tup (List.replicate k xs).flatten) (fun b ob q => Heap.get?_push_of_some _ q) (Nat.le_refl _) ⟨fv, _, r.rep k, IsTup.new _ _⟩, rfl, q _ (I.hok.fresh (Nat.le_refl _))⟩
end
end Lt

set_option Elab.async false
set_option linter.all false
set_option maxRecDepth 100000
set_option maxHeartbeats 8000000
namespace Lt
open PySem PySem.Spec PyProof.Rows L2
theorem takesN {X : Cx} : Takes X (fun _ _ _ _ => False) := fun _ _ x => by
  obtain ⟨_, _, _, _, _, _, _, _, _, _, _, _, _, _, _, _, z⟩ := x
  exact z.elim
/-- a clause's reading: what the body wishes of an error -/
def tTryAs (K : PySem.W.Frag) (C : Addr) (i : Nat) (tb : WX → TS) (ts : Addr → Value → Option Addr → TS) : TS := fun D σ H => tb (wAs K (.ref C) i ts (fun _ _ _ _ => False) D) D σ H
theorem Tp.qi_inv {H : Hp} {v : V} {q : Qi} (h : Tp H v (dqi q)) : ∃ u, v = .ref u ∧ H u = some (.tup [.int q.a, .int q.d, .int q.b, .int q.c]) := by
  obtain ⟨u, us, rfl, hu, tu⟩ := h.tup_inv
  have eu : us = [.int q.a, .int q.d, .int q.b, .int q.c] := Tps.ints_inv (ns := [q.a, q.d, q.b, q.c]) tu
  subst eu
  exact ⟨u, rfl, hu⟩
theorem Tp.qi {H : Hp} {u : Addr} {q : Qi} (h : H u = some (.tup [.int q.a, .int q.d, .int q.b, .int q.c])) : Tp H (.ref u) (dqi q) := .tup h (.cons (.int _) (.cons (.int _) (.cons (.int _) (.cons (.int _) .nil))))
theorem noT {A B : Prop} {x y : Str} (e : x = y) (h : B) : if (!decide (V.str x = V.str y)) = true then A else B := by
  subst e
  rw [decide_eq_true rfl]
  exact iteF h
theorem noV {A B : Prop} {x y : V} (e : x = y) (h : B) : if (!decide (x = y)) = true then A else B := by
  subst e
  rw [decide_eq_true rfl]
  exact iteF h
section
variable {P : Program} {w : World} {K : PySem.W.Frag} {mg : Str → Option Value} {base : Heap} {f : Addr} {fd : FuncData}
def spUndone : Sp := fun vs H Q _ => ∃ (v : V) (ds : List PyData), vs = [v] ∧ Tp H v (.tuple ds) ∧ Ret H (.tuple ds.reverse) Q
theorem Tps.rev {H : Hp} : ∀ {vs : List V} {ds : List PyData}, Tps H vs ds → Tps H vs.reverse ds.reverse
  | _, _, .nil => .nil
  | _, _, .cons a t => by
    rw [List.reverse_cons, List.reverse_cons]
    exact (Tps.rev t).app (Tps.one a)
/-- the law's own look at any quadruple -/
def spFaultW : Sp := fun vs H Q _ => ∃ (v vd : V) (n : Nat) (ps : List Pr) (q : Qi), vs = [v, vd] ∧ OfWeb H v n ps ∧ Tp H vd (dqi q) ∧ Ret H (errQ n (tied ps) q.a q.d q.b q.c) Q
def rd__law_fault_1 (K : PySem.W.Frag) : TS := (tIfS (tOr (tNot (tB (tCB (rIsi K) (tCons (tVar 1) (tCons (tC (.ty "tuple")) tNil))))) (tTest (tOp rNe (tCB (rLen K) (tCons (tVar 1) tNil)) (tC (.int 4))))) (tRet (tC (.str "form"))) tNext)
def rd__law_fault_2_1 (K : PySem.W.Frag) : TS := (tIfS (tOr (tB (tCB (rIsi K) (tCons (tVar 2) (tCons (tC (.ty "bool")) tNil)))) (tOr (tNot (tB (tCB (rIsi K) (tCons (tVar 2) (tCons (tC (.ty "int")) tNil))))) (tOr (tTest (tOp rLtI (tVar 2) (tC (.int 0)))) (tTest (tOp rGeI (tVar 2) (tOp (rIxT K) (tVar 0) (tC (.int 0)))))))) (tRet (tC (.str "form"))) tNext)
def rdS__law_fault_2_1 (K : PySem.W.Frag) : TS := rd__law_fault_2_1 K
def rd__law_fault_2 (K : PySem.W.Frag) : TS := tFor (iTup K (tVar 1)) (gName 2) (rdS__law_fault_2_1 K)
def rd__law_fault_3 (K : PySem.W.Frag) : TS := (tAsg (tVar 1) (gTup K 4 (gCons (gName 3) (gCons (gName 4) (gCons (gName 5) (gCons (gName 6) gNil))))))
def rd__law_fault_4 (K : PySem.W.Frag) : TS := (tIfS (tTest (tOp rLtI (tLenSetT K (tVar 1)) (tC (.int 4)))) (tRet (tC (.str "alike"))) tNext)
def rd__law_fault_5 (K : PySem.W.Frag) : TS := (tIfS (tNot (tB (tCall spTellW [] E0 (tCons (tVar 0) (tCons (tVar 5) (tCons (tVar 3) (tCons (tVar 4) tNil))))))) (tRet (tTup (tCons (tC (.str "teller")) (tCons (tC (.int 2)) tNil)))) tNext)
def rd__law_fault_6 (K : PySem.W.Frag) : TS := (tRet (tIf (tB (tCall spTellW [] E0 (tCons (tVar 0) (tCons (tVar 6) (tCons (tVar 3) (tCons (tVar 4) tNil)))))) (tC .non) (tTup (tCons (tC (.str "teller")) (tCons (tC (.int 3)) tNil)))))
def rdS__law_fault_6 (K : PySem.W.Frag) : TS := rd__law_fault_6 K
def rdS__law_fault_5 (K : PySem.W.Frag) : TS := tSeq (rd__law_fault_5 K) (rdS__law_fault_6 K)
def rdS__law_fault_4 (K : PySem.W.Frag) : TS := tSeq (rd__law_fault_4 K) (rdS__law_fault_5 K)
def rdS__law_fault_3 (K : PySem.W.Frag) : TS := tSeq (rd__law_fault_3 K) (rdS__law_fault_4 K)
def rdS__law_fault_2 (K : PySem.W.Frag) : TS := tSeq (rd__law_fault_2 K) (rdS__law_fault_3 K)
def rdS__law_fault_1 (K : PySem.W.Frag) : TS := tSeq (rd__law_fault_1 K) (rdS__law_fault_2 K)
section
variable {D : Ends} {H : Hp} {y0 y2 : Option V} {T : List (Option V)} {n : Nat} {ps : List Pr} {q : Qi} {wa u t : Addr}
theorem flt_1 (hu : H u = some (.tup [.int q.a, .int q.d, .int q.b, .int q.c])) (k : D.nx (y0 :: some (.ref u) :: T) H) : rd__law_fault_1 K D (y0 :: some (.ref u) :: T) H := by
  refine ⟨_, rfl, _, _, .type "tuple", .type "tuple", true, rfl, .ty _, .base (.tup hu), kit_ty (by decide +kernel), _, rfl, iteF ?_⟩
  exact ⟨_, rfl, u, _, rfl, .inr (SqT.of hu), rfl, _, rfl, iteF k⟩
theorem flt_2 (ha : H wa = some (.tup [.int n, .ref t])) (hu : H u = some (.tup [.int q.a, .int q.d, .int q.b, .int q.c])) (k0 : ([q.a, q.d, q.b, q.c].all fun i => inR n i) = false → D.rt (.str "form") H) (k1 : ([q.a, q.d, q.b, q.c].all fun i => inR n i) = true → ∀ y2, D.nx (some (.ref wa) :: some (.ref u) :: y2 :: T) H) :
    rd__law_fault_2 K D (some (.ref wa) :: some (.ref u) :: y2 :: T) H := by
  have no : ∀ x ∈ [q.a, q.d, q.b, q.c], inR n x = false → ([q.a, q.d, q.b, q.c].all fun i => inR n i) = false := fun x m e => by
    cases c : ([q.a, q.d, q.b, q.c].all fun i => inR n i) with
    | false => rfl
    | true =>
      have := List.all_eq_true.mp c x m
      rw [e] at this
      cases this
  refine ⟨_, rfl, u, rfl, ⟨_, SqT.of hu⟩, ?_⟩
  refine for_tup (K := K) (a := u) (xs := [q.a, q.d, q.b, q.c].map V.int) (fun i σ H' => (∃ y2, σ = some (.ref wa) :: some (.ref u) :: y2 :: T) ∧ H' = H ∧ ∀ x ∈ [q.a, q.d, q.b, q.c].take i, inR n x = true) ⟨⟨y2, rfl⟩, rfl, fun _ m => absurd m List.not_mem_nil⟩ (fun i σ H' _ ⟨_, e, _⟩ => SqT.of (e ▸ hu)) ?_ ?_
  · rintro i y σ H1 ey ⟨⟨z2, rfl⟩, rfl, ih⟩
    rw [List.getElem?_map] at ey
    obtain ⟨x, ex, rfl⟩ := Option.map_eq_some_iff.mp ey
    have mx := List.mem_of_getElem? ex
    refine ⟨_, rfl, _, _, .type "int", .type "bool", false, rfl, .ty _, .base (.int _), kit_ty (by decide +kernel), _, rfl, iteF ?_⟩
    refine ⟨_, rfl, _, _, .type "int", .type "int", true, rfl, .ty _, .base (.int _), kit_ty (by decide +kernel), _, rfl, iteF ?_⟩
    refine ⟨_, rfl, _, _, rfl, rfl, _, rfl, ite2 (fun c => ?_) (fun c => ?_)⟩
    · exact k0 (no x mx (decide_eq_false (by have := of_decide_eq_true c; omega)))
    refine ⟨_, rfl, _, rfl, wa, _, 0, _, rfl, rfl, SqT.of ha, atI_nat (j := 0) rfl, _, _, rfl, rfl, _, rfl, ite2 (fun c2 => ?_) (fun c2 => ?_)⟩
    · exact k0 (no x mx (decide_eq_false (by have := of_decide_eq_true c2; omega)))
    · refine ⟨⟨_, rfl⟩, rfl, fun z mz => ?_⟩
      rw [List.take_add_one, ex] at mz
      rcases List.mem_append.mp mz with mz | mz
      · exact ih z mz
      · have : z = x := by simpa using mz
        subst this
        have d1 : ¬ z < 0 := fun y => c (decide_eq_true y)
        have d2 : ¬ (n : Int) ≤ z := fun y => c2 (decide_eq_true y)
        exact decide_eq_true (by omega)
  · rintro σ H1 ⟨⟨z2, rfl⟩, rfl, ih⟩
    exact k1 (List.all_eq_true.mpr ih) z2
theorem flt_4 {a d b c : Int} (hu : H u = some (.tup [.int a, .int d, .int b, .int c])) (k0 : ¬ [a, d, b, c].Nodup → D.rt (.str "alike") H) (k1 : [a, d, b, c].Nodup → D.nx (y0 :: some (.ref u) :: T) H) : rd__law_fault_4 K D (y0 :: some (.ref u) :: T) H := by
  refine ⟨_, rfl, u, [a, d, b, c], rfl, SqT.of hu, (by decide : 4 ≤ 1000), fun L hL hm => ?_⟩
  have hs := set_len hL hm
  refine ⟨_, _, rfl, rfl, _, rfl, ite2 (fun c => ?_) (fun c => ?_)⟩
  · have c' := of_decide_eq_true c
    exact k0 (hs.mp (by show L.length < 4; omega))
  · refine k1 (Classical.byContradiction fun z => c (decide_eq_true ?_))
    have := hs.mpr z
    have : L.length < 4 := this
    omega
end
theorem ok_fault (F : FnP K "_law_fault" s__law_fault f fd) (g_len : mg "len" = none) (g_isinstance : mg "isinstance" = none) (g_tuple : mg "tuple" = none) (g_bool : mg "bool" = none) (g_set : mg "set" = none) (g_int : mg "int" = none) {f__law_tells : Addr} {fd__law_tells : FuncData} (F__law_tells : FnP K "_law_tells" s__law_tells f__law_tells fd__law_tells) (m__law_tells : mg "_law_tells" = some (.ref f__law_tells)) (G__law_tells : FnG P w K mg base CX0 2 f__law_tells fd__law_tells ["web", "place", "one", "other"] spTellW) : FnG P w K mg base CX0 3 f fd ["web", "value"] spFaultW := by
  have b__law_tells : Binds K fd__law_tells ["web", "place", "one", "other"] [] := F__law_tells.bindsN fun _ _ _ _ _ _ us hl => match us, hl with | [_, _, _, _], _ => rfl
  refine okG0 F sc__law_fault (fun vs H Q E h => ?_) (fun cdv A outer s H vs Q E hS hr h => ?_)
  · obtain ⟨_, _, _, _, _, rfl, _⟩ := h
    rfl
  · obtain ⟨v, vd, n, ps, q, rfl, ⟨hv, hw⟩, hd, k⟩ := h
    refine ⟨rdS__law_fault_1 K, (pss_cons (ps_if (PW.pt (pw_or (pt_not (pt_val (pe_callB (isiK K) (by rfl) g_isinstance (by decide +kernel) (pa_cons (pv 1) (pa_cons (pe_bltn (v := .ty "tuple") (by rfl) g_tuple rfl rfl) pa_nil))))) (pw_or1 (pt_cmpR op_ne (pe_callB (lenK K) (by rfl) g_len (by decide +kernel) (pa_cons (pv 1) pa_nil)) pe_int (nomark _))))) (pss_one (ps_ret pe_str)) pss_nil)
      (pss_cons (ps_for PassesOwn.never rfl (pi_tup (pv 1)) (pg_name (i := 2) sc__law_fault.nd rfl (Or.inl rfl)) (pss_one (ps_if (PW.pt (pw_or (pt_val (pe_callB (isiK K) (by rfl) g_isinstance (by decide +kernel) (pa_cons (pv 2) (pa_cons (pe_bltn (v := .ty "bool") (by rfl) g_bool rfl rfl) pa_nil)))) (pw_or (pt_not (pt_val (pe_callB (isiK K) (by rfl) g_isinstance (by decide +kernel) (pa_cons (pv 2) (pa_cons (pe_bltn (v := .ty "int") (by rfl) g_int rfl rfl) pa_nil))))) (pw_or (pt_cmpR op_lt (pv 2) pe_int (nomark _)) (pw_or1 (pt_cmpR op_ge (pv 2) (pe_ix (ixT K) (pv 0) pe_int (fun _ _ => rfl)) (nomark _))))))) (pss_one (ps_ret pe_str)) pss_nil)))
      (pss_cons (ps_asg (pv 1) (pg_tupK K (n := 4) (by rfl) (pgs_cons (pg_name (i := 3) sc__law_fault.nd rfl (Or.inl rfl)) (pgs_cons (pg_name (i := 4) sc__law_fault.nd rfl (Or.inl rfl)) (pgs_cons (pg_name (i := 5) sc__law_fault.nd rfl (Or.inl rfl)) (pgs_cons (pg_name (i := 6) sc__law_fault.nd rfl (Or.inl rfl)) pgs_nil))))))
      (pss_cons (ps_if (pt_cmpR op_lt (pe_lenSetT K rfl (by rfl) g_len (by rfl) g_set (pv 1)) pe_int (nomark _)) (pss_one (ps_ret pe_str)) pss_nil)
      (pss_cons (ps_if (pt_not (pt_val (pe_callG G__law_tells hS (hr.mono (by decide)) (by rfl) m__law_tells F__law_tells.kp b__law_tells .nil pass0 (pa_cons (pv 0) (pa_cons (pv 5) (pa_cons (pv 3) (pa_cons (pv 4) pa_nil))))))) (pss_one (ps_ret (pe_tup (pa_cons pe_str (pa_cons pe_int pa_nil))))) pss_nil)
      (pss_one (ps_ret (pe_ifExp (pt_val (pe_callG G__law_tells hS (hr.mono (by decide)) (by rfl) m__law_tells F__law_tells.kp b__law_tells .nil pass0 (pa_cons (pv 0) (pa_cons (pv 6) (pa_cons (pv 3) (pa_cons (pv 4) pa_nil)))))) pe_non (pe_tup (pa_cons pe_str (pa_cons pe_int pa_nil))))))))))), ?_⟩
    obtain ⟨u, rfl, hu⟩ := hd.qi_inv
    obtain ⟨wa, t, xs, rfl, ha, ht, hx⟩ := hv.web_inv
    refine flt_1 (K := K) hu ?_
    refine flt_2 (K := K) ha hu (fun e => k H _ Fr.refl (by unfold errQ; rw [if_pos e]; exact .str _)) fun e y2 => ?_
    obtain ⟨qa, qd, qb, qc⟩ := q
    have hR := e
    simp only [List.all_cons, List.all_nil, Bool.and_true, Bool.and_eq_true, decide_eq_true_eq] at hR
    obtain ⟨a', ea⟩ := Int.eq_ofNat_of_zero_le hR.1.1
    obtain ⟨d', ed⟩ := Int.eq_ofNat_of_zero_le hR.2.1.1
    obtain ⟨b', eb⟩ := Int.eq_ofNat_of_zero_le hR.2.2.1.1
    obtain ⟨c', ec⟩ := Int.eq_ofNat_of_zero_le hR.2.2.2.1
    subst ea ed eb ec
    refine ⟨_, rfl, u, _, rfl, SqT.of hu, rfl, _, _, rfl, _, _, rfl, _, _, rfl, _, _, rfl, rfl, ?_⟩
    refine flt_4 (K := K) hu (fun e2 => k H _ Fr.refl (by unfold errQ; rw [if_neg (by rw [e]; simp), if_pos e2]; exact .str _)) fun e2 => ?_
    have fin : ∀ {d : PyData}, (tellB (tied ps) b' a' d' = false → d = .tuple [.str "teller", .int 2]) → (tellB (tied ps) b' a' d' = true → tellB (tied ps) c' a' d' = false → d = .tuple [.str "teller", .int 3]) → (tellB (tied ps) b' a' d' = true → tellB (tied ps) c' a' d' = true → d = .none) → errQ n (tied ps) a' d' b' c' = d := fun h1 h2 h3 => by
      unfold errQ
      rw [if_neg (by rw [e]; simp), if_neg (Classical.not_not.mpr e2)]
      simp only [Int.toNat_natCast]
      by_cases g1 : tellB (tied ps) b' a' d' = false
      · rw [if_pos g1]
        exact (h1 g1).symm
      · have g1' : tellB (tied ps) b' a' d' = true := by simpa using g1
        rw [if_neg g1]
        by_cases g2 : tellB (tied ps) c' a' d' = false
        · rw [if_pos g2]
          exact (h2 g1' g2).symm
        · have g2' : tellB (tied ps) c' a' d' = true := by simpa using g2
          rw [if_neg g2]
          exact (h3 g1' g2').symm
    refine ⟨_, rfl, _, rfl, _, rfl, _, rfl, .ref wa, n, ps, b', a', d', rfl, ⟨hv, hw⟩, by omega, by omega, by omega, fun H1 f1 => ⟨_, rfl, ?_⟩⟩
    cases g1 : tellB (tied ps) b' a' d' with
    | false =>
      refine iteT ⟨szl (Nat.le_of_ble_eq_true rfl), fun z hz => k _ _ (f1.add hz) ?_⟩
      rw [show errQ n (tied ps) ((a' : Nat) : Int) ((d' : Nat) : Int) ((b' : Nat) : Int) ((c' : Nat) : Int) = .tuple [.str "teller", .int 2] from fin (fun _ => rfl) (fun z => by rw [g1] at z; cases z) (fun z => by rw [g1] at z; cases z)]
      exact .tup upd_same (.cons (.str _) (.cons (.int _) .nil))
    | true =>
      refine iteF ?_
      refine ⟨_, rfl, _, rfl, _, rfl, _, rfl, .ref wa, n, ps, c', a', d', rfl, ⟨hv.fr f1, hw⟩, by omega, by omega, by omega, fun H2 f2 => ⟨_, rfl, ?_⟩⟩
      cases g2 : tellB (tied ps) c' a' d' with
      | false =>
        refine iteF ⟨szl (Nat.le_of_ble_eq_true rfl), fun z hz => k _ _ ((f1.trans f2).add hz) ?_⟩
        rw [show errQ n (tied ps) ((a' : Nat) : Int) ((d' : Nat) : Int) ((b' : Nat) : Int) ((c' : Nat) : Int) = .tuple [.str "teller", .int 3] from fin (fun z => by rw [g1] at z; cases z) (fun _ _ => rfl) (fun _ z => by rw [g2] at z; cases z)]
        exact .tup upd_same (.cons (.str _) (.cons (.int _) .nil))
      | true =>
        refine iteT (k _ _ (f1.trans f2) ?_)
        rw [show errQ n (tied ps) ((a' : Nat) : Int) ((d' : Nat) : Int) ((b' : Nat) : Int) ((c' : Nat) : Int) = .none from fin (fun z => by rw [g1] at z; cases z) (fun _ z => by rw [g2] at z; cases z) (fun _ _ => rfl)]
        exact .non
end
end Lt

set_option Elab.async false
set_option linter.all false
set_option maxRecDepth 100000
set_option maxHeartbeats 4000000
namespace Lt
open PySem PySem.Spec PyProof.Rows L2
/-! ## data with lists in it, none of which is one of S -/
mutual
inductive Dz (S : List Addr) (H : Hp) : V → PyData → Prop
  | non : Dz S H .non .none
  | bl (b : Bool) : Dz S H (.bl b) (.bool b)
  | int (i : Int) : Dz S H (.int i) (.int i)
  | str (x : Str) : Dz S H (.str x) (.str x)
  | tup {a : Addr} {xs : List V} {ds : List PyData} : H a = some (.tup xs) → DzA S H xs ds → Dz S H (.ref a) (.tuple ds)
  | lst {a : Addr} {xs : List V} {ds : List PyData} : H a = some (.lst xs) → a ∉ S → DzA S H xs ds → Dz S H (.ref a) (.list ds)
inductive DzA (S : List Addr) (H : Hp) : List V → List PyData → Prop
  | nil : DzA S H [] []
  | cons {v : V} {vs : List V} {d : PyData} {ds : List PyData} : Dz S H v d → DzA S H vs ds → DzA S H (v :: vs) (d :: ds)
end
section
variable {K : PySem.W.Frag} {S : List Addr} {H H1 : Hp}
mutual
theorem Dz.dp : ∀ {d : PyData} {v : V}, Dz S H v d → Dp K H v d
  | _, _, .non => .non
  | _, _, .bl b => .bl b
  | _, _, .int i => .int i
  | _, _, .str x => .str x
  | _, _, .tup h t => .tup (SqT.of h) (DzA.dp t)
  | _, _, .lst h _ t => .lst (SqL.of h) (DzA.dp t)
theorem DzA.dp : ∀ {ds : List PyData} {vs : List V}, DzA S H vs ds → DpAll K H vs ds
  | _, _, .nil => .nil
  | _, _, .cons a b => .cons (Dz.dp a) (DzA.dp b)
end
mutual
theorem Dz.fr (f : Fr S H H1) : ∀ {d : PyData} {v : V}, Dz S H v d → Dz S H1 v d
  | _, _, .non => .non
  | _, _, .bl b => .bl b
  | _, _, .int i => .int i
  | _, _, .str x => .str x
  | _, _, .tup h t => .tup (f.tups _ _ h) (DzA.fr f t)
  | _, _, .lst h n t => .lst (f.keep _ _ h n) n (DzA.fr f t)
theorem DzA.fr (f : Fr S H H1) : ∀ {ds : List PyData} {vs : List V}, DzA S H vs ds → DzA S H1 vs ds
  | _, _, .nil => .nil
  | _, _, .cons a b => .cons (Dz.fr f a) (DzA.fr f b)
end
mutual
theorem Dz.no : ∀ {d : PyData} {v : V}, Dz S H v d → Dz [] H v d
  | _, _, .non => .non
  | _, _, .bl b => .bl b
  | _, _, .int i => .int i
  | _, _, .str x => .str x
  | _, _, .tup h t => .tup h (DzA.no t)
  | _, _, .lst h n t => .lst h List.not_mem_nil (DzA.no t)
theorem DzA.no : ∀ {ds : List PyData} {vs : List V}, DzA S H vs ds → DzA [] H vs ds
  | _, _, .nil => .nil
  | _, _, .cons a b => .cons (Dz.no a) (DzA.no b)
end
mutual
theorem Tp.dz : ∀ {d : PyData} {v : V}, Tp H v d → Dz S H v d
  | _, _, .non => .non
  | _, _, .bl b => .bl b
  | _, _, .int i => .int i
  | _, _, .str x => .str x
  | _, _, .tup h t => .tup h (Tps.dz t)
theorem Tps.dz : ∀ {ds : List PyData} {vs : List V}, Tps H vs ds → DzA S H vs ds
  | _, _, .nil => .nil
  | _, _, .cons a b => .cons (Tp.dz a) (Tps.dz b)
end
theorem DzA.length : ∀ {vs : List V} {ds : List PyData}, DzA S H vs ds → vs.length = ds.length
  | _, _, .nil => rfl
  | _, _, .cons _ t => congrArg (· + 1) (DzA.length t)
theorem DzA.mem : ∀ {vs : List V} {ds : List PyData} {v : V}, DzA S H vs ds → v ∈ vs → ∃ d, Dz S H v d
  | _, _, _, .nil, m => absurd m List.not_mem_nil
  | _, _, _, .cons a t, m => by
    rcases List.mem_cons.mp m with rfl | m
    · exact ⟨_, a⟩
    · exact DzA.mem t m
end
/-! ## the kind of a value -/
inductive Ty1 (S : List Addr) (H : Hp) : V → String → Prop
  | non : Ty1 S H .non "NoneType"
  | bl (b : Bool) : Ty1 S H (.bl b) "bool"
  | int (i : Int) : Ty1 S H (.int i) "int"
  | str (x : Str) : Ty1 S H (.str x) "str"
  | tup {a : Addr} {xs : List V} : H a = some (.tup xs) → Ty1 S H (.ref a) "tuple"
  | lst {a : Addr} {xs : List V} : H a = some (.lst xs) → a ∉ S → Ty1 S H (.ref a) "list"
  | dK {a : Addr} {kvs : List (Key × V)} : H a = some (.dK kvs) → a ∉ S → Ty1 S H (.ref a) "dict"
section
variable {K : PySem.W.Frag} {S : List Addr} {H H1 : Hp} {v : V} {t : String} {d : PyData}
theorem Ty1.of (h : Ty1 S H v t) : TyX K H v (.type t) := by
  cases h with
  | non => exact .base .non
  | bl b => exact .base (.bl b)
  | int i => exact .base (.int i)
  | str x => exact .base (.str x)
  | tup e => exact .base (.tup e)
  | lst e _ => exact .base (.lst e)
  | dK e _ => exact .base (.dK e)
theorem Ty1.fr (f : Fr S H H1) (h : Ty1 S H v t) : Ty1 S H1 v t := by
  cases h with
  | non => exact .non
  | bl b => exact .bl b
  | int i => exact .int i
  | str x => exact .str x
  | tup e => exact .tup (f.tups _ _ e)
  | lst e n => exact .lst (f.keep _ _ e n) n
  | dK e n => exact .dK (f.keep _ _ e n) n
theorem Ty1.no (h : Ty1 S H v t) : Ty1 [] H v t := by
  cases h with
  | non => exact .non
  | bl b => exact .bl b
  | int i => exact .int i
  | str x => exact .str x
  | tup e => exact .tup e
  | lst e n => exact .lst e List.not_mem_nil
  | dK e n => exact .dK e List.not_mem_nil
theorem Dz.ty (h : Dz S H v d) : ∃ t, Ty1 S H v t := by
  cases h with
  | non => exact ⟨_, .non⟩
  | bl b => exact ⟨_, .bl b⟩
  | int i => exact ⟨_, .int i⟩
  | str x => exact ⟨_, .str x⟩
  | tup e _ => exact ⟨_, .tup e⟩
  | lst e n _ => exact ⟨_, .lst e n⟩
end
/-- type(x), of dicts, too -/
def zTyW (x : V) (H : Hp) : Option String := match x with
  | .ref p => (match H p with
    | some (.dK _) => some "dict"
    | _ => zTyV (.ref p) H)
  | y => zTyV y H
def kTypW (x : V) (H : Hp) (Q : VK) : Prop := ∃ n, zTyW x H = some n ∧ Q (.ty n) H
theorem Ty1.ty {S : List Addr} {H : Hp} {v : V} {t : String} (h : Ty1 S H v t) : zTyW v H = some t := by
  cases h with
  | non => rfl
  | bl b => rfl
  | int i => rfl
  | str x => rfl
  | tup e => simp only [zTyW, zTyV, e]
  | lst e n => simp only [zTyW, zTyV, e]
  | dK e n => simp only [zTyW, e]
section
variable {X : Cx}
theorem rl_typeW (pins : List (Addr × Obj)) (s : Shared) (σ : Slots) (H : Hp) (x : V) (v : Value) (Q : VK) (I : Inv X pins σ H s) (r : RelV x v) (h : kTypW x H Q) : wpAny (model X.prog X.w) X.A (call (.type "type") [v]) (EP X pins σ Q) X.xe s := by
  obtain ⟨n, e, q⟩ := h
  cases x with
  | ref p =>
    cases ho : H p with
    | none =>
      simp only [zTyW, ho] at e
      exact rl_type pins s σ H _ v Q I r ⟨n, e, q⟩
    | some o =>
      cases o with
      | dK kvs =>
        simp only [zTyW, ho] at e
        cases e
        cases (show v = Value.ref p from r)
        obtain ⟨_, _, _, _, ob, es, ep, g, ex, _⟩ := I.hok p _ ho
        exact call_type_of (Tx := "dict") ⟨ob, g, ex.1⟩ (by decide +kernel) ⟨.ty "dict", H, I, rfl, q⟩
      | _ =>
        simp only [zTyW, ho] at e
        exact rl_type pins s σ H _ v Q I r ⟨n, e, q⟩
  | _ => exact rl_type pins s σ H _ v Q I r ⟨n, e, q⟩
theorem pe_typeW {a : Expr} {ta : TE} {p pos : Pos} (hg : Gl X "type") (hm : X.mg "type" = none) (ha : PE X a ta) (na : starEach [a] X.env = (false, eval a X.env) :: starEach [] X.env := by rfl) :
    PE X (.Call (.Name "type" p) [a] [] pos) (tThenZ ta kTypW) := pe_callTy (call_r1 rl_typeW) hg hm (by decide +kernel) (pa_cons ha pa_nil na) (he := na)
/-! ## a list with a dict in it, shown -/
/-- a list display; the new list is not the table of modules -/
def tLstS (t : TA) : TE := fun σ H Q => t σ H fun xs H1 => xs.length ≤ sizeLine ∧ ∀ p, H1 p = none → p ≠ sysModules → Q (.ref p) (upd H1 p (.lst xs))
theorem pe_lstS {es : List Expr} {t : TA} {pos : Pos} (items : PA X es t) : PE X (.List es pos) (tLstS t) := by
  constructor
  intro pins s σ H Q inv want
  apply wpAny_List_spliced
  apply thn (items.run pos pins s σ H _ inv want)
  rintro us now ⟨xs, G, J, rel, room, go⟩
  have free : G now.heap.objs.size = none := J.hok.fresh (Nat.le_refl _)
  have big := Nat.ne_of_gt J.big
  have ok : ObjOk X.prog X.w (upd G now.heap.objs.size (.lst xs)) (now.heap.push { cls := .type "list", data := .seq us.toArray 0 }) now.heap.objs.size (.lst xs) := ⟨room, us, 0, rel, Heap.get?_push_size _ rfl⟩
  refine ⟨by rw [← rel.length]; exact room, .ref now.heap.objs.size, upd G now.heap.objs.size (.lst xs), ?_, rfl, go _ free big⟩
  exact J.laid (t' := now.toks) (fun _ _ old => Heap.get?_push_of_some _ old) (Nat.le_refl _) ok
mutual
/-- no list, no dict -/
def tupOnly : PyData → Bool
  | .none | .bool _ | .int _ | .str _ => true
  | .tuple xs => tupOnlyA xs
  | .list _ | .dict _ => false
def tupOnlyA : List PyData → Bool
  | [] => true
  | x :: xs => tupOnly x && tupOnlyA xs
end
mutual
theorem reads_nil {h : Heap} : ∀ {d : PyData} {v : Value} {as : List Addr}, tupOnly d = true → Reads h v d as → as = []
  | .none, _, _, _, .none => rfl
  | .bool _, _, _, _, .bool _ => rfl
  | .int _, _, _, _, .int _ _ => rfl
  | .str _, _, _, _, .str _ _ => rfl
  | .tuple ds, _, _, c, .tuple _ _ _ t => reads_nilA (by unfold tupOnly at c; exact c) t
theorem reads_nilA {h : Heap} : ∀ {ds : List PyData} {vs : List Value} {as : List Addr}, tupOnlyA ds = true → ReadsAll h vs ds as → as = []
  | [], _, _, _, .nil => rfl
  | d :: ds, _, _, c, .cons a t => by
    unfold tupOnlyA at c
    obtain ⟨c1, c2⟩ := Bool.and_eq_true_iff.mp c
    rw [reads_nil c1 a, reads_nilA c2 t]
    rfl
end
end

/-! ## sizes, with long numbers -/
structure Sy (d : PyData) : Prop where
  sh : d.showable = true
  ls : d.leavesShort 40 = true
  dep : d.depth ≤ 60
  wt : d.weight ≤ 100000
theorem Sy.shown {d : PyData} (h : Sy d) : d.shown.length ≤ sizeLine := by
  have h1 := PyData.shown_le 40 (by decide) d h.ls
  have h2 := h.wt
  rw [sizeLine_eq]
  omega
/-- a value: data with lists, or a dict of one number -/
def Vd (S : List Addr) (H : Hp) (v : V) (d : PyData) : Prop := Dz S H v d ∨ ∃ (D : Addr) (k x : Int), v = .ref D ∧ d = .dict [(.int k, .int x)] ∧ D ∉ S ∧ H D = some (.dK [(Sum.inl k, .int x)])
theorem Vd.fr {S : List Addr} {H H1 : Hp} {v : V} {d : PyData} (f : Fr S H H1) (h : Vd S H v d) : Vd S H1 v d := by
  rcases h with h | ⟨D, k, x, h1, h2, h3, h4⟩
  · exact .inl (h.fr f)
  · exact .inr ⟨D, k, x, h1, h2, h3, f.keep _ _ h4 h3⟩
theorem Vd.no {S : List Addr} {H : Hp} {v : V} {d : PyData} (h : Vd S H v d) : Vd [] H v d := by
  rcases h with h | ⟨D, k, x, h1, h2, h3, h4⟩
  · exact .inl h.no
  · exact .inr ⟨D, k, x, h1, h2, List.not_mem_nil, h4⟩
mutual
theorem Dz.nodict {S : List Addr} {H : Hp} : ∀ {d : PyData} {v : V}, Dz S H v d → d.hasDict = false
  | _, _, .non => rfl
  | _, _, .bl b => rfl
  | _, _, .int i => rfl
  | _, _, .str x => rfl
  | _, _, .tup h t => by
    unfold PyData.hasDict
    exact DzA.nodict t
  | _, _, .lst h _ t => by
    unfold PyData.hasDict
    exact DzA.nodict t
theorem DzA.nodict {S : List Addr} {H : Hp} : ∀ {ds : List PyData} {vs : List V}, DzA S H vs ds → PyData.hasDictAll ds = false
  | _, _, .nil => rfl
  | _, _, .cons a b => by
    unfold PyData.hasDictAll
    rw [Dz.nodict a, DzA.nodict b]
    rfl
end
/-- repr of a list of two, the first a tuple, the other one any value -/
def rReprY (K : PySem.W.Frag) : List V → Hp → VK → Prop := fun xs H Q => ∃ (L : Addr) (w v : V) (e d : PyData), xs = [.ref L] ∧ L ≠ sysModules ∧ H L = some (.lst [w, v]) ∧ Dz [] H w e ∧ tupOnly e = true ∧ Vd [] H v d ∧ Sy (.list [e, d]) ∧ Q (.str (txt (.list [e, d]))) H
section
variable {X : Cx}
theorem call_reprY (hg : Still X.A) (hu : X.A.units + 80 < cLine) : CallR X (.builtin "repr") (rReprY X.K) := by
  intro pins s σ H vs us Q I r h
  obtain ⟨L, w, v, e, d, rfl, hL, eL, hw, ht, hv, hy, q⟩ := h
  obtain ⟨u, rfl, ru⟩ := vals1 r
  cases (show u = Value.ref L from ru)
  rw [txt_eq] at q
  obtain ⟨its, rv, ⟨o, n, ho, hc, _, hd⟩, _⟩ := I.list (SqL.of eL)
  cases rv with
  | @cons _ u1 _ us1 r1 rv2 =>
  cases rv2 with
  | @cons _ u2 _ us2 r2 rv3 =>
  cases rv3
  obtain ⟨as1, d1⟩ := Dp.reads I e w u1 hw.dp r1
  have ea := reads_nil ht d1
  subst ea
  have hdep := hy.dep
  have fin : ∀ {as2 : List Addr}, Reads s.heap u2 d as2 → (d.hasDict = true → sysModules ∉ as2) → wpAny (model X.prog X.w) X.A (call (.builtin "repr") [.ref L]) (EP X pins σ Q) X.xe s := fun {as2} d2 hs => by
    refine repr_of_reads' (.list ho hc hd (.cons d1 (.cons d2 .nil))) hy.sh ?_ hg (by omega) (fun _ _ e => e) ?_ hy.shown
    · intro hh hm
      have hh2 : d.hasDict = true := by
        have e1 : e.hasDict = false := hw.nodict
        simpa [PyData.hasDict, PyData.hasDictAll, e1] using hh
      rcases List.mem_cons.mp hm with z | z
      · exact hL z.symm
      · rw [List.nil_append, List.append_nil] at z
        exact hs hh2 z
    · intro h' u tk hk
      exact ⟨.str _, H, I.kept hk, ⟨_, rfl⟩, q⟩
  rcases hv with hv | ⟨D, k, x, rfl, rfl, _, eD⟩
  · obtain ⟨as2, d2⟩ := Dp.reads I d v u2 hv.dp r2
    exact fin d2 (fun z => by rw [hv.nodict] at z; cases z)
  · cases (show u2 = Value.ref D from r2)
    obtain ⟨_, hD, vs, kv, ob, es, ep, g, ex, ed, _, pr, _⟩ := I.hok D _ eD
    cases kv with
    | @cons _ q1 _ qs h1 kt =>
    cases kt
    obtain ⟨h11, h12⟩ := h1
    obtain ⟨kk, uu⟩ := q1
    dsimp only at h11 h12
    subst h11
    obtain ⟨t2, rfl⟩ := (show ∃ t, uu = Value.int x t from h12)
    cases hes : es.toList with
    | nil =>
      rw [hes] at pr
      cases pr
    | cons en er =>
      rw [hes] at pr
      cases pr with
      | cons p1 p2 p3 =>
        cases p3
        have hk : ∃ t, en.key = Value.int k t := by
          rcases keyIs_shape (show keyIs (Sum.inl k) en.key = true from p1) with ⟨i, t, a1, a2⟩ | ⟨y, t, a1, a2⟩
          · cases a1
            exact ⟨t, a2⟩
          · cases a1
        obtain ⟨t1, hk⟩ := hk
        refine fin (as2 := D :: [] ++ []) (.dict g ex.1 ed ?_ ?_) (fun _ m => ?_)
        · rw [hes]
          show ReadsAll _ [en.key] [.int k] []
          rw [hk]
          exact .cons (.int k t1) .nil
        · rw [hes]
          show ReadsAll _ [en.val] [.int x] []
          rw [p2]
          exact .cons (.int x t2) .nil
        · have : sysModules = D := by simpa using m
          rw [← this] at hD
          simp at hD
theorem reprYK (hg : Still X.A) (hu : X.A.units + 80 < cLine) (K : PySem.W.Frag) (h : X.K = K := by rfl) : CallR X (.builtin "repr") (rReprY K) := h ▸ call_reprY hg hu
end
theorem FnG.alt {P : Program} {w : World} {K : PySem.W.Frag} {mg : Str → Option Value} {base : Heap} {CX : CXT} {k : Nat} {f : Addr} {fd : FuncData} {ps : List Str} {sp sq : Sp} (F : FnG P w K mg base CX k f fd ps sp) (G : FnG P w K mg base CX k f fd ps sq) :
    FnG P w K mg base CX k f fd ps (fun vs H Q E => sp vs H Q E ∨ sq vs H Q E) :=
  ⟨fun vs H Q E h => h.elim (F.arity vs H Q E) (G.arity vs H Q E), fun A outer s H args us vs Q E a b c d e h => h.elim (F.go A outer s H args us vs Q E a b c d e) (G.go A outer s H args us vs Q E a b c d e)⟩
abbrev cStrI : List V → Hp → VK → Prop := fun xs H Q => ∃ i, xs = [.int i] ∧ i.natAbs.log2 < 1920 ∧ Q (.str (toString i)) H

section
variable {S S' : List Addr} {H : Hp} {D : Addr}
mutual
theorem Dz.mono (h : ∀ a ∈ S', a ∈ S) : ∀ {d : PyData} {v : V}, Dz S H v d → Dz S' H v d
  | _, _, .non => .non
  | _, _, .bl b => .bl b
  | _, _, .int i => .int i
  | _, _, .str x => .str x
  | _, _, .tup e t => .tup e (DzA.mono h t)
  | _, _, .lst e n t => .lst e (fun m => n (h _ m)) (DzA.mono h t)
theorem DzA.mono (h : ∀ a ∈ S', a ∈ S) : ∀ {ds : List PyData} {vs : List V}, DzA S H vs ds → DzA S' H vs ds
  | _, _, .nil => .nil
  | _, _, .cons a b => .cons (Dz.mono h a) (DzA.mono h b)
end
mutual
theorem Dz.off (n0 : H D = none) : ∀ {d : PyData} {v : V}, Dz S H v d → Dz (D :: S) H v d
  | _, _, .non => .non
  | _, _, .bl b => .bl b
  | _, _, .int i => .int i
  | _, _, .str x => .str x
  | _, _, .tup e t => .tup e (DzA.off n0 t)
  | _, _, .lst e n t => .lst e (fun m => (List.mem_cons.mp m).elim (fun z => by
      rw [z, n0] at e
      cases e) n) (DzA.off n0 t)
theorem DzA.off (n0 : H D = none) : ∀ {ds : List PyData} {vs : List V}, DzA S H vs ds → DzA (D :: S) H vs ds
  | _, _, .nil => .nil
  | _, _, .cons a b => .cons (Dz.off n0 a) (DzA.off n0 b)
end
end
/-! ## how much of data there is -/
structure Sq (n w : Nat) (d : PyData) : Prop where
  sh : d.showable = true
  ls : d.leavesShort 40 = true
  dep : d.depth ≤ n
  wt : d.weight ≤ w
theorem Sq.up {n w n' w' : Nat} {d : PyData} (h : Sq n w d) (hn : n ≤ n') (hw : w ≤ w') : Sq n' w' d := ⟨h.sh, h.ls, Nat.le_trans h.dep hn, Nat.le_trans h.wt hw⟩
theorem Sq.int {i : Int} (h : i.natAbs < 10 ^ 12) : Sq 0 64 (.int i) := by
  have s := Sm.int h
  refine ⟨s.sh, ?_, s.dep, s.wt⟩
  unfold PyData.leavesShort
  exact decide_eq_true (Nat.le_trans (PyData.shown_int_le h) (by decide))
theorem Sq.nat {i : Nat} (h : i < 10 ^ 12) : Sq 0 64 (.int i) := Sq.int (by simpa using h)
theorem Sq.bl (b : Bool) : Sq 0 0 (.bool b) := ⟨rfl, rfl, Nat.le_refl _, Nat.le_refl _⟩
theorem Sq.non : Sq 0 0 .none := ⟨rfl, rfl, Nat.le_refl _, Nat.le_refl _⟩
theorem sq_all {n w : Nat} : ∀ {ds : List PyData}, (∀ d ∈ ds, Sq n w d) → PyData.depthAll ds ≤ n ∧ PyData.weightAll ds ≤ ds.length * (w + 1) ∧ PyData.showableAll ds = true ∧ PyData.leavesShortAll 40 ds = true
  | [], _ => ⟨Nat.zero_le _, by unfold PyData.weightAll; omega, rfl, rfl⟩
  | d :: ds, h => by
    obtain ⟨a2, a3, a4, a5⟩ := sq_all fun e m => h e (List.mem_cons_of_mem _ m)
    have b := h d List.mem_cons_self
    refine ⟨?_, ?_, ?_, ?_⟩
    · unfold PyData.depthAll
      exact Nat.max_le.mpr ⟨b.dep, a2⟩
    · unfold PyData.weightAll
      have := b.wt
      rw [List.length_cons, Nat.add_mul]
      omega
    · unfold PyData.showableAll
      rw [b.sh, a4]
      rfl
    · unfold PyData.leavesShortAll
      rw [b.ls, a5]
      rfl
theorem Sq.tup {n w m : Nat} {ds : List PyData} (h : ∀ d ∈ ds, Sq n w d) (hm : ds.length ≤ m) : Sq (n + 1) (m * (w + 1)) (.tuple ds) := by
  obtain ⟨a2, a3, a4, a5⟩ := sq_all h
  refine ⟨a4, a5, ?_, ?_⟩
  · unfold PyData.depth
    omega
  · unfold PyData.weight
    exact Nat.le_trans a3 (Nat.mul_le_mul_right _ hm)
theorem Sq.lst {n w m : Nat} {ds : List PyData} (h : ∀ d ∈ ds, Sq n w d) (hm : ds.length ≤ m) : Sq (n + 1) (m * (w + 1)) (.list ds) := by
  obtain ⟨a2, a3, a4, a5⟩ := sq_all h
  refine ⟨a4, a5, ?_, ?_⟩
  · unfold PyData.depth
    omega
  · unfold PyData.weight
    exact Nat.le_trans a3 (Nat.mul_le_mul_right _ hm)
mutual
theorem ls_up : ∀ d : PyData, d.leavesShort 13 = true → d.leavesShort 40 = true
  | .none, _ => rfl
  | .bool _, _ => rfl
  | .int i, h => by
    unfold PyData.leavesShort at h ⊢
    exact decide_eq_true (Nat.le_trans (of_decide_eq_true h) (by decide))
  | .str x, h => by
    unfold PyData.leavesShort at h ⊢
    exact h
  | .list xs, h => by
    unfold PyData.leavesShort at h ⊢
    exact ls_upA xs h
  | .tuple xs, h => by
    unfold PyData.leavesShort at h ⊢
    exact ls_upA xs h
  | .dict kvs, h => by
    unfold PyData.leavesShort at h ⊢
    exact ls_upK kvs h
theorem ls_upA : ∀ ds : List PyData, PyData.leavesShortAll 13 ds = true → PyData.leavesShortAll 40 ds = true
  | [], _ => rfl
  | d :: ds, h => by
    unfold PyData.leavesShortAll at h ⊢
    obtain ⟨h1, h2⟩ := Bool.and_eq_true_iff.mp h
    rw [ls_up d h1, ls_upA ds h2]
    rfl
theorem ls_upK : ∀ ds : List (PyData × PyData), PyData.leavesShortKv 13 ds = true → PyData.leavesShortKv 40 ds = true
  | [], _ => rfl
  | (k, v) :: ds, h => by
    unfold PyData.leavesShortKv at h ⊢
    obtain ⟨h1, h2⟩ := Bool.and_eq_true_iff.mp h
    obtain ⟨h3, h4⟩ := Bool.and_eq_true_iff.mp h1
    rw [ls_up k h3, ls_up v h4, ls_upK ds h2]
    rfl
end
theorem Sm.sq {n w : Nat} {d : PyData} (h : Sm n w d) : Sq n w d := ⟨h.sh, ls_up d (PyData.leavesShort_of_canLay0 13 d h.lay h.ls), h.dep, h.wt⟩
theorem Sq.dict {n w : Nat} {a b : PyData} (h1 : Sq n w a) (h2 : Sq n w b) : Sq (n + 1) (2 * w + 2) (.dict [(a, b)]) := by
  refine ⟨?_, ?_, ?_, ?_⟩
  · simp only [PyData.showable, PyData.showableKv, h1.sh, h2.sh, Bool.and_self]
  · simp only [PyData.leavesShort, PyData.leavesShortKv, h1.ls, h2.ls, Bool.and_self]
  · have e1 := h1.dep
    have e2 := h2.dep
    simp only [PyData.depth, PyData.depthKv]
    omega
  · have e1 := h1.wt
    have e2 := h2.wt
    simp only [PyData.weight, PyData.weightKv]
    omega
/-- a web beside a value -/
theorem sy_two {a b : PyData} (h1 : Sq 3 60000 a) (h2 : Sq 4 2000 b) : Sy (.list [a, b]) := by
  have h := Sq.lst (n := 4) (w := 0) (m := 0) (ds := []) (fun _ m => absurd m List.not_mem_nil) (Nat.le_refl _)
  refine ⟨?_, ?_, ?_, ?_⟩
  · simp [PyData.showable, PyData.showableAll, h1.sh, h2.sh]
  · simp [PyData.leavesShort, PyData.leavesShortAll, h1.ls, h2.ls]
  · have e1 := h1.dep
    have e2 := h2.dep
    simp only [PyData.depth, PyData.depthAll]
    omega
  · have e1 := h1.wt
    have e2 := h2.wt
    simp only [PyData.weight, PyData.weightAll]
    omega
/-- a value of some size -/
def GoodV (S : List Addr) (H : Hp) (y : V) : Prop := ∃ e, Vd S H y e ∧ Sq 4 2000 e
theorem GoodV.fr {S : List Addr} {H H1 : Hp} {y : V} (f : Fr S H H1) (h : GoodV S H y) : GoodV S H1 y := h.elim fun e q => ⟨e, q.1.fr f, q.2⟩
theorem Vd.mono {S S' : List Addr} {H : Hp} {v : V} {e : PyData} (h : ∀ a ∈ S', a ∈ S) (x : Vd S H v e) : Vd S' H v e := by
  rcases x with x | ⟨D, k, y, a, b, c, d⟩
  · exact .inl (x.mono h)
  · exact .inr ⟨D, k, y, a, b, fun m => c (h _ m), d⟩
theorem GoodV.mono {S S' : List Addr} {H : Hp} {y : V} (h : ∀ a ∈ S', a ∈ S) (x : GoodV S H y) : GoodV S' H y := x.elim fun e q => ⟨e, q.1.mono h, q.2⟩
/-- an item of a value -/
def Item (S : List Addr) (H : Hp) (y : V) : Prop := ∃ e, Dz S H y e ∧ Sq 1 200 e
theorem Item.fr {S : List Addr} {H H1 : Hp} {y : V} (f : Fr S H H1) (h : Item S H y) : Item S H1 y := h.elim fun e q => ⟨e, q.1.fr f, q.2⟩
theorem Item.off {S : List Addr} {H : Hp} {D : Addr} {y : V} (n0 : H D = none) (h : Item S H y) : Item (D :: S) H y := h.elim fun e q => ⟨e, q.1.off n0, q.2⟩
end Lt

set_option Elab.async false
set_option linter.all false
set_option maxRecDepth 100000
set_option maxHeartbeats 8000000
namespace Lt
open PySem PySem.Spec PyProof.Rows L2
/-! ## values that are no quadruples of ints -/
inductive Off (S : List Addr) (H : Hp) : V → Prop
  | kind {v : V} {t : String} : Ty1 S H v t → t ≠ "tuple" → Off S H v
  | len {u : Addr} {xs : List V} : H u = some (.tup xs) → xs.length ≠ 4 → Off S H (.ref u)
  | item {u : Addr} {xs : List V} : H u = some (.tup xs) → xs.length = 4 → (∀ x ∈ xs, ∃ t, Ty1 S H x t) → (∃ x ∈ xs, ∀ i, x ≠ .int i) → Off S H (.ref u)
theorem Off.fr {S : List Addr} {H H1 : Hp} {v : V} (f : Fr S H H1) (h : Off S H v) : Off S H1 v := by
  cases h with
  | kind a b => exact .kind (a.fr f) b
  | len a b => exact .len (f.tups _ _ a) b
  | item a b c d =>
    refine .item (f.tups _ _ a) b (fun x m => ?_) d
    obtain ⟨t, ht⟩ := c x m
    exact ⟨t, ht.fr f⟩
theorem ints_of : ∀ {xs : List V}, (∀ x ∈ xs, ∃ i, x = .int i) → ∃ ns : List Int, xs = ns.map V.int
  | [], _ => ⟨[], rfl⟩
  | x :: xs, h => by
    obtain ⟨i, rfl⟩ := h x List.mem_cons_self
    obtain ⟨ns, rfl⟩ := ints_of fun y m => h y (List.mem_cons_of_mem _ m)
    exact ⟨i :: ns, rfl⟩
/-- every value is one or the other -/
theorem Vd.sort {S : List Addr} {H : Hp} {v : V} {d : PyData} (h : Vd S H v d) : (∃ q : Qi, Tp H v (dqi q)) ∨ Off S H v := by
  rcases h with h | ⟨D, k, x, rfl, rfl, h3, h4⟩
  · cases h with
    | non => exact .inr (.kind .non (by decide))
    | bl b => exact .inr (.kind (.bl b) (by decide))
    | int i => exact .inr (.kind (.int i) (by decide))
    | str x => exact .inr (.kind (.str x) (by decide))
    | lst e n _ => exact .inr (.kind (.lst e n) (by decide))
    | @tup a xs ds e t =>
      by_cases c : xs.length = 4
      · by_cases c2 : ∀ x ∈ xs, ∃ i, x = V.int i
        · obtain ⟨ns, rfl⟩ := ints_of c2
          rw [List.length_map] at c
          match ns, c with
          | [a1, a2, a3, a4], _ => exact .inl ⟨⟨a1, a2, a3, a4⟩, Tp.qi e⟩
        · refine .inr (.item e c (fun x m => ?_) ?_)
          · obtain ⟨dx, hx⟩ := t.mem m
            exact hx.ty
          · obtain ⟨x, hx⟩ := Classical.not_forall.mp c2
            obtain ⟨m, hx⟩ := Classical.not_imp.mp hx
            exact ⟨x, m, fun i e => hx ⟨i, e⟩⟩
      · exact .inr (.len e c)
  · exact .inr (.kind (.dK h4 h3) (by decide))
/-- whether a value is one of n places -/
def placeV (n : Nat) : V → Bool
  | .int i => inR n i
  | _ => false
theorem ty_int {S : List Addr} {H : Hp} {v : V} {t : String} (h : Ty1 S H v t) : (∃ i, v = .int i ∧ t = "int") ∨ ((∀ i, v ≠ .int i) ∧ t ≠ "int") := by
  cases h with
  | int i => exact .inl ⟨i, rfl, rfl⟩
  | _ => exact .inr ⟨(fun _ z => nomatch z), by decide⟩
section
variable {P : Program} {w : World} {K : PySem.W.Frag} {mg : Str → Option Value} {base : Heap} {f : Addr} {fd : FuncData}
def spPlaceG : Sp := fun vs H Q _ => ∃ (n : Nat) (v : V) (t : String), vs = [.int n, v] ∧ Ty1 [] H v t ∧ Q (.bl (placeV n v)) H
theorem ok_is_placeG (F : FnP K "is_place" s_is_place f fd) (g_int : mg "int" = none) (g_type : mg "type" = none) : FnG P w K mg base CX0 1 f fd ["many", "value"] spPlaceG := by
  refine okG0 F sc_is_place (fun vs H Q E h => ?_) (fun cdv A outer s H vs Q E hS hr h => ?_)
  · obtain ⟨_, _, _, rfl, _⟩ := h
    rfl
  · obtain ⟨n, v, t, rfl, ht, q⟩ := h
    refine ⟨_, (pss_one (ps_ret (pe_and (pe_cmpR op_isTy (pe_typeW (by rfl) g_type (pv 1)) (pe_bltn (v := .ty "int") (by rfl) g_int rfl rfl) (nomark _)) (pe_one (pe_chain op_le op_lt pe_int (pv 1) (pv 0)))))), ?_⟩
    refine ⟨_, rfl, t, ht.ty, _, _, rfl, rfl, _, rfl, ?_⟩
    rcases ty_int ht with ⟨i, rfl, rfl⟩ | ⟨h1, h2⟩
    · rw [decide_eq_true rfl]
      refine iteT ?_
      refine ⟨_, rfl, _, _, rfl, rfl, _, rfl, ite2 (fun c => ?_) (fun c => ?_)⟩
      · refine ⟨_, rfl, _, _, rfl, rfl, ?_⟩
        have c' : (0 : Int) ≤ i := of_decide_eq_true c
        have e : decide (i < (n : Int)) = inR n i := by simp [inR, c']
        show Q (V.bl (decide (i < (n : Int)))) H
        rw [e]
        exact q
      · have c' : ¬ (0 : Int) ≤ i := fun z => c (decide_eq_true z)
        have e : inR n i = false := by simp [inR, c']
        show Q (V.bl false) H
        rw [← e]
        exact q
    · rw [decide_eq_false h2]
      refine iteF ?_
      have e : placeV n v = false := by
        cases v with
        | int i => exact absurd rfl (h1 i)
        | _ => rfl
      rw [e] at q
      exact q
def spQuadOff : Sp := fun vs H Q _ => ∃ (n : Nat) (v : V), vs = [.int n, v] ∧ Off [] H v ∧ ∀ H', Fr [] H H' → Q (.bl false) H'
theorem ok_is_quadOff (F : FnP K "is_quadruple" s_is_quadruple f fd) (g_tuple : mg "tuple" = none) (g_all : mg "all" = none) (g_type : mg "type" = none) (g_len : mg "len" = none) {f_is_place : Addr} {fd_is_place : FuncData} (F_is_place : FnP K "is_place" s_is_place f_is_place fd_is_place) (m_is_place : mg "is_place" = some (.ref f_is_place)) (G_is_place : FnG P w K mg base CX0 1 f_is_place fd_is_place ["many", "value"] spPlaceG) : FnG P w K mg base CX0 2 f fd ["many", "value"] spQuadOff := by
  have b_is_place : Binds K fd_is_place ["many", "value"] [] := F_is_place.bindsN fun _ _ _ _ _ _ us hl => match us, hl with | [_, _], _ => rfl
  refine okG0 F sc_is_quadruple (fun vs H Q E h => ?_) (fun cdv A outer s H vs Q E hS hr h => ?_)
  · obtain ⟨_, _, rfl, _⟩ := h
    rfl
  · obtain ⟨n, v, rfl, ho, q⟩ := h
    refine ⟨_, (pss_one (ps_ret (pe_and (pe_cmpR op_isTy (pe_typeW (by rfl) g_type (pv 1)) (pe_bltn (v := .ty "tuple") (by rfl) g_tuple rfl rfl) (nomark _)) (pe_and (pe_cmpR op_eq (pe_callB (lenK K) (by rfl) g_len (by decide +kernel) (pa_cons (pv 1) pa_nil)) pe_int (nomark _)) (pe_one (pe_callB (allK K rfl) (by rfl) g_all (by decide +kernel) (pa_cons (pe_lc (own := [("item", 2)]) (g := (gName 2)) (tt := tYes) rfl sc_is_quadruple.nd (pi_tup (pv 1)) (blkOk_by (own := [("item", 2)]) (N := N_is_quadruple) (sc := defScope s_is_quadruple) (by decide +kernel)) (fun _ _ _ _ _ => (pg_name (i := 2) sc_is_quadruple.nd rfl (Or.inl rfl))) (fun _ _ _ _ _ => pts_nil) (fun _ _ _ _ _ => (pe_callG G_is_place hS (hr.mono (by decide)) (by rfl) m_is_place F_is_place.kp b_is_place .nil pass0 (pa_cons (pv 0) (pa_cons (pv 2) pa_nil))))) pa_nil))))))), ?_⟩
    cases ho with
    | @kind _ t ht hn =>
      refine ⟨_, rfl, t, ht.ty, _, _, rfl, rfl, _, rfl, ?_⟩
      rw [decide_eq_false hn]
      exact iteF (q H Fr.refl)
    | @len u xs hu hl =>
      refine ⟨_, rfl, "tuple", (Ty1.tup (S := []) hu).ty, _, _, rfl, rfl, _, rfl, ?_⟩
      rw [decide_eq_true rfl]
      refine iteT ⟨_, rfl, u, _, rfl, .inr (SqT.of hu), rfl, _, rfl, ?_⟩
      rw [decide_eq_false (fun z => hl (by
        have : ((xs.length : Nat) : Int) = 4 := by injection z
        omega))]
      exact iteF (q H Fr.refl)
    | @item u xs hu hl hx hb =>
      refine ⟨_, rfl, "tuple", (Ty1.tup (S := []) hu).ty, _, _, rfl, rfl, _, rfl, ?_⟩
      rw [decide_eq_true rfl]
      refine iteT ⟨_, rfl, u, _, rfl, .inr (SqT.of hu), rfl, _, rfl, ?_⟩
      rw [hl]
      refine iteT ⟨_, rfl, u, rfl, ⟨_, SqT.of hu⟩, fun D hD => ?_⟩
      have C : LcC [] (fun _ => True) H D := ⟨hD, List.not_mem_nil, fun _ _ h => h⟩
      refine lct (M := fun k ds => ds = (xs.take k).map fun x => PyData.bool (placeV n x)) C hu trivial rfl ?_ ?_
      · intro k x H2 zs ds ex L
        have hk : k < 4 := by
          have := (List.getElem?_eq_some_iff.mp ex).1
          omega
        obtain ⟨t, ht⟩ := hx x (List.mem_of_getElem? ex)
        refine ⟨rfl, tyes ⟨_, rfl, _, rfl, n, x, t, rfl, ht.fr L.fr, ?_⟩⟩
        exact L.put C (d := .bool (placeV n x)) (by omega) Fr.refl trivial (.bl _) (by rw [L.m, List.take_add_one, ex, List.map_append]; rfl)
      · intro H2 zs ds L
        have em := L.m
        rw [List.take_length] at em
        have td := L.dat
        rw [em, show (xs.map fun x => PyData.bool (placeV n x)) = ((xs.map fun x => placeV n x).map PyData.bool) from (List.map_map).symm] at td
        have ez := bools_inv td
        have ea := L.at_
        rw [ez] at ea
        refine ⟨D, xs.map fun x => placeV n x, rfl, SqL.of ea, ?_⟩
        have e : ((xs.map fun x => placeV n x).all id) = false := by
          obtain ⟨x, m, hx⟩ := hb
          cases c : ((xs.map fun x => placeV n x).all id) with
          | false => rfl
          | true =>
            have h1 := List.all_eq_true.mp c (placeV n x) (List.mem_map.mpr ⟨x, m, rfl⟩)
            cases x with
            | int i => exact absurd rfl (hx i)
            | _ => cases h1
        rw [e]
        exact q H2 L.fr
def spErrOff : Sp := fun vs H Q _ => ∃ (t : Addr) (v : V) (rows : List Addr) (n : Nat) (g : Nat → Nat → Bool), vs = [.ref t, v] ∧ Tab H t rows n g ∧ Off [] H v ∧ Ret H (.str "form") Q
theorem ok_errorOff (F : FnP K "error_in" s_error_in f fd) (g_len : mg "len" = none) (g_set : mg "set" = none) {f_is_quadruple : Addr} {fd_is_quadruple : FuncData} (F_is_quadruple : FnP K "is_quadruple" s_is_quadruple f_is_quadruple fd_is_quadruple) (m_is_quadruple : mg "is_quadruple" = some (.ref f_is_quadruple)) {f_tells_apart : Addr} {fd_tells_apart : FuncData} (F_tells_apart : FnP K "tells_apart" s_tells_apart f_tells_apart fd_tells_apart) (m_tells_apart : mg "tells_apart" = some (.ref f_tells_apart)) (G_is_quadruple : FnG P w K mg base CX0 2 f_is_quadruple fd_is_quadruple ["many", "value"] spQuadOff) (G_tells_apart : FnG P w K mg base CX0 1 f_tells_apart fd_tells_apart ["table", "place", "one", "other"] spTells) : FnG P w K mg base CX0 3 f fd ["table", "value"] spErrOff := by
  have b_is_quadruple : Binds K fd_is_quadruple ["many", "value"] [] := F_is_quadruple.bindsN fun _ _ _ _ _ _ us hl => match us, hl with | [_, _], _ => rfl
  have b_tells_apart : Binds K fd_tells_apart ["table", "place", "one", "other"] [] := F_tells_apart.bindsN fun _ _ _ _ _ _ us hl => match us, hl with | [_, _, _, _], _ => rfl
  refine okG0 F sc_error_in (fun vs H Q E h => ?_) (fun cdv A outer s H vs Q E hS hr h => ?_)
  · obtain ⟨_, _, _, _, _, rfl, _⟩ := h
    rfl
  · obtain ⟨t, v, rows, n, g, rfl, tb, ho, k⟩ := h
    refine ⟨_, (pss_cons (ps_if (pt_not (pt_val (pe_callG G_is_quadruple hS (hr.mono (by decide)) (by rfl) m_is_quadruple F_is_quadruple.kp b_is_quadruple .nil pass0 (pa_cons (pe_callB (lenK K) (by rfl) g_len (by decide +kernel) (pa_cons (pv 0) pa_nil)) (pa_cons (pv 1) pa_nil))))) (pss_one (ps_ret pe_str)) pss_nil)
      (pss_cons (ps_if (pt_cmpR op_lt (pe_lenSetT K rfl (by rfl) g_len (by rfl) g_set (pv 1)) pe_int (nomark _)) (pss_one (ps_ret pe_str)) pss_nil)
      (pss_cons (ps_for PassesOwn.never rfl (pi_tup (pe_tup (pa_cons pe_int (pa_cons pe_int pa_nil)))) (pg_name (i := 2) sc_error_in.nd rfl (Or.inl rfl)) (pss_one (ps_if (pt_not (pt_val (pe_callG G_tells_apart hS (hr.mono (by decide)) (by rfl) m_tells_apart F_tells_apart.kp b_tells_apart .nil pass0 (pa_cons (pv 0) (pa_cons (pe_ix (ixT K) (pv 1) (pv 2) (fun _ _ => rfl)) (pa_cons (pe_ix (ixT K) (pv 1) pe_int (fun _ _ => rfl)) (pa_cons (pe_ix (ixT K) (pv 1) pe_int (fun _ _ => rfl)) pa_nil))))))) (pss_one (ps_ret (pe_tup (pa_cons pe_str (pa_cons (pv 2) pa_nil))))) pss_nil)))
      (pss_one (ps_ret pe_non))))), ?_⟩
    refine ⟨_, rfl, t, _, rfl, .inl (SqL.of tb.at_), _, rfl, rows.length, v, by rw [List.length_map]; rfl, ho, fun H1 f1 => ⟨_, rfl, iteT (k H1 _ f1 (.str _))⟩⟩
def spDeedI : Sp := fun vs H Q _ => ∃ (v vq : V) (n : Nat) (ps : List Pr) (q : Qi), vs = [v, vq] ∧ OfWeb H v n ps ∧ Tp H vq (dqi q) ∧ Ret H (errQ n (tied ps) q.a q.d q.b q.c) Q
def spDeedOff : Sp := fun vs H Q _ => ∃ (v vq : V) (n : Nat) (ps : List Pr), vs = [v, vq] ∧ OfWeb H v n ps ∧ Off [] H vq ∧ Ret H (.str "form") Q
theorem ok_deedI (F : FnP K "deed_error" s_deed_error f fd) {f_error_in : Addr} {fd_error_in : FuncData} (F_error_in : FnP K "error_in" s_error_in f_error_in fd_error_in) (m_error_in : mg "error_in" = some (.ref f_error_in)) {f_table_of : Addr} {fd_table_of : FuncData} (F_table_of : FnP K "table_of" s_table_of f_table_of fd_table_of) (m_table_of : mg "table_of" = some (.ref f_table_of)) (G_error_in : FnG P w K mg base CX0 3 f_error_in fd_error_in ["table", "value"] spErr) (G_table_of : FnG P w K mg base CX0 1 f_table_of fd_table_of ["web"] spTable) : FnG P w K mg base CX0 4 f fd ["web", "value"] spDeedI := by
  have b_error_in : Binds K fd_error_in ["table", "value"] [] := F_error_in.bindsN fun _ _ _ _ _ _ us hl => match us, hl with | [_, _], _ => rfl
  have b_table_of : Binds K fd_table_of ["web"] [] := F_table_of.bindsN fun _ _ _ _ _ _ us hl => match us, hl with | [_], _ => rfl
  refine okG0 F sc_deed_error (fun vs H Q E h => ?_) (fun cdv A outer s H vs Q E hS hr h => ?_)
  · obtain ⟨_, _, _, _, _, rfl, _⟩ := h
    rfl
  · obtain ⟨v, vq, n, ps, q, rfl, ⟨hv, hw⟩, hq, k⟩ := h
    refine ⟨_, (pss_one (ps_ret (pe_callG G_error_in hS (hr.mono (by decide)) (by rfl) m_error_in F_error_in.kp b_error_in .nil pass0 (pa_cons (pe_callG G_table_of hS (hr.mono (by decide)) (by rfl) m_table_of F_table_of.kp b_table_of .nil pass0 (pa_cons (pv 0) pa_nil)) (pa_cons (pv 1) pa_nil))))), ?_⟩
    obtain ⟨u, rfl, hu⟩ := hq.qi_inv
    refine ⟨_, rfl, v, n, ps, rfl, ⟨hv, hw⟩, fun H1 t rows f1 nt nr tb => ?_⟩
    exact ⟨_, rfl, t, u, rows, n, tied ps, q.a, q.d, q.b, q.c, rfl, tb, hw.hi, f1.tups _ _ hu, fun H2 r f2 tr => k H2 r (f1.trans f2) tr⟩
theorem ok_deedOff (F : FnP K "deed_error" s_deed_error f fd) {f_error_in : Addr} {fd_error_in : FuncData} (F_error_in : FnP K "error_in" s_error_in f_error_in fd_error_in) (m_error_in : mg "error_in" = some (.ref f_error_in)) {f_table_of : Addr} {fd_table_of : FuncData} (F_table_of : FnP K "table_of" s_table_of f_table_of fd_table_of) (m_table_of : mg "table_of" = some (.ref f_table_of)) (G_error_in : FnG P w K mg base CX0 3 f_error_in fd_error_in ["table", "value"] spErrOff) (G_table_of : FnG P w K mg base CX0 1 f_table_of fd_table_of ["web"] spTable) : FnG P w K mg base CX0 4 f fd ["web", "value"] spDeedOff := by
  have b_error_in : Binds K fd_error_in ["table", "value"] [] := F_error_in.bindsN fun _ _ _ _ _ _ us hl => match us, hl with | [_, _], _ => rfl
  have b_table_of : Binds K fd_table_of ["web"] [] := F_table_of.bindsN fun _ _ _ _ _ _ us hl => match us, hl with | [_], _ => rfl
  refine okG0 F sc_deed_error (fun vs H Q E h => ?_) (fun cdv A outer s H vs Q E hS hr h => ?_)
  · obtain ⟨_, _, _, _, rfl, _⟩ := h
    rfl
  · obtain ⟨v, vq, n, ps, rfl, ⟨hv, hw⟩, ho, k⟩ := h
    refine ⟨_, (pss_one (ps_ret (pe_callG G_error_in hS (hr.mono (by decide)) (by rfl) m_error_in F_error_in.kp b_error_in .nil pass0 (pa_cons (pe_callG G_table_of hS (hr.mono (by decide)) (by rfl) m_table_of F_table_of.kp b_table_of .nil pass0 (pa_cons (pv 0) pa_nil)) (pa_cons (pv 1) pa_nil))))), ?_⟩
    refine ⟨_, rfl, v, n, ps, rfl, ⟨hv, hw⟩, fun H1 t rows f1 nt nr tb => ?_⟩
    exact ⟨_, rfl, t, vq, rows, n, tied ps, rfl, tb, ho.fr f1, fun H2 r f2 tr => k H2 r (f1.trans f2) tr⟩
/-! ## the law's own look -/
def spFaultOff : Sp := fun vs H Q _ => ∃ (v vq : V) (n : Nat) (ps : List Pr), vs = [v, vq] ∧ OfWeb H v n ps ∧ Off [] H vq ∧ Ret H (.str "form") Q
theorem kit_tup {S : List Addr} {H : Hp} {v : V} {t : String} (h : Ty1 S H v t) (hn : t ≠ "tuple") : PySem.W.kitOne K (.type t) (.type "tuple") = some false := by
  cases h with
  | tup e => exact absurd rfl hn
  | _ => exact kit_ty (by decide +kernel)
theorem kit_item {S : List Addr} {H : Hp} {v : V} {t : String} (h : Ty1 S H v t) (hn : ∀ i, v ≠ .int i) : PySem.W.kitOne K (.type t) (.type "bool") = some true ∨ (PySem.W.kitOne K (.type t) (.type "bool") = some false ∧ PySem.W.kitOne K (.type t) (.type "int") = some false) := by
  cases h with
  | int i => exact absurd rfl (hn i)
  | bl b => exact .inl (kit_ty (by decide +kernel))
  | _ => exact .inr ⟨kit_ty (by decide +kernel), kit_ty (by decide +kernel)⟩
theorem ok_faultOff (F : FnP K "_law_fault" s__law_fault f fd) (g_len : mg "len" = none) (g_isinstance : mg "isinstance" = none) (g_tuple : mg "tuple" = none) (g_bool : mg "bool" = none) (g_set : mg "set" = none) (g_int : mg "int" = none) {f__law_tells : Addr} {fd__law_tells : FuncData} (F__law_tells : FnP K "_law_tells" s__law_tells f__law_tells fd__law_tells) (m__law_tells : mg "_law_tells" = some (.ref f__law_tells)) (G__law_tells : FnG P w K mg base CX0 2 f__law_tells fd__law_tells ["web", "place", "one", "other"] spTellW) : FnG P w K mg base CX0 3 f fd ["web", "value"] spFaultOff := by
  have b__law_tells : Binds K fd__law_tells ["web", "place", "one", "other"] [] := F__law_tells.bindsN fun _ _ _ _ _ _ us hl => match us, hl with | [_, _, _, _], _ => rfl
  refine okG0 F sc__law_fault (fun vs H Q E h => ?_) (fun cdv A outer s H vs Q E hS hr h => ?_)
  · obtain ⟨_, _, _, _, rfl, _⟩ := h
    rfl
  · obtain ⟨v, vd, n, ps, rfl, ⟨hv, hw⟩, ho, k⟩ := h
    refine ⟨rdS__law_fault_1 K, (pss_cons (ps_if (PW.pt (pw_or (pt_not (pt_val (pe_callB (isiK K) (by rfl) g_isinstance (by decide +kernel) (pa_cons (pv 1) (pa_cons (pe_bltn (v := .ty "tuple") (by rfl) g_tuple rfl rfl) pa_nil))))) (pw_or1 (pt_cmpR op_ne (pe_callB (lenK K) (by rfl) g_len (by decide +kernel) (pa_cons (pv 1) pa_nil)) pe_int (nomark _))))) (pss_one (ps_ret pe_str)) pss_nil)
      (pss_cons (ps_for PassesOwn.never rfl (pi_tup (pv 1)) (pg_name (i := 2) sc__law_fault.nd rfl (Or.inl rfl)) (pss_one (ps_if (PW.pt (pw_or (pt_val (pe_callB (isiK K) (by rfl) g_isinstance (by decide +kernel) (pa_cons (pv 2) (pa_cons (pe_bltn (v := .ty "bool") (by rfl) g_bool rfl rfl) pa_nil)))) (pw_or (pt_not (pt_val (pe_callB (isiK K) (by rfl) g_isinstance (by decide +kernel) (pa_cons (pv 2) (pa_cons (pe_bltn (v := .ty "int") (by rfl) g_int rfl rfl) pa_nil))))) (pw_or (pt_cmpR op_lt (pv 2) pe_int (nomark _)) (pw_or1 (pt_cmpR op_ge (pv 2) (pe_ix (ixT K) (pv 0) pe_int (fun _ _ => rfl)) (nomark _))))))) (pss_one (ps_ret pe_str)) pss_nil)))
      (pss_cons (ps_asg (pv 1) (pg_tupK K (n := 4) (by rfl) (pgs_cons (pg_name (i := 3) sc__law_fault.nd rfl (Or.inl rfl)) (pgs_cons (pg_name (i := 4) sc__law_fault.nd rfl (Or.inl rfl)) (pgs_cons (pg_name (i := 5) sc__law_fault.nd rfl (Or.inl rfl)) (pgs_cons (pg_name (i := 6) sc__law_fault.nd rfl (Or.inl rfl)) pgs_nil))))))
      (pss_cons (ps_if (pt_cmpR op_lt (pe_lenSetT K rfl (by rfl) g_len (by rfl) g_set (pv 1)) pe_int (nomark _)) (pss_one (ps_ret pe_str)) pss_nil)
      (pss_cons (ps_if (pt_not (pt_val (pe_callG G__law_tells hS (hr.mono (by decide)) (by rfl) m__law_tells F__law_tells.kp b__law_tells .nil pass0 (pa_cons (pv 0) (pa_cons (pv 5) (pa_cons (pv 3) (pa_cons (pv 4) pa_nil))))))) (pss_one (ps_ret (pe_tup (pa_cons pe_str (pa_cons pe_int pa_nil))))) pss_nil)
      (pss_one (ps_ret (pe_ifExp (pt_val (pe_callG G__law_tells hS (hr.mono (by decide)) (by rfl) m__law_tells F__law_tells.kp b__law_tells .nil pass0 (pa_cons (pv 0) (pa_cons (pv 6) (pa_cons (pv 3) (pa_cons (pv 4) pa_nil)))))) pe_non (pe_tup (pa_cons pe_str (pa_cons pe_int pa_nil))))))))))), ?_⟩
    have kf := k H _ Fr.refl (.str _)
    obtain ⟨wa, t, ws, rfl, ha, _, _⟩ := hv.web_inv
    cases ho with
    | @kind _ t ht hn => exact ⟨_, rfl, _, _, _, .type "tuple", false, rfl, .ty _, ht.of, kit_tup ht hn, _, rfl, iteT kf⟩
    | @len u xs hu hl =>
      refine ⟨_, rfl, _, _, .type "tuple", .type "tuple", true, rfl, .ty _, .base (.tup hu), kit_ty (by decide +kernel), _, rfl, iteF ?_⟩
      refine ⟨_, rfl, u, _, rfl, .inr (SqT.of hu), rfl, _, rfl, ?_⟩
      rw [decide_eq_false (fun z => hl (by
        have : ((xs.length : Nat) : Int) = 4 := by injection z
        omega))]
      exact iteT kf
    | @item u xs hu hl hx hb =>
      refine ⟨_, rfl, _, _, .type "tuple", .type "tuple", true, rfl, .ty _, .base (.tup hu), kit_ty (by decide +kernel), _, rfl, iteF ?_⟩
      refine ⟨_, rfl, u, _, rfl, .inr (SqT.of hu), rfl, _, rfl, ?_⟩
      rw [hl]
      refine iteF ?_
      refine ⟨_, rfl, u, rfl, ⟨_, SqT.of hu⟩, ?_⟩
      refine for_tup (K := K) (a := u) (xs := xs) (fun i σ H' => (∃ y2, σ = [some (.ref wa), some (.ref u), y2, none, none, none, none]) ∧ H' = H ∧ ∀ x ∈ xs.take i, ∃ j, x = .int j) ⟨⟨none, rfl⟩, rfl, fun _ m => absurd m List.not_mem_nil⟩ (fun i σ H' _ ⟨_, e, _⟩ => SqT.of (e ▸ hu)) ?_ ?_
      · rintro i x σ H1 ex ⟨⟨z2, rfl⟩, rfl, ih⟩
        have mx := List.mem_of_getElem? ex
        obtain ⟨t1, ht1⟩ := hx x mx
        show rdS__law_fault_2_1 K _ _ _
        rcases ty_int ht1 with ⟨j, rfl, rfl⟩ | ⟨h1, h2⟩
        · refine ⟨_, rfl, _, _, .type "int", .type "bool", false, rfl, .ty _, .base (.int _), kit_ty (by decide +kernel), _, rfl, iteF ?_⟩
          refine ⟨_, rfl, _, _, .type "int", .type "int", true, rfl, .ty _, .base (.int _), kit_ty (by decide +kernel), _, rfl, iteF ?_⟩
          refine ⟨_, rfl, _, _, rfl, rfl, _, rfl, ite2 (fun c => kf) (fun c => ?_)⟩
          refine ⟨_, rfl, _, rfl, wa, _, 0, _, rfl, rfl, SqT.of ha, atI_nat (j := 0) rfl, _, _, rfl, rfl, _, rfl, ite2 (fun c2 => kf) (fun c2 => ?_)⟩
          refine ⟨⟨_, rfl⟩, rfl, fun z mz => ?_⟩
          rw [List.take_add_one, ex] at mz
          rcases List.mem_append.mp mz with mz | mz
          · exact ih z mz
          · exact ⟨j, by simpa using mz⟩
        · rcases kit_item (K := K) ht1 h1 with hk | ⟨hk1, hk2⟩
          · exact ⟨_, rfl, _, _, _, .type "bool", true, rfl, .ty _, ht1.of, hk, _, rfl, iteT kf⟩
          · refine ⟨_, rfl, _, _, _, .type "bool", false, rfl, .ty _, ht1.of, hk1, _, rfl, iteF ?_⟩
            exact ⟨_, rfl, _, _, _, .type "int", false, rfl, .ty _, ht1.of, hk2, _, rfl, iteT kf⟩
      · rintro σ H1 ⟨⟨z2, rfl⟩, rfl, ih⟩
        obtain ⟨x, m, hx2⟩ := hb
        obtain ⟨j, e⟩ := ih x (by rw [List.take_length]; exact m)
        exact absurd e (hx2 j)
def spDeedV : Sp := fun vs H Q E => spDeedI vs H Q E ∨ spDeedOff vs H Q E
def spFaultV : Sp := fun vs H Q E => spFaultW vs H Q E ∨ spFaultOff vs H Q E
end
end Lt

set_option Elab.async false
set_option linter.all false
set_option maxRecDepth 100000
set_option maxHeartbeats 8000000
namespace Lt
open PySem PySem.Spec PyProof.Rows L2
theorem noPart {σ : Slots} {H : Hp} {Q : Option Int → Hp → Prop} (h : Q none H) : tNoPart σ H Q := h
section
variable {P : Program} {w : World} {K : PySem.W.Frag} {mg : Str → Option Value} {base : Heap} {f : Addr} {fd : FuncData}
/-! ## any items in a drawn order -/
def spShufV : Sp := fun vs H Q _ => ∃ (s d c a : Addr) (xs : List V), vs = [.ref s, .ref a] ∧ Stk s d c H ∧ H a = some (.lst xs) ∧ xs.length ≤ 1000 ∧ a ≠ s ∧ a ≠ d ∧
  ∀ H' p ys, ys.Perm xs → Fr [s, d] H H' → H p = none → Stk s d c H' → H' p = some (.lst ys) → Q (.ref p) H'
theorem ok_shuffledV (F : FnP K "_law_shuffled" s__law_shuffled f fd) (g_range : mg "range" = none) (g_list : mg "list" = none) (g_len : mg "len" = none) {f__law_draw : Addr} {fd__law_draw : FuncData} (F__law_draw : FnP K "_law_draw" s__law_draw f__law_draw fd__law_draw) (m__law_draw : mg "_law_draw" = some (.ref f__law_draw)) (G__law_draw : FnG P w K mg base CX0 1 f__law_draw fd__law_draw ["stock", "size"] spDraw) : FnG P w K mg base CX0 2 f fd ["stock", "row"] spShufV := by
  have b__law_draw : Binds K fd__law_draw ["stock", "size"] [] := F__law_draw.bindsN fun _ _ _ _ _ _ us hl => match us, hl with | [_, _], _ => rfl
  refine okG0 F sc__law_shuffled (fun vs H Q E h => ?_) (fun cdv A outer s H vs Q E hS hr h => ?_)
  · obtain ⟨_, _, _, _, _, rfl, _⟩ := h
    rfl
  · obtain ⟨s0, d, c, a, xs, rfl, hk, ha, hl, nas, nad, q⟩ := h
    refine ⟨_, (pss_cons (ps_par (i := 2) (j := 3) (by rfl) sc__law_shuffled.nd rfl rfl (by decide) rfl rfl (pa_cons (pe_callTy (lstOfK K) (by rfl) g_list (by decide +kernel) (pa_cons (pv 1) pa_nil)) (pa_cons (pe_lst pa_nil) pa_nil)) (by rfl))
      (pss_cons (ps_for PassesOwn.never rfl (pi_range1 rfl g_range (pa_cons (pe_callB (lenK K) (by rfl) g_len (by decide +kernel) (pa_cons (pv 1) pa_nil)) pa_nil)) (pg_name (i := 4) sc__law_shuffled.nd rfl (Or.inl rfl)) (pss_one (ps_expr (pe_bm PySem.F.plainAttrs_list PySem.F.slot_list_append PySem.F.type_list_append mt_append (pv 3) (pa_cons (pe_bm PySem.F.plainAttrs_list PySem.F.slot_list_pop PySem.F.type_list_pop mt_popAt (pv 2) (pa_cons (pe_callG G__law_draw hS (hr.mono (by decide)) (by rfl) m__law_draw F__law_draw.kp b__law_draw .nil pass0 (pa_cons (pv 0) (pa_cons (pe_callB (lenK K) (by rfl) g_len (by decide +kernel) (pa_cons (pv 2) pa_nil)) pa_nil))) pa_nil)) pa_nil)))))
      (pss_one (ps_ret (pv 3))))), ?_⟩
    refine ⟨_, rfl, a, xs, rfl, .inl (SqL.of ha), fun R hR => ⟨szl (Nat.zero_le _), fun D hD => ?_⟩⟩
    have hR0 : H R = none := hR
    have nRD : R ≠ D := ne_new upd_same hD
    have hD0 : H D = none := (Fr.new (S := []) (o := .lst xs) hR).free hD
    have fa : Fr [s0, d] H (upd (upd H R (.lst xs)) D (.lst [])) := (Fr.new hR).add hD
    refine ⟨_, _, rfl, ?_⟩
    have eA := fa.keep _ _ ha (by simp [nas, nad])
    refine ⟨_, rfl, a, xs, rfl, .inl (SqL.of eA), (xs.length : Nat), rfl, by omega, by omega, ?_⟩
    have kk : Stk s0 d c (upd (upd H R (.lst xs)) D (.lst [])) := (hk.add hk hR).add (hk.add hk hR) hD
    obtain ⟨r1, r2, r3⟩ := hk.apart hR0
    obtain ⟨q1, q2, q3⟩ := hk.apart hD0
    refine for_range (lo := 0) (n := xs.length) (fun i σ H' => ∃ y4 us ws, σ = [some (.ref s0), some (.ref a), some (.ref R), some (.ref D), y4] ∧ Stk s0 d c H' ∧ Fr [s0, d] H H' ∧
      H' R = some (.lst us) ∧ H' D = some (.lst ws) ∧ ws.length = i ∧ (us ++ ws).Perm xs) ?_ ?_ ?_
    · exact ⟨none, xs, [], rfl, kk, fa, by rw [upd_ne nRD, upd_same], upd_same, rfl, by rw [List.append_nil]⟩
    · rintro i σ H1 hi ⟨y4, us, ws, rfl, k1, f1, e1, e2, l2, pm⟩
      have lp := pm.length_eq
      rw [List.length_append] at lp
      have hu : 0 < us.length := by omega
      refine ⟨_, rfl, .inl ⟨rfl, _, SqL.of e2⟩, _, rfl, .inl ⟨rfl, _, SqL.of e1⟩, _, rfl, _, rfl, R, us, rfl, .inl (SqL.of e1), ?_⟩
      refine ⟨s0, d, c, us.length, rfl, k1, hu, by omega, fun H2 r hr2 k2 f2 => ?_⟩
      have eR := f2.keep _ _ e1 (by simp [r1, r2])
      have eD := f2.keep _ _ e2 (by simp [q1, q2])
      obtain ⟨y, ey⟩ : ∃ y, us[r]? = some y := ⟨us[r], List.getElem?_eq_getElem hr2⟩
      refine ⟨R, us, r, r, y, rfl, rfl, eR, by omega, by omega, seq_at hr2, ey, ?_⟩
      have f3 : Fr [s0, d] H (upd H2 R (.lst (us.eraseIdx r))) := (f1.trans f2).set (.inl hR0) (fun xs z => by rw [eR] at z; cases z)
      have eD3 : upd H2 R (.lst (us.eraseIdx r)) D = some (.lst ws) := by rw [upd_ne nRD.symm]; exact eD
      refine ⟨D, ws, y, rfl, rfl, eD3, szlt (by omega), ?_⟩
      have f4 : Fr [s0, d] H (upd (upd H2 R (.lst (us.eraseIdx r))) D (.lst (ws ++ [y]))) := f3.set (.inl hD0) (fun xs z => by rw [eD3] at z; cases z)
      refine ⟨_, us.eraseIdx r, ws ++ [y], rfl, hk.add (hk.add k2 hR0) hD0, f4, ?_, upd_same, ?_, ?_⟩
      · rw [upd_ne nRD, upd_same]
      · rw [List.length_append, l2]
        rfl
      · refine List.Perm.trans ?_ pm
        exact perm_move ey
    · rintro σ H1 ⟨y4, us, ws, rfl, k1, f1, e1, e2, l2, pm⟩
      have lp := pm.length_eq
      rw [List.length_append] at lp
      have ld : us = [] := List.eq_nil_of_length_eq_zero (by omega)
      subst ld
      exact ⟨_, rfl, q H1 D ws pm f1 hD0 k1 e2⟩
/-! ## values near a deed -/
/-- a list of values -/
def GL (S : List Addr) (H : Hp) (p : Addr) (m : Nat) : Prop := p ∉ S ∧ ∃ ys, H p = some (.lst ys) ∧ ys.length ≤ m ∧ ∀ y ∈ ys, GoodV S H y
theorem GL.fr {S : List Addr} {H H1 : Hp} {p : Addr} {m : Nat} (f : Fr S H H1) (h : GL S H p m) : GL S H1 p m := by
  obtain ⟨n, ys, e, l, g⟩ := h
  exact ⟨n, ys, f.keep _ _ e n, l, fun y my => (g y my).fr f⟩
theorem good_ints {S : List Addr} {H : Hp} {p : Addr} {ns : List Int} (h : H p = some (.tup (ns.map V.int))) (hn : ∀ i ∈ ns, i.natAbs < 10 ^ 12) (hl : ns.length ≤ 10) : GoodV S H (.ref p) := by
  refine ⟨.tuple (ns.map PyData.int), .inl (Tp.dz (.tup h (Tps.ints ns))), (Sq.tup (n := 0) (w := 64) (m := 10) (fun x m => ?_) (by rw [List.length_map]; exact hl)).up (by decide) (by decide)⟩
  obtain ⟨i, mi, rfl⟩ := List.mem_map.mp m
  exact Sq.int (hn i mi)
theorem item_int {S : List Addr} {H : Hp} {i : Int} (h : i.natAbs < 10 ^ 12) : Item S H (.int i) := ⟨_, .int i, (Sq.int h).up (by decide) (by decide)⟩
/-- a deed with one item changed -/
theorem put_good {S : List Addr} {H : Hp} {p : Addr} {x : V} {q : Qd} {at_ : Nat} (ha : at_ < 4) (hq : InN 12 q) (hx : Item S H x)
    (h : H p = some (.tup (([V.int q.a, .int q.d, .int q.b, .int q.c] : List V).take at_ ++ [x] ++ ([V.int q.a, .int q.d, .int q.b, .int q.c] : List V).drop (at_ + 1)))) : GoodV S H (.ref p) := by
  obtain ⟨e, he, hs⟩ := hx
  obtain ⟨h1, h2, h3, h4⟩ := hq
  have i1 : Sq 1 200 (.int (q.a : Int)) := (Sq.nat (by omega)).up (by decide) (by decide)
  have i2 : Sq 1 200 (.int (q.d : Int)) := (Sq.nat (by omega)).up (by decide) (by decide)
  have i3 : Sq 1 200 (.int (q.b : Int)) := (Sq.nat (by omega)).up (by decide) (by decide)
  have i4 : Sq 1 200 (.int (q.c : Int)) := (Sq.nat (by omega)).up (by decide) (by decide)
  have fin : ∀ {vs : List V} {ds : List PyData}, H p = some (.tup vs) → DzA S H vs ds → (∀ y ∈ ds, Sq 1 200 y) → ds.length ≤ 4 → GoodV S H (.ref p) := fun {vs ds} a b c d =>
    ⟨.tuple ds, .inl (.tup a b), (Sq.tup (n := 1) (w := 200) (m := 4) c d).up (by decide) (by decide)⟩
  match at_, ha, h with
  | 0, _, h => exact fin (ds := [e, .int q.d, .int q.b, .int q.c]) h (.cons he (.cons (.int _) (.cons (.int _) (.cons (.int _) .nil)))) (by simp [hs, i2, i3, i4]) (Nat.le_refl _)
  | 1, _, h => exact fin (ds := [.int q.a, e, .int q.b, .int q.c]) h (.cons (.int _) (.cons he (.cons (.int _) (.cons (.int _) .nil)))) (by simp [hs, i1, i3, i4]) (Nat.le_refl _)
  | 2, _, h => exact fin (ds := [.int q.a, .int q.d, e, .int q.c]) h (.cons (.int _) (.cons (.int _) (.cons he (.cons (.int _) .nil)))) (by simp [hs, i1, i2, i4]) (Nat.le_refl _)
  | 3, _, h => exact fin (ds := [.int q.a, .int q.d, .int q.b, e]) h (.cons (.int _) (.cons (.int _) (.cons (.int _) (.cons he .nil)))) (by simp [hs, i1, i2, i3]) (Nat.le_refl _)
def spNear : Sp := fun vs H Q _ => ∃ (s d c : Addr) (v vd : V) (n : Nat) (ps : List Pr) (q : Qd), vs = [.ref s, v, vd] ∧ Stk s d c H ∧ OfWeb H v n ps ∧ Tp H vd (dq q) ∧ InN n q ∧
  ∀ H' p, Fr [s, d] H H' → Stk s d c H' → GL [s, d] H' p 200 → Q (.ref p) H'
def rd__law_near_1 (K : PySem.W.Frag) : TS := (tAsg (tVar 2) (gTup K 4 (gCons (gName 3) (gCons (gName 4) (gCons (gName 5) (gCons (gName 6) gNil))))))
def rd__law_near_2 (K : PySem.W.Frag) : TS := (tAsg (tTup (tCons (tCall spDraw [] E0 (tCons (tVar 0) (tCons (tC (.int 4)) tNil))) (tCons (tOp (rIxT K) (tVar 1) (tC (.int 0))) tNil))) (gTup K 2 (gCons (gName 7) (gCons (gName 8) gNil))))
def rd__law_near_3 (K : PySem.W.Frag) : TS := (tAsg (tLc (iList K (tSl (rSlL K) (tCall spShufV [] E0 (tCons (tVar 0) (tCons (tLstRg (tRg1 (tVar 8))) tNil))) tNoPart (tPart (tC (.int 4))))) (gName 14) tYes (tOp (rCatA K) (tOp (rCatA K) (tSl (rSlA K) (tVar 2) tNoPart (tPart (tVar 7))) (tTup (tCons (tVar 14) tNil))) (tSl (rSlA K) (tVar 2) (tPart (tOp rAddI (tVar 7) (tC (.int 1)))) tNoPart)) [14]) (gName 9))
def rd__law_near_4 (K : PySem.W.Frag) : TS := (tAsg (tLst (tCons (tC (.bl true)) (tCons (tC (.bl false)) (tCons (tC .non) (tCons (tUn rNegI (tC (.int 1))) (tCons (tOp rSubI (tC (.int 0)) (tVar 8)) (tCons (tVar 8) (tCons (tOp rAddI (tVar 8) (tC (.int 1))) (tCons (tOp rPowI (tC (.int 10)) (tC (.int 30))) (tCons (tCB cStrI (tCons (tOp (rIxT K) (tVar 2) (tVar 7)) tNil)) (tCons (tTup (tCons (tOp (rIxT K) (tVar 2) (tVar 7)) tNil)) (tCons (tLst (tCons (tOp (rIxT K) (tVar 2) (tVar 7)) tNil)) (tCons (tOp rSubI (tVar 3) (tVar 8)) tNil))))))))))))) (gName 10))
def rd__law_near_5 (K : PySem.W.Frag) : TS := (tAsg (tLc (iList K (tSl (rSlL K) (tCall spShufV [] E0 (tCons (tVar 0) (tCons (tVar 10) tNil))) tNoPart (tPart (tC (.int 4))))) (gName 15) tYes (tOp (rCatA K) (tOp (rCatA K) (tSl (rSlA K) (tVar 2) tNoPart (tPart (tVar 7))) (tTup (tCons (tVar 15) tNil))) (tSl (rSlA K) (tVar 2) (tPart (tOp rAddI (tVar 7) (tC (.int 1)))) tNoPart)) [15]) (gName 11))
def rd__law_near_6 (K : PySem.W.Frag) : TS := (tAsg (tLst (tCons (tTup (tCons (tVar 3) (tCons (tVar 4) (tCons (tVar 6) (tCons (tVar 5) tNil))))) (tCons (tTup (tCons (tVar 4) (tCons (tVar 3) (tCons (tVar 5) (tCons (tVar 6) tNil))))) (tCons (tTup (tCons (tVar 5) (tCons (tVar 6) (tCons (tVar 3) (tCons (tVar 4) tNil))))) (tCons (tTup (tCons (tVar 6) (tCons (tVar 5) (tCons (tVar 4) (tCons (tVar 3) tNil))))) (tCons (tTup (tCons (tVar 3) (tCons (tVar 5) (tCons (tVar 4) (tCons (tVar 6) tNil))))) (tCons (tTup (tCons (tVar 3) (tCons (tVar 6) (tCons (tVar 5) (tCons (tVar 4) tNil))))) (tCons (tTup (tCons (tVar 4) (tCons (tVar 5) (tCons (tVar 3) (tCons (tVar 6) tNil))))) tNil)))))))) (gName 12))
def rd__law_near_7 (K : PySem.W.Frag) : TS := (tAsg (tLst (tCons (tCB (rLstOf K) (tCons (tVar 2) tNil)) (tCons (tSl (rSlA K) (tVar 2) tNoPart (tPart (tC (.int 3)))) (tCons (tOp (rCatA K) (tVar 2) (tTup (tCons (tVar 3) tNil))) (tCons (tTup tNil) (tCons (tC .non) (tCons (tTup (tCons (tVar 3) (tCons (tVar 3) (tCons (tVar 3) (tCons (tVar 3) tNil))))) (tCons (tTup (tCons (tVar 2) tNil)) (tCons (tC (.str "0312")) (tCons (tDisp [((tVar 3), (tVar 4))]) (tCons (tLst (tCons (tVar 2) tNil)) (tCons (tC (.int 7)) tNil)))))))))))) (gName 13))
def rd__law_near_8 (K : PySem.W.Frag) : TS := (tRet (tOp rCat (tOp rCat (tOp rCat (tVar 9) (tVar 11)) (tVar 12)) (tSl (rSlL K) (tCall spShufV [] E0 (tCons (tVar 0) (tCons (tVar 13) tNil))) tNoPart (tPart (tC (.int 3))))))
def rdS__law_near_8 (K : PySem.W.Frag) : TS := rd__law_near_8 K
def rdS__law_near_7 (K : PySem.W.Frag) : TS := tSeq (rd__law_near_7 K) (rdS__law_near_8 K)
def rdS__law_near_6 (K : PySem.W.Frag) : TS := tSeq (rd__law_near_6 K) (rdS__law_near_7 K)
def rdS__law_near_5 (K : PySem.W.Frag) : TS := tSeq (rd__law_near_5 K) (rdS__law_near_6 K)
def rdS__law_near_4 (K : PySem.W.Frag) : TS := tSeq (rd__law_near_4 K) (rdS__law_near_5 K)
def rdS__law_near_3 (K : PySem.W.Frag) : TS := tSeq (rd__law_near_3 K) (rdS__law_near_4 K)
def rdS__law_near_2 (K : PySem.W.Frag) : TS := tSeq (rd__law_near_2 K) (rdS__law_near_3 K)
def rdS__law_near_1 (K : PySem.W.Frag) : TS := tSeq (rd__law_near_1 K) (rdS__law_near_2 K)
section
variable {s d c : Addr} {D : Ends} {H : Hp} {n at_ : Nat} {q : Qd} {u e : Addr} {v : V} {xs : List V} {y0 y1 y9 y10 y11 y12 y13 y14 y15 : Option V} {T : List (Option V)}
abbrev four (q : Qd) : List V := [V.int q.a, .int q.d, .int q.b, .int q.c]
theorem put_e {σ : Slots} {Q : VK} {i : Nat} {x : V} (e2 : σ[2]? = some (some (.ref u))) (e7 : σ[7]? = some (some (.int at_))) (ei : σ[i]? = some (some x)) (hu : H u = some (.tup (four q)))
    (k : ∀ H' p, Fr [] H H' → H' p = some (.tup ((four q).take at_ ++ [x] ++ (four q).drop (at_ + 1))) → Q (.ref p) H') :
    (tOp (rCatA K) (tOp (rCatA K) (tSl (rSlA K) (tVar 2) tNoPart (tPart (tVar 7))) (tTup (tCons (tVar i) tNil))) (tSl (rSlA K) (tVar 2) (tPart (tOp rAddI (tVar 7) (tC (.int 1)))) tNoPart)) σ H Q := by
  refine ⟨_, e2, _, e7, _, rfl, slA_of hu (cut_to at_) fun H1 u1 f1 e1 => ?_⟩
  refine ⟨_, ei, szl (Nat.le_of_ble_eq_true rfl), fun z hz => ?_⟩
  have fz := Fr.new (S := []) (o := .tup [x]) hz
  refine catA_of (fz.tups _ _ e1) upd_same (by rw [List.length_take]; show min _ 4 + 1 ≤ _; omega) fun H3 u3 f3 e3 => ?_
  have g3 := (f1.trans fz).trans f3
  refine ⟨_, e2, _, e7, _, _, rfl, rfl, _, rfl, noPart ?_⟩
  refine slA_of (g3.tups _ _ hu) (show cutV (four q) (some ((at_ : Int) + 1)) none = (four q).drop (at_ + 1) from cut_from (at_ + 1)) fun H4 u4 f4 e4 => ?_
  refine catA_of (f4.tups _ _ e3) e4 (by rw [List.length_append, List.length_take, List.length_drop]; show (min _ 4 + 1) + (4 - _) ≤ _; omega) fun H5 u5 f5 e5 => ?_
  exact k H5 u5 ((g3.trans f4).trans f5) e5
/-- the changed deeds, over a list of items -/
theorem lc_put {σ : Slots} {Qd : Hp → Prop} {i : Nat} {a : Addr} (hu : H u = some (.tup (four q))) (hq : InN 12 q) (hat : at_ < 4) (ha : H a = some (.lst xs)) (has : a ∉ [s, d]) (hl : xs.length ≤ 50) (hx : ∀ x ∈ xs, Item [s, d] H x)
    (e2 : ∀ x, (((wipe σ [i]).set i (some x)))[2]? = some (some (.ref u))) (e7 : ∀ x, (((wipe σ [i]).set i (some x)))[7]? = some (some (.int at_))) (ei : ∀ x, (((wipe σ [i]).set i (some x)))[i]? = some (some x)) (hw : ∀ x, wipe ((wipe σ [i]).set i (some x)) [i] = wipe σ [i])
    (DD : Addr) (hD : H DD = none) (hk : Stk s d c H) (k : ∀ H', Fr [] H H' → GL [s, d] H' DD 50 → Qd H') :
    LcGoal (Itl K a) (gName i) tYes (tOp (rCatA K) (tOp (rCatA K) (tSl (rSlA K) (tVar 2) tNoPart (tPart (tVar 7))) (tTup (tCons (tVar i) tNil))) (tSl (rSlA K) (tVar 2) (tPart (tOp rAddI (tVar 7) (tC (.int 1)))) tNoPart)) [i] σ H DD Qd := by
  obtain ⟨d1, d2, _⟩ := hk.apart hD
  refine lc_list (K := K) (a := a) (xs := xs) (fun j H' => ∃ ys, H' DD = some (.lst ys) ∧ ys.length ≤ j ∧ (∀ y ∈ ys, GoodV [DD, s, d] H' y) ∧ Fr [] H H') ⟨[], upd_same, Nat.le_refl _, (fun _ m => absurd m List.not_mem_nil), Fr.new hD⟩
    (fun j H' _ ⟨ys, _, _, _, f1⟩ => SqL.of (f1.keep _ _ ha List.not_mem_nil)) ?_ ?_
  · rintro j x H' ex ⟨ys, ey, ly, gy, f1⟩
    have hj : j < 50 := by
      have := (List.getElem?_eq_some_iff.mp ex).1
      omega
    refine ⟨hw x, tyes (put_e (K := K) (e2 x) (e7 x) (ei x) (f1.tups _ _ hu) fun H5 p f5 e5 => ?_)⟩
    have eD := f5.keep _ _ ey List.not_mem_nil
    have fD : Fr [DD, s, d] H5 (upd H5 DD (.lst (ys ++ [.ref p]))) := Fr.refl.set (.inr List.mem_cons_self) (fun xs z => by rw [eD] at z; cases z)
    refine ⟨ys, eD, szlt (by omega), ys ++ [.ref p], upd_same, by rw [List.length_append]; show _ + 1 ≤ _; omega, fun y my => ?_, (f1.trans f5).set (.inl hD) (fun xs z => by rw [eD] at z; cases z)⟩
    rcases List.mem_append.mp my with my | my
    · exact ((gy y my).fr f5.of0).fr fD
    · rw [List.mem_singleton.mp my]
      have hx1 : Item [DD, s, d] H5 x := ((hx x (List.mem_of_getElem? ex)).off hD).fr ((f1.trans f5).of0)
      exact (put_good hat hq hx1 e5).fr fD
  · rintro H' ⟨ys, ey, ly, gy, f1⟩
    refine k H' f1 ⟨by simp [d1, d2], ys, ey, by omega, fun y my => (gy y my).mono fun a m => List.mem_cons_of_mem _ m⟩
theorem near_3 (hk : Stk s d c H) (hu : H u = some (.tup (four q))) (hq : InN n q) (hn : n ≤ 12) (hat : at_ < 4) {y3 y4 y5 y6 : Option V}
    (k : ∀ H' p, Fr [s, d] H H' → Stk s d c H' → GL [s, d] H' p 50 → D.nx [some (.ref s), y1, some (.ref u), y3, y4, y5, y6, some (.int at_), some (.int n), some (.ref p), y10, y11, y12, y13, y14, y15] H') :
    rd__law_near_3 K D [some (.ref s), y1, some (.ref u), y3, y4, y5, y6, some (.int at_), some (.int n), y9, y10, y11, y12, y13, y14, y15] H := by
  have hq12 : InN 12 q := ⟨by have := hq.1; omega, by have := hq.2.1; omega, by have := hq.2.2.1; omega, by have := hq.2.2.2; omega⟩
  refine ⟨_, rfl, _, rfl, n, rfl, RgOk.of_le (by decide) (by omega) (by decide) (by omega), fun g hg => ?_⟩
  have fq : Fr [s, d] H (upd H g (.lst (rgV 0 n))) := Fr.new hg
  have kq := hk.add hk (o := .lst (rgV 0 n)) hg
  obtain ⟨a1, a2, a3⟩ := hk.apart hg
  refine ⟨s, d, c, g, _, rfl, kq, upd_same, by rw [rgV_length]; omega, a1, a2, fun H1 p ys pm f1 np k1 ep => ?_⟩
  refine ⟨4, rfl, p, ys, rfl, SqL.of ep, fun p2 hp2 => ?_⟩
  have ec : cutV ys none (some 4) = ys.take 4 := cut_to 4
  rw [ec]
  have np2 : H p2 = none := (fq.trans f1).free hp2
  have f2 := Fr.new (S := [s, d]) (o := .lst (ys.take 4)) hp2
  have k2 := hk.add k1 np2 (o := .lst (ys.take 4))
  obtain ⟨b1, b2, b3⟩ := hk.apart np2
  have g2 := (fq.trans f1).trans f2
  refine ⟨p2, rfl, ⟨_, SqL.of upd_same⟩, fun DD hD => ?_⟩
  refine lc_put (K := K) (s := s) (d := d) (c := c) (q := q) (u := u) (at_ := at_) (xs := ys.take 4) (g2.tups _ _ hu) hq12 hat upd_same (by simp [b1, b2]) (by rw [List.length_take]; omega) (fun x mx => ?_) (fun x => rfl) (fun x => rfl) (fun x => rfl) (fun x => rfl) DD hD k2 fun H3 f3 gl => ?_
  · have mx2 := pm.mem_iff.mp (List.mem_of_mem_take mx)
    unfold rgV at mx2
    obtain ⟨i, mi, rfl⟩ := List.mem_map.mp mx2
    have := List.mem_range.mp mi
    exact item_int (by omega)
  · exact k H3 DD (g2.trans f3.of0) (k2.fr0' f3) gl
theorem near_5 {y3 y4 y5 y6 y8 : Option V} (hk : Stk s d c H) (hu : H u = some (.tup (four q))) (hq12 : InN 12 q) (hat : at_ < 4) (he : H e = some (.lst xs)) (hes : e ∉ [s, d]) (hl : xs.length ≤ 20) (hx : ∀ x ∈ xs, Item [s, d] H x)
    (k : ∀ H' p, Fr [s, d] H H' → Stk s d c H' → GL [s, d] H' p 50 → D.nx [some (.ref s), y1, some (.ref u), y3, y4, y5, y6, some (.int at_), y8, y9, some (.ref e), some (.ref p), y12, y13, y14, y15] H') :
    rd__law_near_5 K D [some (.ref s), y1, some (.ref u), y3, y4, y5, y6, some (.int at_), y8, y9, some (.ref e), y11, y12, y13, y14, y15] H := by
  obtain ⟨a1, a2⟩ : e ≠ s ∧ e ≠ d := by simpa using hes
  refine ⟨_, rfl, _, rfl, s, d, c, e, _, rfl, hk, he, by omega, a1, a2, fun H1 p ys pm f1 np k1 ep => ?_⟩
  refine ⟨4, rfl, p, ys, rfl, SqL.of ep, fun p2 hp2 => ?_⟩
  have ec : cutV ys none (some 4) = ys.take 4 := cut_to 4
  rw [ec]
  have np2 : H p2 = none := f1.free hp2
  have f2 := Fr.new (S := [s, d]) (o := .lst (ys.take 4)) hp2
  have k2 := hk.add k1 np2 (o := .lst (ys.take 4))
  obtain ⟨b1, b2, b3⟩ := hk.apart np2
  have g2 := f1.trans f2
  refine ⟨p2, rfl, ⟨_, SqL.of upd_same⟩, fun DD hD => ?_⟩
  refine lc_put (K := K) (s := s) (d := d) (c := c) (q := q) (u := u) (at_ := at_) (xs := ys.take 4) (g2.tups _ _ hu) hq12 hat upd_same (by simp [b1, b2]) (by rw [List.length_take]; omega) (fun x mx => ?_) (fun x => rfl) (fun x => rfl) (fun x => rfl) (fun x => rfl) DD hD k2 fun H3 f3 gl => ?_
  · exact (hx x (pm.mem_iff.mp (List.mem_of_mem_take mx))).fr g2
  · exact k H3 DD (g2.trans f3.of0) (k2.fr0' f3) gl
theorem item_str {S : List Addr} {H : Hp} : ∀ i : Nat, i < 12 → Item S H (.str (toString (i : Int))) := by
  have h : ∀ i : Nat, i < 12 → PyData.leavesShort 40 (.str (toString (i : Int))) = true ∧ PyData.weight (.str (toString (i : Int))) ≤ 200 := by decide +kernel
  exact fun i hi => ⟨_, .str _, ⟨rfl, (h i hi).1, Nat.zero_le _, (h i hi).2⟩⟩
theorem item_big {S : List Addr} {H : Hp} : Item S H (.int (10 ^ (30 : Int).toNat)) :=
  ⟨_, .int _, ⟨by decide +kernel, by decide +kernel, by decide +kernel, by decide +kernel⟩⟩
theorem near_4 {a' : Nat} {y4 y5 y6 : Option V} (hk : Stk s d c H) (hu : H u = some (.tup (four q))) (hq12 : InN 12 q) (hn : n ≤ 12) (h3 : a' < 12) (hat : at_ < 4)
    (k : ∀ H' e xs, Fr [] H H' → H e = none → H' e = some (.lst xs) → xs.length ≤ 20 → (∀ x ∈ xs, Item [s, d] H' x) → D.nx [some (.ref s), y1, some (.ref u), some (.int a'), y4, y5, y6, some (.int at_), some (.int n), y9, some (.ref e), y11, y12, y13, y14, y15] H') :
    rd__law_near_4 K D [some (.ref s), y1, some (.ref u), some (.int a'), y4, y5, y6, some (.int at_), some (.int n), y9, y10, y11, y12, y13, y14, y15] H := by
  obtain ⟨x, hx, ex⟩ : ∃ x : Nat, x < 12 ∧ (four q)[at_]? = some (.int (x : Int)) := by
    obtain ⟨h1, h2, h3, h4⟩ := hq12
    match at_, hat with
    | 0, _ => exact ⟨q.a, h1, rfl⟩
    | 1, _ => exact ⟨q.d, h2, rfl⟩
    | 2, _ => exact ⟨q.b, h3, rfl⟩
    | 3, _ => exact ⟨q.c, h4, rfl⟩
  have e1 := atI_nat ex
  refine ⟨1, rfl, _, rfl, _, _, rfl, rfl, _, rfl, _, rfl, _, _, rfl, rfl, _, _, rfl, rfl, ⟨by decide, by decide, by decide⟩, ?_⟩
  refine ⟨_, rfl, _, rfl, u, _, _, _, rfl, rfl, SqT.of hu, e1, _, rfl, log_lt (k := 1920) (by omega) (by decide), ?_⟩
  refine ⟨_, rfl, _, rfl, u, _, _, _, rfl, rfl, SqT.of hu, e1, szl (Nat.le_of_ble_eq_true rfl), fun p hp => ?_⟩
  have fp := Fr.new (S := []) (o := .tup [V.int (x : Int)]) hp
  refine ⟨_, rfl, _, rfl, u, _, _, _, rfl, rfl, SqT.of (fp.tups _ _ hu), e1, szl (Nat.le_of_ble_eq_true rfl), fun l hl => ?_⟩
  have fl := Fr.new (S := []) (o := .lst [V.int (x : Int)]) hl
  refine ⟨_, rfl, _, rfl, _, _, rfl, rfl, szl (Nat.le_of_ble_eq_true rfl), fun e he => ?_⟩
  have fe := Fr.new (S := []) (o := .lst [.bl true, .bl false, .non, .int (-1), .int (0 - n), .int n, .int (n + 1), .int (10 ^ (30 : Int).toNat), .str (toString (x : Int)), .ref p, .ref l, .int (a' - n)]) he
  have g := (fp.trans fl).trans fe
  obtain ⟨l1, l2, _⟩ := hk.apart (fp.free hl)
  have ne : H e = none := (fp.trans fl).free he
  refine k _ e [.bl true, .bl false, .non, .int (-1), .int (0 - n), .int n, .int (n + 1), .int (10 ^ (30 : Int).toNat), .str (toString (x : Int)), .ref p, .ref l, .int (a' - n)] g ne upd_same (Nat.le_of_ble_eq_true rfl) fun z mz => ?_
  have sx : Sq 0 64 (.int (x : Int)) := Sq.nat (by omega)
  simp only [List.mem_cons, List.not_mem_nil, or_false] at mz
  rcases mz with rfl | rfl | rfl | rfl | rfl | rfl | rfl | rfl | rfl | rfl | rfl | rfl
  · exact ⟨_, .bl _, (Sq.bl _).up (by decide) (by decide)⟩
  · exact ⟨_, .bl _, (Sq.bl _).up (by decide) (by decide)⟩
  · exact ⟨_, .non, Sq.non.up (by decide) (by decide)⟩
  · exact item_int (by decide)
  · exact item_int (by omega)
  · exact item_int (by omega)
  · exact item_int (by omega)
  · exact item_big
  · exact item_str x hx
  · exact ⟨_, .tup (fe.tups _ _ (fl.tups _ _ upd_same)) (.cons (.int _) .nil), (Sq.tup (n := 0) (w := 64) (m := 1) (by simp [sx]) (Nat.le_refl _)).up (by decide) (by decide)⟩
  · exact ⟨_, .lst (fe.keep _ _ upd_same List.not_mem_nil) (by simp [l1, l2]) (.cons (.int _) .nil), (Sq.lst (n := 0) (w := 64) (m := 1) (by simp [sx]) (Nat.le_refl _)).up (by decide) (by decide)⟩
  · exact item_int (by omega)
theorem tup4_e {σ : Slots} {Q : VK} {i j k m : Nat} {a b c d : Nat} (ei : σ[i]? = some (some (.int (a : Int)))) (ej : σ[j]? = some (some (.int (b : Int)))) (ek : σ[k]? = some (some (.int (c : Int)))) (em : σ[m]? = some (some (.int (d : Int))))
    (h1 : a < 12) (h2 : b < 12) (h3 : c < 12) (h4 : d < 12) (kk : ∀ H' p, Fr [] H H' → (∀ S, GoodV S H' (.ref p)) → Q (.ref p) H') : tTup (tCons (tVar i) (tCons (tVar j) (tCons (tVar k) (tCons (tVar m) tNil)))) σ H Q := by
  refine ⟨_, ei, _, ej, _, ek, _, em, szl (Nat.le_of_ble_eq_true rfl), fun p hp => kk _ p (Fr.new hp) fun S => ?_⟩
  refine good_ints (ns := [(a : Int), b, c, d]) upd_same (fun i mi => ?_) (Nat.le_of_ble_eq_true rfl)
  simp only [List.mem_cons, List.not_mem_nil, or_false] at mi
  rcases mi with rfl | rfl | rfl | rfl <;> omega
theorem GoodV.fr0 {S : List Addr} {H H1 : Hp} {y : V} (f : Fr [] H H1) (h : GoodV S H y) : GoodV S H1 y := h.fr f.of0
theorem near_6 {a' d' b' c' : Nat} {y2 y7 y8 : Option V} (hk : Stk s d c H) (h1 : a' < 12) (h2 : d' < 12) (h3 : b' < 12) (h4 : c' < 12)
    (k : ∀ H' p, Fr [] H H' → GL [s, d] H' p 7 → D.nx [some (.ref s), y1, y2, some (.int a'), some (.int d'), some (.int b'), some (.int c'), y7, y8, y9, y10, y11, some (.ref p), y13, y14, y15] H') :
    rd__law_near_6 K D [some (.ref s), y1, y2, some (.int a'), some (.int d'), some (.int b'), some (.int c'), y7, y8, y9, y10, y11, y12, y13, y14, y15] H := by
  unfold rd__law_near_6 tAsg tLst
  refine tup4_e (by rfl) (by rfl) (by rfl) (by rfl) h1 h2 h4 h3 fun H1 p1 f1 g1 => ?_
  refine tup4_e (by rfl) (by rfl) (by rfl) (by rfl) h2 h1 h3 h4 fun H2 p2 f2 g2 => ?_
  refine tup4_e (by rfl) (by rfl) (by rfl) (by rfl) h3 h4 h1 h2 fun H3 p3 f3 g3 => ?_
  refine tup4_e (by rfl) (by rfl) (by rfl) (by rfl) h4 h3 h2 h1 fun H4 p4 f4 g4 => ?_
  refine tup4_e (by rfl) (by rfl) (by rfl) (by rfl) h1 h3 h2 h4 fun H5 p5 f5 g5 => ?_
  refine tup4_e (by rfl) (by rfl) (by rfl) (by rfl) h1 h4 h3 h2 fun H6 p6 f6 g6 => ?_
  refine tup4_e (by rfl) (by rfl) (by rfl) (by rfl) h2 h3 h1 h4 fun H7 p7 f7 g7 => ?_
  refine ⟨szl (Nat.le_of_ble_eq_true rfl), fun p hp => ?_⟩
  have fp := Fr.new (S := []) (o := .lst [.ref p1, .ref p2, .ref p3, .ref p4, .ref p5, .ref p6, .ref p7]) hp
  have f17 := ((((((f1.trans f2).trans f3).trans f4).trans f5).trans f6).trans f7)
  obtain ⟨o1, o2, _⟩ := hk.apart (f17.free hp)
  refine k _ p (f17.trans fp) ⟨by simp [o1, o2], _, upd_same, Nat.le_of_ble_eq_true rfl, fun y my => ?_⟩
  simp only [List.mem_cons, List.not_mem_nil, or_false] at my
  rcases my with rfl | rfl | rfl | rfl | rfl | rfl | rfl
  · exact (((((((g1 _).fr0 f2).fr0 f3).fr0 f4).fr0 f5).fr0 f6).fr0 f7).fr0 fp
  · exact ((((((g2 _).fr0 f3).fr0 f4).fr0 f5).fr0 f6).fr0 f7).fr0 fp
  · exact (((((g3 _).fr0 f4).fr0 f5).fr0 f6).fr0 f7).fr0 fp
  · exact ((((g4 _).fr0 f5).fr0 f6).fr0 f7).fr0 fp
  · exact (((g5 _).fr0 f6).fr0 f7).fr0 fp
  · exact ((g6 _).fr0 f7).fr0 fp
  · exact (g7 _).fr0 fp
theorem near_7 {y7 y8 : Option V} (hk : Stk s d c H) (hu : H u = some (.tup (four q))) (hq12 : InN 12 q)
    (k : ∀ H' p, Fr [] H H' → GL [s, d] H' p 11 → D.nx [some (.ref s), y1, some (.ref u), some (.int q.a), some (.int q.d), some (.int q.b), some (.int q.c), y7, y8, y9, y10, y11, y12, some (.ref p), y14, y15] H') :
    rd__law_near_7 K D [some (.ref s), y1, some (.ref u), some (.int q.a), some (.int q.d), some (.int q.b), some (.int q.c), y7, y8, y9, y10, y11, y12, y13, y14, y15] H := by
  obtain ⟨h1, h2, h3, h4⟩ := hq12
  have hin : ∀ {ns : List Int}, (∀ i ∈ ns, i = (q.a : Int) ∨ i = (q.d : Int) ∨ i = (q.b : Int) ∨ i = (q.c : Int)) → ∀ i ∈ ns, i.natAbs < 10 ^ 12 := fun h i m => by
    rcases h i m with rfl | rfl | rfl | rfl <;> omega
  have sq4 : ∀ x ∈ [PyData.int (q.a : Int), .int q.d, .int q.b, .int q.c], Sq 0 64 x := fun x m => by
    simp only [List.mem_cons, List.not_mem_nil, or_false] at m
    rcases m with rfl | rfl | rfl | rfl <;> exact Sq.nat (by omega)
  have dz4 : ∀ (S : List Addr) (H : Hp), DzA S H (four q) [PyData.int (q.a : Int), .int q.d, .int q.b, .int q.c] := fun S H => .cons (.int _) (.cons (.int _) (.cons (.int _) (.cons (.int _) .nil)))
  -- list(deed)
  refine ⟨_, rfl, u, _, rfl, .inr (SqT.of hu), fun l1 hl1 => ?_⟩
  have f1 := Fr.new (S := []) (o := .lst (four q)) hl1
  obtain ⟨o1, o2, _⟩ := hk.apart hl1
  have g1 : GoodV [s, d] (upd H l1 (.lst (four q))) (.ref l1) := ⟨_, .inl (.lst upd_same (by simp [o1, o2]) (dz4 _ _)), (Sq.lst (n := 0) (w := 64) (m := 4) sq4 (Nat.le_refl _)).up (by decide) (by decide)⟩
  generalize upd H l1 (.lst (four q)) = H1 at f1 g1 ⊢
  have hu1 := f1.tups _ _ hu
  -- deed[:3]
  refine ⟨_, rfl, 3, rfl, slA_of hu1 (cut_to 3) fun H2 u2 f2 e2 => ?_⟩
  have g2 : GoodV [s, d] H2 (.ref u2) := good_ints (ns := [(q.a : Int), q.d, q.b]) e2 (hin (by simp)) (Nat.le_of_ble_eq_true rfl)
  -- deed + (a,)
  refine ⟨_, rfl, _, rfl, szl (Nat.le_of_ble_eq_true rfl), fun z3 hz3 => ?_⟩
  have fz3 := Fr.new (S := []) (o := .tup [.int q.a]) hz3
  refine catA_of (fz3.tups _ _ (f2.tups _ _ hu1)) upd_same (Nat.le_of_ble_eq_true rfl) fun H3 u3 f3' e3 => ?_
  have f3 := fz3.trans f3'
  have g3 : GoodV [s, d] H3 (.ref u3) := good_ints (ns := [(q.a : Int), q.d, q.b, q.c, q.a]) e3 (hin (by simp)) (Nat.le_of_ble_eq_true rfl)
  -- ()
  refine ⟨szl (Nat.zero_le _), fun u4 hu4 => ?_⟩
  have f4 := Fr.new (S := []) (o := .tup []) hu4
  have g4 : GoodV [s, d] (upd H3 u4 (.tup [])) (.ref u4) := good_ints (ns := []) upd_same (fun _ m => absurd m List.not_mem_nil) (Nat.zero_le _)
  generalize upd H3 u4 (.tup []) = H4 at f4 g4 ⊢
  -- (a, a, a, a)
  refine ⟨_, rfl, _, rfl, _, rfl, _, rfl, szl (Nat.le_of_ble_eq_true rfl), fun u5 hu5 => ?_⟩
  have f5 := Fr.new (S := []) (o := .tup [.int q.a, .int q.a, .int q.a, .int q.a]) hu5
  have g5 : GoodV [s, d] (upd H4 u5 (.tup [.int q.a, .int q.a, .int q.a, .int q.a])) (.ref u5) := good_ints (ns := [(q.a : Int), q.a, q.a, q.a]) upd_same (hin (by simp)) (Nat.le_of_ble_eq_true rfl)
  generalize upd H4 u5 (.tup [.int q.a, .int q.a, .int q.a, .int q.a]) = H5 at f5 g5 ⊢
  have f05 := ((((f1.trans f2).trans f3).trans f4).trans f5)
  have hu5 := f05.tups _ _ hu
  -- (deed,)
  refine ⟨_, rfl, szl (Nat.le_of_ble_eq_true rfl), fun u6 hu6 => ?_⟩
  have f6 := Fr.new (S := []) (o := .tup [.ref u]) hu6
  have g6 : GoodV [s, d] (upd H5 u6 (.tup [.ref u])) (.ref u6) := ⟨_, .inl (.tup upd_same (.cons (.tup (f6.tups _ _ hu5) (dz4 _ _)) .nil)), (Sq.tup (n := 1) (w := 4 * 65) (m := 1) (fun x m => by
    rw [List.mem_singleton.mp m]
    exact Sq.tup (n := 0) (w := 64) (m := 4) sq4 (Nat.le_refl _)) (Nat.le_refl _)).up (by decide) (by decide)⟩
  generalize upd H5 u6 (.tup [.ref u]) = H6 at f6 g6 ⊢
  -- {a: d}
  intro u7 hu7
  refine ⟨_, rfl, _, rfl, upd_same, [(Sum.inl (q.a : Int), .int (q.d : Int))], rfl, Nat.le_of_ble_eq_true rfl, ?_⟩
  obtain ⟨r1, r2, _⟩ := hk.apart ((f05.trans f6).free hu7)
  have f7 : Fr [] H6 (upd (upd H6 u7 (.dK [])) u7 (.dK (mergeK [] [(Sum.inl (q.a : Int), V.int (q.d : Int))]))) := (Fr.new hu7).set (.inl hu7) (fun xs z => by rw [upd_same] at z; cases z)
  have g7 : GoodV [s, d] (upd (upd H6 u7 (.dK [])) u7 (.dK (mergeK [] [(Sum.inl (q.a : Int), V.int (q.d : Int))]))) (.ref u7) := by
    refine ⟨_, .inr ⟨u7, q.a, q.d, rfl, rfl, by simp [r1, r2], upd_same⟩, ?_⟩
    have i1 : Sq 0 64 (.int (q.a : Int)) := Sq.nat (by omega)
    have i2 : Sq 0 64 (.int (q.d : Int)) := Sq.nat (by omega)
    exact (i1.dict i2).up (by decide) (by decide)
  generalize upd (upd H6 u7 (.dK [])) u7 (.dK (mergeK [] [(Sum.inl (q.a : Int), V.int (q.d : Int))])) = H7 at f7 g7 ⊢
  have f07 := (f05.trans f6).trans f7
  have hu7' := f07.tups _ _ hu
  -- [deed]
  refine ⟨_, rfl, szl (Nat.le_of_ble_eq_true rfl), fun u8 hu8 => ?_⟩
  have f8 := Fr.new (S := []) (o := .lst [.ref u]) hu8
  obtain ⟨t1, t2, _⟩ := hk.apart (f07.free hu8)
  have g8 : GoodV [s, d] (upd H7 u8 (.lst [.ref u])) (.ref u8) := ⟨_, .inl (.lst upd_same (by simp [t1, t2]) (.cons (.tup (f8.tups _ _ hu7') (dz4 _ _)) .nil)), (Sq.lst (n := 1) (w := 4 * 65) (m := 1) (fun x m => by
    rw [List.mem_singleton.mp m]
    exact Sq.tup (n := 0) (w := 64) (m := 4) sq4 (Nat.le_refl _)) (Nat.le_refl _)).up (by decide) (by decide)⟩
  generalize upd H7 u8 (.lst [.ref u]) = H8 at f8 g8 ⊢
  have f08 := f07.trans f8
  -- the list
  refine ⟨szl (Nat.le_of_ble_eq_true rfl), fun p hp => ?_⟩
  obtain ⟨v1, v2, _⟩ := hk.apart (f08.free hp)
  have fp := Fr.new (S := []) (o := .lst [.ref l1, .ref u2, .ref u3, .ref u4, .non, .ref u5, .ref u6, .str "0312", .ref u7, .ref u8, .int 7]) hp
  refine k _ p (f08.trans fp) ⟨by simp [v1, v2], _, upd_same, Nat.le_of_ble_eq_true rfl, fun y my => ?_⟩
  simp only [List.mem_cons, List.not_mem_nil, or_false] at my
  rcases my with rfl | rfl | rfl | rfl | rfl | rfl | rfl | rfl | rfl | rfl | rfl
  · exact ((((((((g1.fr0 f2).fr0 f3).fr0 f4).fr0 f5).fr0 f6).fr0 f7).fr0 f8).fr0 fp)
  · exact (((((((g2.fr0 f3).fr0 f4).fr0 f5).fr0 f6).fr0 f7).fr0 f8).fr0 fp)
  · exact ((((((g3.fr0 f4).fr0 f5).fr0 f6).fr0 f7).fr0 f8).fr0 fp)
  · exact (((((g4.fr0 f5).fr0 f6).fr0 f7).fr0 f8).fr0 fp)
  · exact ⟨_, .inl .non, Sq.non.up (by decide) (by decide)⟩
  · exact ((((g5.fr0 f6).fr0 f7).fr0 f8).fr0 fp)
  · exact ((((g6.fr0 f7).fr0 f8).fr0 fp))
  · exact ⟨_, .inl (.str _), ⟨by decide +kernel, by decide +kernel, by decide +kernel, by decide +kernel⟩⟩
  · exact ((g7.fr0 f8).fr0 fp)
  · exact g8.fr0 fp
  · exact ⟨_, .inl (.int _), (Sq.int (i := 7) (by decide)).up (by decide) (by decide)⟩
theorem near_8 {p1 p2 p3 p4 : Addr} {y2 y3 y4 y5 y6 y7 y8 : Option V} (hk : Stk s d c H) (G1 : GL [s, d] H p1 50) (G2 : GL [s, d] H p2 50) (G3 : GL [s, d] H p3 7) (G4 : GL [s, d] H p4 11)
    (k : ∀ H' p, Fr [s, d] H H' → Stk s d c H' → GL [s, d] H' p 200 → D.rt (.ref p) H') :
    rdS__law_near_8 K D [some (.ref s), y1, y2, y3, y4, y5, y6, y7, y8, some (.ref p1), y10, some (.ref p2), some (.ref p3), some (.ref p4), y14, y15] H := by
  obtain ⟨n1, x1, e1, l1, g1⟩ := G1
  obtain ⟨n2, x2, e2, l2, g2⟩ := G2
  obtain ⟨n3, x3, e3, l3, g3⟩ := G3
  obtain ⟨n4, x4, e4, l4, g4⟩ := G4
  refine ⟨_, rfl, _, rfl, p1, p2, x1, x2, rfl, rfl, e1, e2, szl (by omega), fun c1 hc1 => ?_⟩
  have f1 := Fr.new (S := []) (o := .lst (x1 ++ x2)) hc1
  refine ⟨_, rfl, c1, p3, _, x3, rfl, rfl, upd_same, f1.keep _ _ e3 List.not_mem_nil, szl (by rw [List.length_append]; omega), fun c2 hc2 => ?_⟩
  have f2 := Fr.new (S := []) (o := .lst (x1 ++ x2 ++ x3)) hc2
  have f12 := f1.trans f2
  have e42 := f12.keep _ _ e4 List.not_mem_nil
  obtain ⟨a1, a2⟩ : p4 ≠ s ∧ p4 ≠ d := by simpa using n4
  have nc2 : H c2 = none := f1.free hc2
  obtain ⟨o1, o2, _⟩ := hk.apart nc2
  refine ⟨_, rfl, _, rfl, s, d, c, p4, x4, rfl, hk.fr0' f12, e42, by omega, a1, a2, fun H3 p ys pm f3 np k3 ep => ?_⟩
  refine ⟨3, rfl, p, ys, rfl, SqL.of ep, fun p5 hp5 => ?_⟩
  have ec : cutV ys none (some 3) = ys.take 3 := cut_to 3
  rw [ec]
  have f5 := Fr.new (S := []) (o := .lst (ys.take 3)) hp5
  have ec2 := f5.keep _ _ (f3.keep _ _ (upd_same (H := upd H c1 (.lst (x1 ++ x2))) (a := c2) (o := .lst (x1 ++ x2 ++ x3))) (by simp [o1, o2])) List.not_mem_nil
  refine ⟨c2, p5, _, _, rfl, rfl, ec2, upd_same, szl (by rw [List.length_append, List.length_append, List.length_take]; omega), fun c3 hc3 => ?_⟩
  have f6 := Fr.new (S := []) (o := .lst (x1 ++ x2 ++ x3 ++ ys.take 3)) hc3
  have g := (f12.of0 (S := [s, d])).trans ((f3.trans f5.of0).trans f6.of0)
  obtain ⟨r1, r2, _⟩ := hk.apart (((f12.of0 (S := [s, d])).trans (f3.trans f5.of0)).free hc3)
  refine k _ c3 g ((k3.fr0' f5).fr0' f6) ⟨by simp [r1, r2], _, upd_same, by rw [List.length_append, List.length_append, List.length_append, List.length_take]; omega, fun y my => ?_⟩
  rcases List.mem_append.mp my with my | my
  · rcases List.mem_append.mp my with my | my
    · rcases List.mem_append.mp my with my | my
      · exact (g1 y my).fr g
      · exact (g2 y my).fr g
    · exact (g3 y my).fr g
  · exact (g4 y (pm.mem_iff.mp (List.mem_of_mem_take my))).fr g
end
theorem ok_near (F : FnP K "_law_near" s__law_near f fd) (g_str : mg "str" = none) (g_list : mg "list" = none) (g_range : mg "range" = none) {f__law_draw : Addr} {fd__law_draw : FuncData} (F__law_draw : FnP K "_law_draw" s__law_draw f__law_draw fd__law_draw) (m__law_draw : mg "_law_draw" = some (.ref f__law_draw)) {f__law_shuffled : Addr} {fd__law_shuffled : FuncData} (F__law_shuffled : FnP K "_law_shuffled" s__law_shuffled f__law_shuffled fd__law_shuffled) (m__law_shuffled : mg "_law_shuffled" = some (.ref f__law_shuffled)) (G__law_draw : FnG P w K mg base CX0 1 f__law_draw fd__law_draw ["stock", "size"] spDraw) (G__law_shuffled : FnG P w K mg base CX0 2 f__law_shuffled fd__law_shuffled ["stock", "row"] spShufV) : FnG P w K mg base CX0 3 f fd ["stock", "web", "deed"] spNear := by
  have b__law_draw : Binds K fd__law_draw ["stock", "size"] [] := F__law_draw.bindsN fun _ _ _ _ _ _ us hl => match us, hl with | [_, _], _ => rfl
  have b__law_shuffled : Binds K fd__law_shuffled ["stock", "row"] [] := F__law_shuffled.bindsN fun _ _ _ _ _ _ us hl => match us, hl with | [_, _], _ => rfl
  refine okG0 F sc__law_near (fun vs H Q E h => ?_) (fun cdv A outer s0 H vs Q E hS hr h => ?_)
  · obtain ⟨_, _, _, _, _, _, _, _, rfl, _⟩ := h
    rfl
  · obtain ⟨s, d, c, v, vd, n, ps, q, rfl, hk, ⟨hv, hw⟩, hd, hq, k⟩ := h
    refine ⟨rdS__law_near_1 K, (pss_cons (ps_asg (pv 2) (pg_tupK K (n := 4) (by rfl) (pgs_cons (pg_name (i := 3) sc__law_near.nd rfl (Or.inl rfl)) (pgs_cons (pg_name (i := 4) sc__law_near.nd rfl (Or.inl rfl)) (pgs_cons (pg_name (i := 5) sc__law_near.nd rfl (Or.inl rfl)) (pgs_cons (pg_name (i := 6) sc__law_near.nd rfl (Or.inl rfl)) pgs_nil))))))
      (pss_cons (ps_asg (pe_tup (pa_cons (pe_callG G__law_draw hS (hr.mono (by decide)) (by rfl) m__law_draw F__law_draw.kp b__law_draw .nil pass0 (pa_cons (pv 0) (pa_cons pe_int pa_nil))) (pa_cons (pe_ix (ixT K) (pv 1) pe_int (fun _ _ => rfl)) pa_nil))) (pg_tupK K (n := 2) (by rfl) (pgs_cons (pg_name (i := 7) sc__law_near.nd rfl (Or.inr rfl)) (pgs_cons (pg_name (i := 8) sc__law_near.nd rfl (Or.inl rfl)) pgs_nil))))
      (pss_cons (ps_setLc (i := 9) (own := [("place", 14)]) (g := (gName 14)) (tt := tYes) rfl sc__law_near.nd rfl rfl (sw_true rfl rfl rfl (by decide +kernel)) (pi_list (pe_slice (slL K) (pe_callG G__law_shuffled hS (hr.mono (by decide)) (by rfl) m__law_shuffled F__law_shuffled.kp b__law_shuffled .nil pass0 (pa_cons (pv 0) (pa_cons (pe_listRg rfl (by rfl) g_list (prg_1 (by rfl) g_range (pv 8))) pa_nil))) po_none (po_some pe_int))) (blkOk_by (own := [("place", 14)]) (N := N__law_near) (sc := defScope s__law_near) (by decide +kernel)) (fun _ _ _ _ _ => (pg_name (i := 14) sc__law_near.nd rfl (Or.inl rfl))) (fun _ _ _ _ _ => pts_nil) (fun _ _ _ _ _ => (pe_op (catAK K) (pe_op (catAK K) (pe_slice (slAK K) (pv 2) po_none (po_some (pv 7))) (pe_tup (pa_cons (pv 14) pa_nil))) (pe_slice (slAK K) (pv 2) (po_some (pe_op op_add (pv 7) pe_int)) po_none))))
      (pss_cons (ps_set (i := 10) sc__law_near.nd rfl (Or.inl rfl) (pe_lst (pa_cons pe_bl (pa_cons pe_bl (pa_cons pe_non (pa_cons (pe_un un_neg pe_int) (pa_cons (pe_op op_sub pe_int (pv 8)) (pa_cons (pv 8) (pa_cons (pe_op op_add (pv 8) pe_int) (pa_cons (pe_op op_pow pe_int pe_int) (pa_cons (pe_callTy call_str_int (by rfl) g_str (by decide +kernel) (pa_cons (pe_ix (ixT K) (pv 2) (pv 7) (fun _ _ => rfl)) pa_nil)) (pa_cons (pe_tup (pa_cons (pe_ix (ixT K) (pv 2) (pv 7) (fun _ _ => rfl)) pa_nil)) (pa_cons (pe_lst (pa_cons (pe_ix (ixT K) (pv 2) (pv 7) (fun _ _ => rfl)) pa_nil)) (pa_cons (pe_op op_sub (pv 3) (pv 8)) pa_nil))))))))))))))
      (pss_cons (ps_setLc (i := 11) (own := [("own", 15)]) (g := (gName 15)) (tt := tYes) rfl sc__law_near.nd rfl rfl (sw_true rfl rfl rfl (by decide +kernel)) (pi_list (pe_slice (slL K) (pe_callG G__law_shuffled hS (hr.mono (by decide)) (by rfl) m__law_shuffled F__law_shuffled.kp b__law_shuffled .nil pass0 (pa_cons (pv 0) (pa_cons (pv 10) pa_nil))) po_none (po_some pe_int))) (blkOk_by (own := [("own", 15)]) (N := N__law_near) (sc := defScope s__law_near) (by decide +kernel)) (fun _ _ _ _ _ => (pg_name (i := 15) sc__law_near.nd rfl (Or.inl rfl))) (fun _ _ _ _ _ => pts_nil) (fun _ _ _ _ _ => (pe_op (catAK K) (pe_op (catAK K) (pe_slice (slAK K) (pv 2) po_none (po_some (pv 7))) (pe_tup (pa_cons (pv 15) pa_nil))) (pe_slice (slAK K) (pv 2) (po_some (pe_op op_add (pv 7) pe_int)) po_none))))
      (pss_cons (ps_set (i := 12) sc__law_near.nd rfl (Or.inl rfl) (pe_lst (pa_cons (pe_tup (pa_cons (pv 3) (pa_cons (pv 4) (pa_cons (pv 6) (pa_cons (pv 5) pa_nil))))) (pa_cons (pe_tup (pa_cons (pv 4) (pa_cons (pv 3) (pa_cons (pv 5) (pa_cons (pv 6) pa_nil))))) (pa_cons (pe_tup (pa_cons (pv 5) (pa_cons (pv 6) (pa_cons (pv 3) (pa_cons (pv 4) pa_nil))))) (pa_cons (pe_tup (pa_cons (pv 6) (pa_cons (pv 5) (pa_cons (pv 4) (pa_cons (pv 3) pa_nil))))) (pa_cons (pe_tup (pa_cons (pv 3) (pa_cons (pv 5) (pa_cons (pv 4) (pa_cons (pv 6) pa_nil))))) (pa_cons (pe_tup (pa_cons (pv 3) (pa_cons (pv 6) (pa_cons (pv 5) (pa_cons (pv 4) pa_nil))))) (pa_cons (pe_tup (pa_cons (pv 4) (pa_cons (pv 5) (pa_cons (pv 3) (pa_cons (pv 6) pa_nil))))) pa_nil)))))))))
      (pss_cons (ps_set (i := 13) sc__law_near.nd rfl (Or.inl rfl) (pe_lst (pa_cons (pe_callTy (lstOfK K) (by rfl) g_list (by decide +kernel) (pa_cons (pv 2) pa_nil)) (pa_cons (pe_slice (slAK K) (pv 2) po_none (po_some pe_int)) (pa_cons (pe_op (catAK K) (pv 2) (pe_tup (pa_cons (pv 3) pa_nil))) (pa_cons (pe_tup pa_nil) (pa_cons pe_non (pa_cons (pe_tup (pa_cons (pv 3) (pa_cons (pv 3) (pa_cons (pv 3) (pa_cons (pv 3) pa_nil))))) (pa_cons (pe_tup (pa_cons (pv 2) pa_nil)) (pa_cons pe_str (pa_cons (pe_disp (pps_cons (pv 3) (pv 4) pps_nil) rfl rfl (List.cons_ne_nil _ _) (Nat.le_of_ble_eq_true rfl)) (pa_cons (pe_lst (pa_cons (pv 2) pa_nil)) (pa_cons pe_int pa_nil)))))))))))))
      (pss_one (ps_ret (pe_op op_cat (pe_op op_cat (pe_op op_cat (pv 9) (pv 11)) (pv 12)) (pe_slice (slL K) (pe_callG G__law_shuffled hS (hr.mono (by decide)) (by rfl) m__law_shuffled F__law_shuffled.kp b__law_shuffled .nil pass0 (pa_cons (pv 0) (pa_cons (pv 13) pa_nil))) po_none (po_some pe_int)))))))))))), ?_⟩
    have hn := hw.hi
    have hq12 : InN 12 q := ⟨by have := hq.1; omega, by have := hq.2.1; omega, by have := hq.2.2.1; omega, by have := hq.2.2.2; omega⟩
    obtain ⟨u, rfl, hu⟩ := hd.quad_inv
    obtain ⟨wa, t, xs, rfl, ha, ht, hx⟩ := hv.web_inv
    refine ⟨_, rfl, u, _, rfl, SqT.of hu, rfl, _, _, rfl, _, _, rfl, _, _, rfl, _, _, rfl, rfl, ?_⟩
    refine ⟨_, rfl, s, d, c, 4, rfl, hk, by decide, by decide, fun H1 r hr1 k1 f1 => ?_⟩
    refine ⟨_, rfl, wa, _, 0, _, rfl, rfl, SqT.of (f1.tups _ _ ha), atI_nat (j := 0) rfl, szl (Nat.le_of_ble_eq_true rfl), fun p hp => ?_⟩
    have fp := Fr.new (S := []) (o := .tup [.int r, .int n]) hp
    refine ⟨p, _, rfl, SqT.of upd_same, rfl, _, _, rfl, _, _, rfl, rfl, ?_⟩
    have g1 := f1.trans fp.of0
    have k1' := k1.fr0' fp
    generalize upd H1 p (.tup [.int r, .int n]) = H1' at fp g1 k1' ⊢
    refine near_3 (K := K) k1' (g1.tups _ _ hu) hq hn hr1 fun H2 p2 f2 k2 G2 => ?_
    have g2 := g1.trans f2
    refine near_4 (K := K) k2 (g2.tups _ _ hu) hq12 hn hq12.1 hr1 fun H3 e xs3 f3 ne ee le ie => ?_
    have k3 := k2.fr0' f3
    have g3 := g2.trans f3.of0
    obtain ⟨o1, o2, _⟩ := k2.apart ne
    refine near_5 (K := K) k3 (g3.tups _ _ hu) hq12 hr1 ee (by simp [o1, o2]) le ie fun H4 p4 f4 k4 G4 => ?_
    have g4 := g3.trans f4
    refine near_6 (K := K) k4 hq12.1 hq12.2.1 hq12.2.2.1 hq12.2.2.2 fun H5 p5 f5 G5 => ?_
    have k5 := k4.fr0' f5
    have g5 := g4.trans f5.of0
    refine near_7 (K := K) (q := q) k5 (g5.tups _ _ hu) hq12 fun H6 p6 f6 G6 => ?_
    have k6 := k5.fr0' f6
    have g6 := g5.trans f6.of0
    refine near_8 (K := K) k6 ((((G2.fr f3.of0).fr f4).fr f5.of0).fr f6.of0) ((G4.fr f5.of0).fr f6.of0) (G5.fr f6.of0) G6 fun H7 p7 f7 k7 G7 => ?_
    exact k H7 p7 (g6.trans f7) k7 G7
end
end Lt

set_option Elab.async false
set_option linter.all false
set_option maxRecDepth 100000
set_option maxHeartbeats 8000000
namespace Lt
open PySem PySem.Spec PyProof.Rows L2
theorem sm_errI (n : Nat) (f : Nat → Nat → Bool) (a d b c : Int) : Sm 2 1000 (errQ n f a d b c) := by
  unfold errQ
  split
  · exact ⟨by decide +kernel, by decide +kernel, by decide +kernel, by decide +kernel, by decide +kernel⟩
  split
  · exact ⟨by decide +kernel, by decide +kernel, by decide +kernel, by decide +kernel, by decide +kernel⟩
  split
  · exact ⟨by decide +kernel, by decide +kernel, by decide +kernel, by decide +kernel, by decide +kernel⟩
  split
  · exact ⟨by decide +kernel, by decide +kernel, by decide +kernel, by decide +kernel, by decide +kernel⟩
  · exact ⟨by decide +kernel, by decide +kernel, by decide +kernel, by decide +kernel, by decide +kernel⟩
theorem sm_pairE {a : PyData} (h : Sm 2 1000 a) : Sm 3 (2 * 1001) (.list [a, a]) := Sm.lst (n := 2) (w := 1000) (m := 2) (fun x m => by
  simp only [List.mem_cons, List.not_mem_nil, or_false] at m
  rcases m with rfl | rfl <;> exact h) (Nat.le_of_ble_eq_true rfl)
theorem tup_dPs : ∀ ps : List Pr, tupOnlyA (dPs ps) = true
  | [] => rfl
  | p :: ps => by
    show (tupOnly (dP p) && tupOnlyA (dPs ps)) = true
    rw [tup_dPs ps]
    rfl
theorem tup_dW (n : Nat) (ps : List Pr) : tupOnly (dW n ps) = true := by
  show (true && (tupOnlyA (dPs ps) && true)) = true
  rw [tup_dPs ps]
  rfl
/-- what is told of a value -/
def Told (H : Hp) (vd : V) (n : Nat) (ps : List Pr) (e : PyData) : Prop := (∃ q : Qi, Tp H vd (dqi q) ∧ e = errQ n (tied ps) q.a q.d q.b q.c) ∨ (Off [] H vd ∧ e = .str "form")
theorem Told.fr {H H1 : Hp} {vd : V} {n : Nat} {ps : List Pr} {e : PyData} (f : Fr [] H H1) (h : Told H vd n ps e) : Told H1 vd n ps e := by
  rcases h with ⟨q, h1, h2⟩ | ⟨h1, h2⟩
  · exact .inl ⟨q, h1.fr f, h2⟩
  · exact .inr ⟨h1.fr f, h2⟩
theorem Told.sm {H : Hp} {vd : V} {n : Nat} {ps : List Pr} {e : PyData} (h : Told H vd n ps e) : Sm 2 1000 e := by
  rcases h with ⟨q, h1, rfl⟩ | ⟨h1, rfl⟩
  · exact sm_errI _ _ _ _ _ _
  · exact ⟨by decide +kernel, by decide +kernel, by decide +kernel, by decide +kernel, by decide +kernel⟩
section
variable {P : Program} {w : World} {K : PySem.W.Frag} {mg : Str → Option Value} {base : Heap} {f : Addr} {fd : FuncData}
theorem told_deed {H : Hp} {v vd : V} {n : Nat} {ps : List Pr} {e : PyData} {Q : VK} {E : XK} (h : Told H vd n ps e) (hv : OfWeb H v n ps) (k : Ret H e Q) : spDeedV [v, vd] H Q E := by
  rcases h with ⟨q, h1, rfl⟩ | ⟨h1, rfl⟩
  · exact .inl ⟨v, vd, n, ps, q, rfl, hv, h1, k⟩
  · exact .inr ⟨v, vd, n, ps, rfl, hv, h1, k⟩
theorem told_fault {H : Hp} {v vd : V} {n : Nat} {ps : List Pr} {e : PyData} {Q : VK} {E : XK} (h : Told H vd n ps e) (hv : OfWeb H v n ps) (k : Ret H e Q) : spFaultV [v, vd] H Q E := by
  rcases h with ⟨q, h1, rfl⟩ | ⟨h1, rfl⟩
  · exact .inl ⟨v, vd, n, ps, q, rfl, hv, h1, k⟩
  · exact .inr ⟨v, vd, n, ps, rfl, hv, h1, k⟩
def spLiftW : Sp := fun vs H Q _ => ∃ (v vd : V) (n : Nat) (ps : List Pr) (q : Qd), vs = [v, vd] ∧ OfWeb H v n ps ∧ Tp H vd (dq q) ∧ q.a < n ∧ q.b < n ∧ q.c < n ∧ ∀ H', Fr [] H H' → Q (.bl (isLiftQ (tied ps) q)) H'
theorem ok_law_lift (F : FnP K "_law_is_lift" s__law_is_lift f fd) {f__law_is_tied : Addr} {fd__law_is_tied : FuncData} (F__law_is_tied : FnP K "_law_is_tied" s__law_is_tied f__law_is_tied fd__law_is_tied) (m__law_is_tied : mg "_law_is_tied" = some (.ref f__law_is_tied)) (G__law_is_tied : FnG P w K mg base CX0 1 f__law_is_tied fd__law_is_tied ["web", "a", "b"] spTied) : FnG P w K mg base CX0 2 f fd ["web", "deed"] spLiftW := by
  have b__law_is_tied : Binds K fd__law_is_tied ["web", "a", "b"] [] := F__law_is_tied.bindsN fun _ _ _ _ _ _ us hl => match us, hl with | [_, _, _], _ => rfl
  refine okG0 F sc__law_is_lift (fun vs H Q E h => ?_) (fun cdv A outer s H vs Q E hS hr h => ?_)
  · obtain ⟨_, _, _, _, _, rfl, _⟩ := h
    rfl
  · obtain ⟨v, vd, n, ps, q, rfl, ⟨hv, hw⟩, hd, ha, hb, hc, k⟩ := h
    refine ⟨_, (pss_cons (ps_asg (pv 1) (pg_tupK K (n := 4) (by rfl) (pgs_cons (pg_name (i := 2) sc__law_is_lift.nd rfl (Or.inl rfl)) (pgs_cons (pg_name (i := 3) sc__law_is_lift.nd rfl (Or.inl rfl)) (pgs_cons (pg_name (i := 4) sc__law_is_lift.nd rfl (Or.inl rfl)) (pgs_cons (pg_name (i := 5) sc__law_is_lift.nd rfl (Or.inl rfl)) pgs_nil))))))
      (pss_one (ps_ret (pe_cmpR op_eq (pe_callG G__law_is_tied hS (hr.mono (by decide)) (by rfl) m__law_is_tied F__law_is_tied.kp b__law_is_tied .nil pass0 (pa_cons (pv 0) (pa_cons (pv 4) (pa_cons (pv 2) pa_nil)))) (pe_callG G__law_is_tied hS (hr.mono (by decide)) (by rfl) m__law_is_tied F__law_is_tied.kp b__law_is_tied .nil pass0 (pa_cons (pv 0) (pa_cons (pv 5) (pa_cons (pv 2) pa_nil)))) (nomark _))))), ?_⟩
    obtain ⟨u, rfl, hu⟩ := hd.quad_inv
    refine ⟨_, rfl, u, _, rfl, SqT.of hu, rfl, _, _, rfl, _, _, rfl, _, _, rfl, _, _, rfl, rfl, ?_⟩
    refine ⟨_, rfl, _, rfl, _, rfl, v, n, ps, q.b, q.a, rfl, ⟨hv, hw⟩, hb, ha, fun H1 f1 => ?_⟩
    refine ⟨_, rfl, _, rfl, _, rfl, v, n, ps, q.c, q.a, rfl, ⟨hv.fr f1, hw⟩, hc, ha, fun H2 f2 => ⟨rfl, ?_⟩⟩
    rw [bl_eq]
    have e : (tied ps q.b q.a == tied ps q.c q.a) = isLiftQ (tied ps) q := by
      unfold isLiftQ liftB
      rw [tied_sym ps q.b q.a, tied_sym ps q.c q.a]
    rw [e]
    exact k H2 (f1.trans f2)
def spJudged : Sp := fun vs H Q _ => ∃ (v vd : V) (n : Nat) (ps : List Pr), vs = [v, vd] ∧ OfWeb H v n ps ∧ GoodV [] H vd ∧ ∀ H', Fr [] H H' → Q (.bl true) H'
def rd__law_is_judged_1 (K : PySem.W.Frag) : TS := (tPar 2 3 (tCons (tCB (rReprY K) (tCons (tLstS (tCons (tVar 0) (tCons (tVar 1) tNil))) tNil)) (tCons (tCall spFaultV [] E0 (tCons (tVar 0) (tCons (tVar 1) tNil))) tNil)))
def rd__law_is_judged_2 (K : PySem.W.Frag) : TS := (tAsg (tLst (tCons (tCall spDeedV [] E0 (tCons (tVar 0) (tCons (tVar 1) tNil))) (tCons (tCallN spDeedV (fun ws => match ws with | [a0, a1] => [a1, a0] | _ => []) E0 (tCons (tVar 1) (tCons (tVar 0) tNil))) tNil))) (gName 4))
def rd__law_is_judged_3 (K : PySem.W.Frag) : TS := (tIfS (tOr (tTest (tOp rNe (tCB (rRepr K) (tCons (tVar 4) tNil)) (tCB (rRepr K) (tCons (tLst (tCons (tVar 3) (tCons (tVar 3) tNil))) tNil)))) (tTest (tOp rNe (tCB (rReprY K) (tCons (tLstS (tCons (tVar 0) (tCons (tVar 1) tNil))) tNil)) (tVar 2)))) (tRet (tC (.bl false))) tNext)
def rd__law_is_judged_4 (K : PySem.W.Frag) : TS := (tIfS (tTest (tOp rNotNo (tVar 3) (tC .non))) (tRet (tC (.bl true))) tNext)
def rd__law_is_judged_5 (K : PySem.W.Frag) : TS := (tAsg (tCall spLiftW [] E0 (tCons (tVar 0) (tCons (tVar 1) tNil))) (gName 5))
def rd__law_is_judged_6 (K : PySem.W.Frag) : TS := (tRet (tOp rEq (tCB (rRepr K) (tCons (tLst (tCons (tCall spLift [] E0 (tCons (tVar 0) (tCons (tVar 1) tNil))) (tCons (tCallN spLift (fun ws => match ws with | [a0, a1] => [a1, a0] | _ => []) E0 (tCons (tVar 1) (tCons (tVar 0) tNil))) tNil))) tNil)) (tCB (rRepr K) (tCons (tLst (tCons (tVar 5) (tCons (tVar 5) tNil))) tNil))))
def rdS__law_is_judged_6 (K : PySem.W.Frag) : TS := rd__law_is_judged_6 K
def rdS__law_is_judged_5 (K : PySem.W.Frag) : TS := tSeq (rd__law_is_judged_5 K) (rdS__law_is_judged_6 K)
def rdS__law_is_judged_4 (K : PySem.W.Frag) : TS := tSeq (rd__law_is_judged_4 K) (rdS__law_is_judged_5 K)
def rdS__law_is_judged_3 (K : PySem.W.Frag) : TS := tSeq (rd__law_is_judged_3 K) (rdS__law_is_judged_4 K)
def rdS__law_is_judged_2 (K : PySem.W.Frag) : TS := tSeq (rd__law_is_judged_2 K) (rdS__law_is_judged_3 K)
def rdS__law_is_judged_1 (K : PySem.W.Frag) : TS := tSeq (rd__law_is_judged_1 K) (rdS__law_is_judged_2 K)
section
variable {D : Ends} {H : Hp} {v vd due tl : V} {n : Nat} {ps : List Pr} {e t : PyData} {y2 y3 y4 y5 : Option V} {T : List (Option V)}
theorem jd_1 (hw : WebOk n ps) (hv : Tp H v (dW n ps)) (hd : Vd [] H vd e) (hs : Sq 4 2000 e) (ht : Told H vd n ps t)
    (k : ∀ H' due, Fr [] H H' → Tp H' due t → D.nx (some v :: some vd :: some (.str (txt (.list [dW n ps, e]))) :: some due :: T) H') :
    rd__law_is_judged_1 K D (some v :: some vd :: y2 :: y3 :: T) H := by
  refine ⟨_, rfl, _, rfl, szl (Nat.le_of_ble_eq_true rfl), fun L hL hs2 => ?_⟩
  have f1 := Fr.new (S := []) (o := .lst [v, vd]) hL
  refine ⟨L, v, vd, dW n ps, e, rfl, hs2, upd_same, (hv.fr f1).dz, tup_dW n ps, hd.fr f1, sy_two hw.sm.sq hs, ?_⟩
  refine ⟨_, rfl, _, rfl, ?_⟩
  refine told_fault (ht.fr f1) ⟨hv.fr f1, hw⟩ fun H2 r f2 tr => ?_
  exact ⟨_, _, rfl, k H2 r (f1.trans f2) tr⟩
theorem jd_2 (hw : WebOk n ps) (hv : Tp H v (dW n ps)) (ht : Told H vd n ps t)
    (k : ∀ H' p r1 r2, Fr [] H H' → H' p = some (.lst [r1, r2]) → Tp H' r1 t → Tp H' r2 t → D.nx (some v :: some vd :: y2 :: y3 :: some (.ref p) :: T) H') :
    rd__law_is_judged_2 K D (some v :: some vd :: y2 :: y3 :: y4 :: T) H := by
  refine ⟨_, rfl, _, rfl, ?_⟩
  refine told_deed ht ⟨hv, hw⟩ fun H1 r1 f1 t1 => ?_
  refine ⟨_, rfl, _, rfl, ?_⟩
  refine told_deed (ht.fr f1) ⟨hv.fr f1, hw⟩ fun H2 r2 f2 t2 => ?_
  refine ⟨szl (Nat.le_of_ble_eq_true rfl), fun p hp => ?_⟩
  have fp := Fr.new (S := []) (o := .lst [r1, r2]) hp
  exact k _ p r1 r2 ((f1.trans f2).trans fp) upd_same ((t1.fr f2).fr fp) (t2.fr fp)
theorem jd_3 {p : Addr} {r1 r2 : V} (hw : WebOk n ps) (hv : Tp H v (dW n ps)) (hd : Vd [] H vd e) (hs : Sq 4 2000 e) (hsm : Sm 2 1000 t) (ep : H p = some (.lst [r1, r2])) (t1 : Tp H r1 t) (t2 : Tp H r2 t) (hdue : Tp H due t)
    (k : ∀ H', Fr [] H H' → D.nx (some v :: some vd :: some (.str (txt (.list [dW n ps, e]))) :: some due :: some (.ref p) :: T) H') :
    rd__law_is_judged_3 K D (some v :: some vd :: some (.str (txt (.list [dW n ps, e]))) :: some due :: some (.ref p) :: T) H := by
  have sm := sm_pairE hsm
  refine ⟨_, rfl, _, .list [t, t], _, _, rfl, Dp.lst (SqL.of ep) (Tps.cons t1 (.cons t2 .nil)).dp, sm, by decide, by decide, ?_⟩
  refine ⟨_, rfl, _, rfl, szl (Nat.le_of_ble_eq_true rfl), fun q hq => ?_⟩
  have fq := Fr.new (S := []) (o := .lst [due, due]) hq
  refine ⟨_, .list [t, t], _, _, rfl, Dp.lst (SqL.of upd_same) (Tps.cons (hdue.fr fq) (.cons (hdue.fr fq) .nil)).dp, sm, by decide, by decide, ?_⟩
  refine ⟨rfl, _, rfl, noT rfl ?_⟩
  refine ⟨_, rfl, _, rfl, szl (Nat.le_of_ble_eq_true rfl), fun L hL hs2 => ?_⟩
  have fL := Fr.new (S := []) (o := .lst [v, vd]) hL
  have g2 := fq.trans fL
  refine ⟨L, v, vd, dW n ps, e, rfl, hs2, upd_same, (hv.fr g2).dz, tup_dW n ps, hd.fr g2, sy_two hw.sm.sq hs, ?_⟩
  exact ⟨_, rfl, rfl, _, rfl, noT rfl (k _ g2)⟩
end
theorem ok_judged (F : FnP K "_law_is_judged" s__law_is_judged f fd) (g_repr : mg "repr" = none) {f__law_is_lift : Addr} {fd__law_is_lift : FuncData} (F__law_is_lift : FnP K "_law_is_lift" s__law_is_lift f__law_is_lift fd__law_is_lift) (m__law_is_lift : mg "_law_is_lift" = some (.ref f__law_is_lift)) {f__law_fault : Addr} {fd__law_fault : FuncData} (F__law_fault : FnP K "_law_fault" s__law_fault f__law_fault fd__law_fault) (m__law_fault : mg "_law_fault" = some (.ref f__law_fault)) {f_deed_error : Addr} {fd_deed_error : FuncData} (F_deed_error : FnP K "deed_error" s_deed_error f_deed_error fd_deed_error) (m_deed_error : mg "deed_error" = some (.ref f_deed_error)) {f_is_lift : Addr} {fd_is_lift : FuncData} (F_is_lift : FnP K "is_lift" s_is_lift f_is_lift fd_is_lift) (m_is_lift : mg "is_lift" = some (.ref f_is_lift)) (G_deed_error : FnG P w K mg base CX0 4 f_deed_error fd_deed_error ["web", "value"] spDeedV) (G__law_fault : FnG P w K mg base CX0 3 f__law_fault fd__law_fault ["web", "value"] spFaultV)
    (G__law_is_lift : FnG P w K mg base CX0 2 f__law_is_lift fd__law_is_lift ["web", "deed"] spLiftW) (G_is_lift : FnG P w K mg base CX0 2 f_is_lift fd_is_lift ["web", "deed"] spLift) : FnG P w K mg base CX0 5 f fd ["web", "value"] spJudged := by
  have b_deed_error : Binds K fd_deed_error ["web", "value"] [] := F_deed_error.bindsN fun _ _ _ _ _ _ us hl => match us, hl with | [_, _], _ => rfl
  have b__law_fault : Binds K fd__law_fault ["web", "value"] [] := F__law_fault.bindsN fun _ _ _ _ _ _ us hl => match us, hl with | [_, _], _ => rfl
  have b__law_is_lift : Binds K fd__law_is_lift ["web", "deed"] [] := F__law_is_lift.bindsN fun _ _ _ _ _ _ us hl => match us, hl with | [_, _], _ => rfl
  have b_is_lift : Binds K fd_is_lift ["web", "deed"] [] := F_is_lift.bindsN fun _ _ _ _ _ _ us hl => match us, hl with | [_, _], _ => rfl
  have n_deed_error_value_web : NBinds K fd_deed_error ["web", "value"] ["value", "web"] (fun ws => match ws with | [a0, a1] => [a1, a0] | _ => []) := nbinds F_deed_error (fun _ _ _ _ _ _ ws hl => match ws, hl with | [a0, a1], _ => rfl) (fun {zs ws} r => ?_)
  have n_is_lift_deed_web : NBinds K fd_is_lift ["web", "deed"] ["deed", "web"] (fun ws => match ws with | [a0, a1] => [a1, a0] | _ => []) := nbinds F_is_lift (fun _ _ _ _ _ _ ws hl => match ws, hl with | [a0, a1], _ => rfl) (fun {zs ws} r => ?_)
  · refine okG0 F sc__law_is_judged (fun vs H Q E h => ?_) (fun cdv A outer s H vs Q E hS hr h => ?_)
    · obtain ⟨_, _, _, _, rfl, _⟩ := h
      rfl
    · obtain ⟨v, vd, n, ps, rfl, ⟨hv, hw⟩, ⟨e, hd, hs⟩, k⟩ := h
      refine ⟨rdS__law_is_judged_1 K, (pss_cons (ps_par (i := 2) (j := 3) (by rfl) sc__law_is_judged.nd rfl rfl (by decide) rfl rfl (pa_cons (pe_callB (reprYK hS (hu80_of hr) K) (by rfl) g_repr (by decide +kernel) (pa_cons (pe_lstS (pa_cons (pv 0) (pa_cons (pv 1) pa_nil))) pa_nil)) (pa_cons (pe_callG G__law_fault hS (hr.mono (by decide)) (by rfl) m__law_fault F__law_fault.kp b__law_fault .nil pass0 (pa_cons (pv 0) (pa_cons (pv 1) pa_nil))) pa_nil)) (by rfl))
      (pss_cons (ps_set (i := 4) sc__law_is_judged.nd rfl (Or.inl rfl) (pe_lst (pa_cons (pe_callG G_deed_error hS (hr.mono (by decide)) (by rfl) m_deed_error F_deed_error.kp b_deed_error .nil pass0 (pa_cons (pv 0) (pa_cons (pv 1) pa_nil))) (pa_cons (pe_callGN G_deed_error hS (hr.mono (by decide)) (by rfl) m_deed_error F_deed_error.kp n_deed_error_value_web pass0 (pk_cons (pv 1) (pk_cons (pv 0) pk_nil))) pa_nil))))
      (pss_cons (ps_if (PW.pt (pw_or (pt_cmpR op_ne (pe_callB (reprK K hS (hu80_of hr)) (by rfl) g_repr (by decide +kernel) (pa_cons (pv 4) pa_nil)) (pe_callB (reprK K hS (hu80_of hr)) (by rfl) g_repr (by decide +kernel) (pa_cons (pe_lst (pa_cons (pv 3) (pa_cons (pv 3) pa_nil))) pa_nil)) (nomark _)) (pw_or1 (pt_cmpR op_ne (pe_callB (reprYK hS (hu80_of hr) K) (by rfl) g_repr (by decide +kernel) (pa_cons (pe_lstS (pa_cons (pv 0) (pa_cons (pv 1) pa_nil))) pa_nil)) (pv 2) (nomark _))))) (pss_one (ps_ret pe_bl)) pss_nil)
      (pss_cons (ps_if (pt_cmpR op_notN (pv 3) pe_non (nomark _)) (pss_one (ps_ret pe_bl)) pss_nil)
      (pss_cons (ps_set (i := 5) sc__law_is_judged.nd rfl (Or.inl rfl) (pe_callG G__law_is_lift hS (hr.mono (by decide)) (by rfl) m__law_is_lift F__law_is_lift.kp b__law_is_lift .nil pass0 (pa_cons (pv 0) (pa_cons (pv 1) pa_nil))))
      (pss_one (ps_ret (pe_cmpR op_eq (pe_callB (reprK K hS (hu80_of hr)) (by rfl) g_repr (by decide +kernel) (pa_cons (pe_lst (pa_cons (pe_callG G_is_lift hS (hr.mono (by decide)) (by rfl) m_is_lift F_is_lift.kp b_is_lift .nil pass0 (pa_cons (pv 0) (pa_cons (pv 1) pa_nil))) (pa_cons (pe_callGN G_is_lift hS (hr.mono (by decide)) (by rfl) m_is_lift F_is_lift.kp n_is_lift_deed_web pass0 (pk_cons (pv 1) (pk_cons (pv 0) pk_nil))) pa_nil))) pa_nil)) (pe_callB (reprK K hS (hu80_of hr)) (by rfl) g_repr (by decide +kernel) (pa_cons (pe_lst (pa_cons (pv 5) (pa_cons (pv 5) pa_nil))) pa_nil)) (nomark _))))))))), ?_⟩
      obtain ⟨t, ht⟩ : ∃ t, Told H vd n ps t := by
        rcases hd.sort with ⟨q, hq⟩ | ho
        · exact ⟨_, .inl ⟨q, hq, rfl⟩⟩
        · exact ⟨_, .inr ⟨ho, rfl⟩⟩
      refine jd_1 (K := K) hw hv hd hs ht fun H1 due f1 t1 => ?_
      refine jd_2 (K := K) hw (hv.fr f1) (ht.fr f1) fun H2' p r1 r2 f2' ep tr1 tr2 => ?_
      refine jd_3 (K := K) hw ((hv.fr f1).fr f2') ((hd.fr f1).fr f2') hs ht.sm ep tr1 tr2 (t1.fr f2') fun H2 f2'' => ?_
      have f2 := f2'.trans f2''
      have f12 := f1.trans f2
      refine ⟨_, rfl, rfl, _, rfl, ?_⟩
      rcases ht with ⟨q, hq, rfl⟩ | ⟨ho, rfl⟩
      · by_cases c : errQ n (tied ps) q.a q.d q.b q.c = .none
        · rw [c] at t1
          cases t1
          refine noV rfl ?_
          have ok := okI_err.mp c
          have o := okI_deed ok
          have eq := okI_nat ok
          have hq2 : Tp H vd (dq q.nat) := by
            rw [← eq] at hq
            exact hq
          refine ⟨_, rfl, _, rfl, v, vd, n, ps, q.nat, rfl, ⟨hv.fr f12, hw⟩, hq2.fr f12, o.a, o.b, o.c, fun H3 f3 => ?_⟩
          have f13 := f12.trans f3
          refine ⟨_, rfl, _, rfl, v, vd, n, ps, q.nat.a, q.nat.d, q.nat.b, q.nat.c, rfl, ⟨hv.fr f13, hw⟩, hq2.fr f13, o.a, o.b, o.c, fun H4 f4 => ?_⟩
          have f14 := f13.trans f4
          refine ⟨_, rfl, _, rfl, v, vd, n, ps, q.nat.a, q.nat.d, q.nat.b, q.nat.c, rfl, ⟨hv.fr f14, hw⟩, hq2.fr f14, o.a, o.b, o.c, fun H5 f5 => ?_⟩
          have f15 := f14.trans f5
          have sm : ∀ b : Bool, Sm 1 (2 * 1) (.list [.bool b, .bool b]) := fun b => Sm.lst (n := 0) (w := 0) (m := 2) (fun x m => by
            simp only [List.mem_cons, List.not_mem_nil, or_false] at m
            rcases m with rfl | rfl <;> exact Sm.bl b) (Nat.le_of_ble_eq_true rfl)
          refine ⟨szl (Nat.le_of_ble_eq_true rfl), fun p hp => ?_⟩
          have fp := Fr.new (S := []) (o := .lst [.bl (liftB (tied ps) q.nat.a q.nat.b q.nat.c), .bl (liftB (tied ps) q.nat.a q.nat.b q.nat.c)]) hp
          refine ⟨_, .list [.bool (liftB (tied ps) q.nat.a q.nat.b q.nat.c), .bool (liftB (tied ps) q.nat.a q.nat.b q.nat.c)], _, _, rfl, Dp.lst (SqL.of upd_same) (Tps.cons (.bl _) (.cons (.bl _) .nil)).dp, sm _, by decide, by decide, ?_⟩
          refine ⟨_, rfl, _, rfl, szl (Nat.le_of_ble_eq_true rfl), fun p2 hp2 => ?_⟩
          have fp2 := Fr.new (S := []) (o := .lst [.bl (isLiftQ (tied ps) q.nat), .bl (isLiftQ (tied ps) q.nat)]) hp2
          refine ⟨_, .list [.bool (liftB (tied ps) q.nat.a q.nat.b q.nat.c), .bool (liftB (tied ps) q.nat.a q.nat.b q.nat.c)], _, _, rfl, Dp.lst (SqL.of upd_same) (Tps.cons (.bl _) (.cons (.bl _) .nil)).dp, sm _, by decide, by decide, ?_⟩
          refine ⟨rfl, ?_⟩
          rw [decide_eq_true rfl]
          exact k _ ((f15.trans fp).trans fp2)
        · have hn : due ≠ .non := fun z => by
            subst z
            cases e2 : errQ n (tied ps) q.a q.d q.b q.c with
            | none => exact c e2
            | _ =>
              rw [e2] at t1
              cases t1
          rw [decide_eq_false hn]
          exact iteT (k H2 f12)
      · cases t1
        exact k H2 f12
  · match zs, ws, r with
    | [_, _], [_, _], .cons a (.cons b .nil) => exact .cons b (.cons a .nil)
    | [], [], _ => exact .nil
    | [_], [_], _ => exact .nil
    | _ :: _ :: _ :: _, _ :: _ :: _ :: _, _ => exact .nil
  · match zs, ws, r with
    | [_, _], [_, _], .cons a (.cons b .nil) => exact .cons b (.cons a .nil)
    | [], [], _ => exact .nil
    | [_], [_], _ => exact .nil
    | _ :: _ :: _ :: _, _ :: _ :: _ :: _, _ => exact .nil
end
end Lt

set_option Elab.async false
set_option linter.all false
set_option maxRecDepth 100000
set_option maxHeartbeats 8000000
namespace Lt
open PySem PySem.Spec PyProof.Rows L2
theorem tells_turn (n : Nat) (f : Nat → Nat → Bool) (i j : Nat) : tellsOf n f j i = tellsOf n f i j := by
  unfold tellsOf
  congr 1
  funext p
  exact tellB_swap
theorem four_at6 : ∀ i : Nat, i < 4 → ∃ hi : Nat, ([V.int 12, .int 6, .int 9, .int 5])[i]? = some (.int hi) ∧ 2 ≤ hi ∧ hi ≤ 12
  | 0, _ => ⟨12, rfl, by decide, by decide⟩
  | 1, _ => ⟨6, rfl, by decide, by decide⟩
  | 2, _ => ⟨9, rfl, by decide, by decide⟩
  | 3, _ => ⟨5, rfl, by decide, by decide⟩
  | _ + 4, h => absurd h (by omega)
/-- four places of a row that is told twice -/
theorem four_of {n : Nat} {nm : List Nat} (hp : nm.Perm (List.range n)) (h2 : 2 ≤ n) : ∃ q : Qd, InN n q ∧ (nm ++ nm).take 4 = [q.a, q.d, q.b, q.c] := by
  have l := hp.length_eq
  rw [List.length_range] at l
  have lt : ∀ x ∈ nm, x < n := fun x m => List.mem_range.mp (hp.mem_iff.mp m)
  match nm, l, lt with
  | [], l, _ =>
    have : 0 = n := l
    omega
  | [_], l, _ =>
    have : 1 = n := l
    omega
  | [x, y], _, lt => exact ⟨⟨x, y, x, y⟩, ⟨lt x (by simp), lt y (by simp), lt x (by simp), lt y (by simp)⟩, rfl⟩
  | [x, y, z], _, lt => exact ⟨⟨x, y, z, x⟩, ⟨lt x (by simp), lt y (by simp), lt z (by simp), lt x (by simp)⟩, rfl⟩
  | x :: y :: z :: w :: r, _, lt => exact ⟨⟨x, y, z, w⟩, ⟨lt x (by simp), lt y (by simp), lt z (by simp), lt w (by simp)⟩, rfl⟩
abbrev net5 : List Pr := [(0, 1), (0, 2), (3, 4)]
theorem net5_ok : WebOk 5 net5 := ⟨by decide, by decide, by decide, by decide⟩
theorem range_V (n : Nat) : rgV 0 n = (List.range n).map fun i => V.int (i : Nat) := by
  unfold rgV
  rw [show ((n : Int) - 0).toNat = n by omega]
  refine List.map_congr_left fun i _ => ?_
  rw [Int.zero_add]
theorem tps_nats : ∀ (H : Hp) (l : List Nat), Tps H (l.map fun i => V.int (i : Nat)) (dNs l)
  | _, [] => .nil
  | H, x :: l => .cons (.int _) (tps_nats H l)
theorem sm_pairT {a : PyData} (h : Sm 1 1000 a) : Sm 2 (2 * 1001) (.list [a, a]) := Sm.lst (n := 1) (w := 1000) (m := 2) (fun x m => by
  simp only [List.mem_cons, List.not_mem_nil, or_false] at m
  rcases m with rfl | rfl <;> exact h) (Nat.le_of_ble_eq_true rfl)
section
variable {P : Program} {w : World} {K : PySem.W.Frag} {mg : Str → Option Value} {base : Heap} {f : Addr} {fd : FuncData}
def spLaw (K : PySem.W.Frag) : Sp := fun vs H Q _ => ∃ (a : Addr) (ns : List Int), vs = [.ref a] ∧ SqL K H a (ns.map V.int) ∧ ns.length ≤ 63 ∧ ∀ H', Q (.bl true) H'
def rd_law_1 (K : PySem.W.Frag) : TS := (tAsg (tCall (spStock K) [] E0 (tCons (tVar 0) tNil)) (gName 1))
def rd_law_2_1 (K : PySem.W.Frag) : TS := (tAsg (tCall spWeb [] E0 (tCons (tVar 1) (tCons (tC (.int 2)) (tCons (tOp (rIxL K) (tLst (tCons (tC (.int 12)) (tCons (tC (.int 6)) (tCons (tC (.int 9)) (tCons (tC (.int 5)) tNil))))) (tVar 2)) tNil)))) (gName 3))
def rd_law_2_2 (K : PySem.W.Frag) : TS := (tFor (iRng1 (tCons (tC (.int 6)) tNil)) (gName 4) (tSeq (tAsg (tSl (rSlL K) (tCall spShuf [] E0 (tCons (tVar 1) (tCons (tLstRg (tRg1 (tOp (rIxT K) (tVar 3) (tC (.int 0))))) tNil))) tNoPart (tPart (tC (.int 2)))) (gLst K 2 (gCons (gName 5) (gCons (gName 6) gNil)))) (tSeq (tAsg (tCB (rTupOf K) (tCons (tLc (iRng1 (tCons (tOp (rIxT K) (tVar 3) (tC (.int 0))) tNil)) (gName 12) (tB (tCall spTellW [] E0 (tCons (tVar 3) (tCons (tVar 12) (tCons (tVar 5) (tCons (tVar 6) tNil)))))) (tVar 12) [12]) tNil)) (gName 7)) (tSeq (tIfS (tTest (tOp rNe (tCB (rRepr K) (tCons (tLst (tCons (tCall spTellers [] E0 (tCons (tVar 3) (tCons (tVar 5) (tCons (tVar 6) tNil)))) (tCons (tCall spTellers [] E0 (tCons (tVar 3) (tCons (tVar 6) (tCons (tVar 5) tNil)))) tNil))) tNil)) (tCB (rRepr K) (tCons (tLst (tCons (tVar 7) (tCons (tVar 7) tNil))) tNil)))) (tRet (tC (.bl false))) tNext) (tIfS (tTest (tOp rNe (tCB (rRepr K) (tCons (tCallN spTellers (fun ws => match ws with | [a0, a1, a2] => [a2, a1, a0] | _ => []) E0 (tCons (tVar 6) (tCons (tVar 5) (tCons (tVar 3) tNil)))) tNil)) (tCB (rRepr K) (tCons (tVar 7) tNil)))) (tRet (tC (.bl false))) tNext)))))
def rd_law_2_3 (K : PySem.W.Frag) : TS := (tAsg (tCall spSome [] E0 (tCons (tVar 1) (tCons (tVar 3) tNil))) (gName 8))
def rd_law_2_4 (K : PySem.W.Frag) : TS := (tIfS (tTest (tOp rIsNo (tVar 8) (tC .non))) (tAsg (tCB (rTupOf K) (tCons (tSl (rSlL K) (tOp rRep (tCall spShuf [] E0 (tCons (tVar 1) (tCons (tLstRg (tRg1 (tOp (rIxT K) (tVar 3) (tC (.int 0))))) tNil))) (tC (.int 2))) tNoPart (tPart (tC (.int 4)))) tNil)) (gName 8)) tNext)
def rd_law_2_5 (K : PySem.W.Frag) : TS := (tFor (iList K (tOp rCat (tLst (tCons (tVar 8) tNil)) (tCall spNear [] E0 (tCons (tVar 1) (tCons (tVar 3) (tCons (tVar 8) tNil)))))) (gName 9) (tIfS (tNot (tB (tCall spJudged [] E0 (tCons (tVar 3) (tCons (tVar 9) tNil))))) (tRet (tC (.bl false))) tNext))
def rdS_law_2_5 (K : PySem.W.Frag) : TS := rd_law_2_5 K
def rdS_law_2_4 (K : PySem.W.Frag) : TS := tSeq (rd_law_2_4 K) (rdS_law_2_5 K)
def rdS_law_2_3 (K : PySem.W.Frag) : TS := tSeq (rd_law_2_3 K) (rdS_law_2_4 K)
def rdS_law_2_2 (K : PySem.W.Frag) : TS := tSeq (rd_law_2_2 K) (rdS_law_2_3 K)
def rdS_law_2_1 (K : PySem.W.Frag) : TS := tSeq (rd_law_2_1 K) (rdS_law_2_2 K)
def rd_law_2 (K : PySem.W.Frag) : TS := tFor (iRng1 (tCons (tC (.int 4)) tNil)) (gName 2) (rdS_law_2_1 K)
def rd_law_3 (K : PySem.W.Frag) : TS := (tAsg (tTup (tCons (tC (.int 5)) (tCons (tTup (tCons (tTup (tCons (tC (.int 0)) (tCons (tC (.int 1)) tNil))) (tCons (tTup (tCons (tC (.int 0)) (tCons (tC (.int 2)) tNil))) (tCons (tTup (tCons (tC (.int 3)) (tCons (tC (.int 4)) tNil))) tNil)))) tNil))) (gName 10))
def rd_law_4 (K : PySem.W.Frag) : TS := (tAsg (tLst (tCons (tTup (tCons (tC (.int 0)) (tCons (tC (.int 3)) (tCons (tC (.int 1)) (tCons (tC (.int 2)) tNil))))) (tCons (tTup (tCons (tC (.int 0)) (tCons (tC (.int 1)) (tCons (tC (.int 2)) (tCons (tC (.int 3)) tNil))))) (tCons (tTup (tCons (tC (.int 1)) (tCons (tC (.int 2)) (tCons (tC (.int 0)) (tCons (tC (.int 3)) tNil))))) (tCons (tTup (tCons (tC (.int 0)) (tCons (tC (.int 0)) (tCons (tC (.int 1)) (tCons (tC (.int 2)) tNil))))) (tCons (tTup (tCons (tC (.int 0)) (tCons (tC (.int 3)) (tCons (tC (.int 1)) (tCons (tC (.int 5)) tNil))))) (tCons (tTup (tCons (tC (.int 0)) (tCons (tC (.int 3)) (tCons (tC (.bl true)) (tCons (tC (.int 2)) tNil))))) (tCons (tTup (tCons (tC (.int 0)) (tCons (tC (.int 3)) (tCons (tC (.int 3)) (tCons (tC (.int 1)) tNil))))) tNil)))))))) (gName 11))
def rd_law_5 (K : PySem.W.Frag) : TS := (tAsg (tLst (tCons (tC .non) (tCons (tTup (tCons (tC (.str "teller")) (tCons (tC (.int 3)) tNil))) (tCons (tTup (tCons (tC (.str "teller")) (tCons (tC (.int 2)) tNil))) (tCons (tC (.str "alike")) (tCons (tC (.str "form")) (tCons (tC (.str "form")) (tCons (tC (.str "alike")) tNil)))))))) (gName 7))
def rd_law_6 (K : PySem.W.Frag) : TS := (tRet (tOp rEq (tCB (rRepr K) (tCons (tLc (iList K (tVar 11)) (gName 9) tYes (tCall spDeedV [] E0 (tCons (tVar 10) (tCons (tVar 9) tNil))) [9]) tNil)) (tCB (rRepr K) (tCons (tVar 7) tNil))))
def rdS_law_6 (K : PySem.W.Frag) : TS := rd_law_6 K
def rdS_law_5 (K : PySem.W.Frag) : TS := tSeq (rd_law_5 K) (rdS_law_6 K)
def rdS_law_4 (K : PySem.W.Frag) : TS := tSeq (rd_law_4 K) (rdS_law_5 K)
def rdS_law_3 (K : PySem.W.Frag) : TS := tSeq (rd_law_3 K) (rdS_law_4 K)
def rdS_law_2 (K : PySem.W.Frag) : TS := tSeq (rd_law_2 K) (rdS_law_3 K)
def rdS_law_1 (K : PySem.W.Frag) : TS := tSeq (rd_law_1 K) (rdS_law_2 K)
def rdA (K : PySem.W.Frag) : TS := (tAsg (tSl (rSlL K) (tCall spShuf [] E0 (tCons (tVar 1) (tCons (tLstRg (tRg1 (tOp (rIxT K) (tVar 3) (tC (.int 0))))) tNil))) tNoPart (tPart (tC (.int 2)))) (gLst K 2 (gCons (gName 5) (gCons (gName 6) gNil))))
def rdB (K : PySem.W.Frag) : TS := (tAsg (tCB (rTupOf K) (tCons (tLc (iRng1 (tCons (tOp (rIxT K) (tVar 3) (tC (.int 0))) tNil)) (gName 12) (tB (tCall spTellW [] E0 (tCons (tVar 3) (tCons (tVar 12) (tCons (tVar 5) (tCons (tVar 6) tNil)))))) (tVar 12) [12]) tNil)) (gName 7))
def rdC (K : PySem.W.Frag) : TS := (tIfS (tTest (tOp rNe (tCB (rRepr K) (tCons (tLst (tCons (tCall spTellers [] E0 (tCons (tVar 3) (tCons (tVar 5) (tCons (tVar 6) tNil)))) (tCons (tCall spTellers [] E0 (tCons (tVar 3) (tCons (tVar 6) (tCons (tVar 5) tNil)))) tNil))) tNil)) (tCB (rRepr K) (tCons (tLst (tCons (tVar 7) (tCons (tVar 7) tNil))) tNil)))) (tRet (tC (.bl false))) tNext)
def rdD (K : PySem.W.Frag) : TS := (tIfS (tTest (tOp rNe (tCB (rRepr K) (tCons (tCallN spTellers (fun ws => match ws with | [a0, a1, a2] => [a2, a1, a0] | _ => []) E0 (tCons (tVar 6) (tCons (tVar 5) (tCons (tVar 3) tNil)))) tNil)) (tCB (rRepr K) (tCons (tVar 7) tNil)))) (tRet (tC (.bl false))) tNext)
section
variable {s d c : Addr} {D : Ends} {H : Hp} {v : V} {n i j : Nat} {ps : List Pr} {y0 y1 y2 y3 y4 y5 y6 y7 y8 y9 y10 y11 y12 : Option V} {T : List (Option V)}
theorem lw_A (hk : Stk s d c H) (hw : WebOk n ps) (hv : Tp H v (dW n ps)) (h2 : 2 ≤ n)
    (k : ∀ H' (i j : Nat), i < n → j < n → Fr [s, d] H H' → Stk s d c H' → D.nx (y0 :: some (.ref s) :: y2 :: some v :: y4 :: some (.int i) :: some (.int j) :: T) H') :
    rdA K D (y0 :: some (.ref s) :: y2 :: some v :: y4 :: y5 :: y6 :: T) H := by
  have hn := hw.hi
  obtain ⟨wa, t, xs, rfl, ha, ht, hx⟩ := hv.web_inv
  refine ⟨_, rfl, _, rfl, wa, _, 0, _, rfl, rfl, SqT.of ha, atI_nat (j := 0) rfl, n, rfl, RgOk.of_le (by decide) (by omega) (by decide) (by omega), fun q hq => ?_⟩
  rw [range_V]
  have fq : Fr [s, d] H (upd H q (.lst ((List.range n).map fun i => V.int (i : Nat)))) := Fr.new hq
  have kq := hk.add hk (o := .lst ((List.range n).map fun i => V.int (i : Nat))) hq
  obtain ⟨a1, a2, a3⟩ := hk.apart hq
  refine ⟨s, d, c, q, _, _, rfl, kq, upd_same, tps_nats _ _, by rw [List.length_map, List.length_range]; omega, a1, a2, fun H1 p ys es1 pm f1 np k1 ep tp => ?_⟩
  obtain ⟨nm, rfl, hnm⟩ := nat_perm pm
  obtain ⟨b', c', rest, rfl, mb, mc, nbc⟩ := two_of hnm (by rw [List.length_range]; omega) List.nodup_range
  have ew := nats_invQ tp
  refine ⟨2, rfl, p, ys, rfl, SqL.of ep, fun p2 hp2 => ?_⟩
  have ec : cutV ys none (some 2) = [.int b', .int c'] := by
    rw [show (2 : Int) = ((2 : Nat) : Int) from rfl, cut_to, ew]
    rfl
  rw [ec]
  have np2 : H p2 = none := (fq.trans f1).free hp2
  have f2 : Fr [s, d] H1 (upd H1 p2 (.lst [.int b', .int c'])) := Fr.new hp2
  have k3 : Stk s d c (upd H1 p2 (.lst [.int b', .int c'])) := hk.add k1 np2
  refine ⟨p2, _, rfl, SqL.of upd_same, rfl, _, _, rfl, _, _, rfl, rfl, ?_⟩
  exact k _ b' c' (List.mem_range.mp mb) (List.mem_range.mp mc) ((fq.trans f1).trans f2) k3
theorem lw_B (hw : WebOk n ps) (hv : Tp H v (dW n ps)) (hi : i < n) (hj : j < n)
    (k : ∀ H' r, Fr [] H H' → Tp H' r (.tuple (dNs (tellsOf n (tied ps) i j))) → D.nx [y0, y1, y2, some v, y4, some (.int i), some (.int j), some r, y8, y9, y10, y11, y12] H') :
    rdB K D [y0, y1, y2, some v, y4, some (.int i), some (.int j), y7, y8, y9, y10, y11, y12] H := by
  have hn := hw.hi
  obtain ⟨wa, t, xs, rfl, ha, ht, hx⟩ := hv.web_inv
  refine ⟨_, rfl, wa, _, 0, _, rfl, rfl, SqT.of ha, atI_nat (j := 0) rfl, n, rfl, by omega, by omega, fun D1 hD1 => ?_⟩
  have C : LcC [] (fun _ => True) H D1 := ⟨hD1, List.not_mem_nil, fun _ _ h => h⟩
  refine lcr (M := fun k ds => ds = made (List.range n) (fun p => if tellB (tied ps) p i j = true then some p else none) dN k) C trivial rfl ?_ ?_
  · intro p H2 zs ds hp L
    have hp : p < n := hp
    have ep := range_at hp
    refine ⟨rfl, ?_⟩
    rw [Int.zero_add]
    refine ⟨_, rfl, _, rfl, _, rfl, _, rfl, .ref wa, n, ps, p, i, j, rfl, ⟨hv.fr L.fr, hw⟩, hp, hi, hj, fun H3 f3 => ⟨_, rfl, ite2 (fun c => ?_) (fun c => ?_)⟩⟩
    · exact ⟨_, rfl, L.put C (d := dN p) (by omega) f3 trivial (.int _) (by rw [L.m]; exact (made_some ep (by rw [if_pos c])).symm)⟩
    · exact L.skip C f3 trivial (by rw [L.m]; exact (made_none ep (by rw [if_neg c])).symm)
  · intro H2 zs ds L
    have em := L.m
    rw [made_all (by rw [List.length_range]; exact Nat.le_refl _), filterMap_if] at em
    have td := L.dat
    rw [em] at td
    refine ⟨D1, zs, rfl, .inl ⟨SqL.of L.at_, fun p hp => ?_⟩⟩
    have fp := Fr.new (S := []) (o := .tup zs) hp
    exact k _ (.ref p) (L.fr.trans fp) (.tup upd_same (td.fr fp))
theorem sm_tells (hn : n ≤ 12) : Sm 1 1000 (.tuple (dNs (tellsOf n (tied ps) i j))) := (sm_dNs (m := 12) (fun x m => by have := tells_lt m; omega) (Nat.le_trans (tells_len n _ i j) hn)).mono (by decide) (by decide)
theorem lw_C {r : V} (hw : WebOk n ps) (hv : Tp H v (dW n ps)) (hi : i < n) (hj : j < n) (tr : Tp H r (.tuple (dNs (tellsOf n (tied ps) i j))))
    (k : ∀ H', Fr [] H H' → D.nx (y0 :: y1 :: y2 :: some v :: y4 :: some (.int i) :: some (.int j) :: some r :: T) H') : rdC K D (y0 :: y1 :: y2 :: some v :: y4 :: some (.int i) :: some (.int j) :: some r :: T) H := by
  have sm := sm_pairT (sm_tells (i := i) (j := j) (ps := ps) hw.hi)
  refine ⟨_, rfl, _, rfl, _, rfl, v, n, ps, i, j, rfl, ⟨hv, hw⟩, hi, hj, fun H1 r1 f1 t1 => ?_⟩
  refine ⟨_, rfl, _, rfl, _, rfl, v, n, ps, j, i, rfl, ⟨hv.fr f1, hw⟩, hj, hi, fun H2 r2 f2 t2 => ?_⟩
  rw [tells_turn] at t2
  refine ⟨szl (Nat.le_of_ble_eq_true rfl), fun p hp => ?_⟩
  have fp := Fr.new (S := []) (o := .lst [r1, r2]) hp
  refine ⟨_, _, _, _, rfl, Dp.lst (SqL.of upd_same) (Tps.cons ((t1.fr f2).fr fp) (.cons (t2.fr fp) .nil)).dp, sm, by decide, by decide, ?_⟩
  refine ⟨_, rfl, _, rfl, szl (Nat.le_of_ble_eq_true rfl), fun q hq => ?_⟩
  have fq := Fr.new (S := []) (o := .lst [r, r]) hq
  have g := ((f1.trans f2).trans fp).trans fq
  refine ⟨_, _, _, _, rfl, Dp.lst (SqL.of upd_same) (Tps.cons (tr.fr g) (.cons (tr.fr g) .nil)).dp, sm, by decide, by decide, ?_⟩
  exact ⟨rfl, _, rfl, noT rfl (k _ g)⟩
theorem lw_D {r : V} (hw : WebOk n ps) (hv : Tp H v (dW n ps)) (hi : i < n) (hj : j < n) (tr : Tp H r (.tuple (dNs (tellsOf n (tied ps) i j))))
    (k : ∀ H', Fr [] H H' → D.nx (y0 :: y1 :: y2 :: some v :: y4 :: some (.int i) :: some (.int j) :: some r :: T) H') : rdD K D (y0 :: y1 :: y2 :: some v :: y4 :: some (.int i) :: some (.int j) :: some r :: T) H := by
  have sm := sm_tells (i := i) (j := j) (ps := ps) hw.hi
  refine ⟨_, rfl, _, rfl, _, rfl, v, n, ps, i, j, rfl, ⟨hv, hw⟩, hi, hj, fun H1 r1 f1 t1 => ?_⟩
  refine ⟨_, _, _, _, rfl, t1.dp, sm, by decide, by decide, ?_⟩
  refine ⟨_, rfl, _, _, _, _, rfl, (tr.fr f1).dp, sm, by decide, by decide, ?_⟩
  exact ⟨rfl, _, rfl, noT rfl (k _ f1)⟩
theorem lw_22 (hk : Stk s d c H) (hw : WebOk n ps) (hv : Tp H v (dW n ps)) (h2 : 2 ≤ n)
    (k : ∀ H' y4 y5 y6 y7, Fr [s, d] H H' → Stk s d c H' → D.nx [y0, some (.ref s), y2, some v, y4, y5, y6, y7, y8, y9, y10, y11, y12] H') :
    rd_law_2_2 K D [y0, some (.ref s), y2, some v, y4, y5, y6, y7, y8, y9, y10, y11, y12] H := by
  refine ⟨6, rfl, by decide, by decide, ?_⟩
  refine for_range (lo := 0) (n := 6) (fun i σ H' => ∃ y4 y5 y6 y7, σ = [y0, some (.ref s), y2, some v, y4, y5, y6, y7, y8, y9, y10, y11, y12] ∧ Stk s d c H' ∧ Fr [s, d] H H') ⟨_, _, _, _, rfl, hk, Fr.refl⟩ ?_ ?_
  · rintro i σ H1 hi ⟨y4, y5, y6, y7, rfl, k1, f1⟩
    show tSeq (rdA K) (tSeq (rdB K) (tSeq (rdC K) (rdD K))) _ _ _
    refine lw_A (K := K) k1 hw (hv.fr f1) h2 fun H2 i j hi hj f2 k2 => ?_
    have g2 := f1.trans f2
    refine lw_B (K := K) hw (hv.fr g2) hi hj fun H3 r f3 tr => ?_
    have g3 := g2.trans f3.of0
    refine lw_C (K := K) hw (hv.fr g3) hi hj tr fun H4 f4 => ?_
    have g4 := g3.trans f4.of0
    refine lw_D (K := K) hw (hv.fr g4) hi hj (tr.fr f4) fun H5 f5 => ?_
    exact ⟨_, _, _, _, rfl, ((k2.fr0' f3).fr0' f4).fr0' f5, g4.trans f5.of0⟩
  · rintro σ H1 ⟨y4, y5, y6, y7, rfl, k1, f1⟩
    exact k H1 _ _ _ _ f1 k1
theorem lw_24 {r : V} (hk : Stk s d c H) (hw : WebOk n ps) (hv : Tp H v (dW n ps)) (h2 : 2 ≤ n) (hr : r = .non ∨ ∃ q, DeedOk n (tied ps) q ∧ Tp H r (dq q))
    (k : ∀ H' r q, Fr [s, d] H H' → Stk s d c H' → Tp H' r (dq q) → InN n q → D.nx [y0, some (.ref s), y2, some v, y4, y5, y6, y7, some r, y9, y10, y11, y12] H') :
    rd_law_2_4 K D [y0, some (.ref s), y2, some v, y4, y5, y6, y7, some r, y9, y10, y11, y12] H := by
  have hn := hw.hi
  obtain ⟨wa, t, xs, rfl, ha, ht, hx⟩ := hv.web_inv
  refine ⟨_, rfl, rfl, _, rfl, ?_⟩
  rcases hr with rfl | ⟨q, o, tq⟩
  · rw [decide_eq_true rfl]
    refine iteT ?_
    refine ⟨_, rfl, _, rfl, wa, _, 0, _, rfl, rfl, SqT.of ha, atI_nat (j := 0) rfl, n, rfl, RgOk.of_le (by decide) (by omega) (by decide) (by omega), fun q hq => ?_⟩
    rw [range_V]
    have fq : Fr [s, d] H (upd H q (.lst ((List.range n).map fun i => V.int (i : Nat)))) := Fr.new hq
    have kq := hk.add hk (o := .lst ((List.range n).map fun i => V.int (i : Nat))) hq
    obtain ⟨a1, a2, a3⟩ := hk.apart hq
    refine ⟨s, d, c, q, _, _, rfl, kq, upd_same, tps_nats _ _, by rw [List.length_map, List.length_range]; omega, a1, a2, fun H1 p ys es1 pm f1 np k1 ep tp => ?_⟩
    obtain ⟨nm, rfl, hnm⟩ := nat_perm pm
    obtain ⟨q4, hq4, e4⟩ := four_of hnm h2
    have ln := hnm.length_eq
    rw [List.length_range] at ln
    have ew := nats_invQ tp
    refine ⟨p, 2, ys, rfl, rfl, ep, by decide, by decide, szl (by rw [ew, List.length_map]; show nm.length * 2 ≤ _; omega), fun p2 hp2 => ?_⟩
    have e2 : (List.replicate (2 : Int).toNat ys).flatten = ys ++ ys := by
      show (ys ++ (ys ++ [])) = _
      rw [List.append_nil]
    rw [e2]
    refine ⟨4, rfl, p2, ys ++ ys, rfl, SqL.of upd_same, fun p3 hp3 => ?_⟩
    have ec : cutV (ys ++ ys) none (some 4) = [.int q4.a, .int q4.d, .int q4.b, .int q4.c] := by
      rw [show (4 : Int) = ((4 : Nat) : Int) from rfl, cut_to, ew, ← List.map_append, ← List.map_take, e4]
      rfl
    rw [ec]
    refine ⟨p3, _, rfl, .inl ⟨SqL.of upd_same, fun p4 hp4 => ?_⟩⟩
    have f2 := Fr.new (S := []) (o := .lst (ys ++ ys)) hp2
    have f3 := Fr.new (S := []) (o := .lst [.int q4.a, .int q4.d, .int q4.b, .int q4.c]) hp3
    have f4 := Fr.new (S := []) (o := .tup [.int q4.a, .int q4.d, .int q4.b, .int q4.c]) hp4
    have g := (f2.trans f3).trans f4
    exact k _ (.ref p4) q4 ((fq.trans f1).trans g.of0) (k1.fr0' g) (Tp.qi (q := q4.int) upd_same) hq4
  · obtain ⟨u, rfl, hu⟩ := tq.quad_inv
    rw [decide_eq_false (fun z => by cases z)]
    exact iteF (k H _ q Fr.refl hk tq ⟨o.a, o.d, o.b, o.c⟩)
theorem lw_25 {vd : V} {q : Qd} (hk : Stk s d c H) (hw : WebOk n ps) (hv : Tp H v (dW n ps)) (hd : Tp H vd (dq q)) (hq : InN n q)
    (k : ∀ H' y9, Fr [s, d] H H' → Stk s d c H' → D.nx [y0, some (.ref s), y2, some v, y4, y5, y6, y7, some vd, y9, y10, y11, y12] H') :
    rd_law_2_5 K D [y0, some (.ref s), y2, some v, y4, y5, y6, y7, some vd, y9, y10, y11, y12] H := by
  have hn := hw.hi
  obtain ⟨h1, h2, h3, h4⟩ := hq
  refine ⟨_, rfl, szl (Nat.le_of_ble_eq_true rfl), fun l hl => ?_⟩
  have fl := Fr.new (S := []) (o := .lst [vd]) hl
  have kl := hk.fr0' fl
  obtain ⟨l1, l2, _⟩ := hk.apart hl
  refine ⟨_, rfl, _, rfl, _, rfl, s, d, c, v, vd, n, ps, q, rfl, kl, ⟨hv.fr fl, hw⟩, hd.fr fl, ⟨h1, h2, h3, h4⟩, fun H1 p f1 k1 G => ?_⟩
  obtain ⟨np, ys, ey, ly, gy⟩ := G
  have el := f1.keep _ _ (upd_same (H := H) (a := l) (o := .lst [vd])) (by simp [l1, l2])
  refine ⟨l, p, [vd], ys, rfl, rfl, el, ey, szl (by show 1 + _ ≤ _; omega), fun c3 hc3 => ?_⟩
  have f3 := Fr.new (S := []) (o := .lst ([vd] ++ ys)) hc3
  have g := ((fl.of0 (S := [s, d])).trans f1).trans f3.of0
  have kk := k1.fr0' f3
  have gd : GoodV [s, d] H1 vd := by
    refine ⟨dq q, .inl ((hd.fr ((fl.of0 (S := [s, d])).trans f1)).dz), (Sq.tup (n := 0) (w := 64) (m := 4) (fun x m => ?_) (Nat.le_refl _)).up (by decide) (by decide)⟩
    simp only [List.mem_cons, List.not_mem_nil, or_false] at m
    rcases m with rfl | rfl | rfl | rfl <;> exact Sq.nat (by omega)
  have good : ∀ x ∈ [vd] ++ ys, GoodV [] (upd H1 c3 (.lst ([vd] ++ ys))) x := fun x m => by
    have h : GoodV [s, d] H1 x := by
      rcases List.mem_append.mp m with m | m
      · rw [List.mem_singleton.mp m]
        exact gd
      · exact gy x m
    exact (h.mono (S' := []) (fun _ z => absurd z List.not_mem_nil)).fr f3
  generalize hH2 : upd H1 c3 (.lst ([vd] ++ ys)) = H2 at f3 g kk good
  have e3 : H2 c3 = some (.lst ([vd] ++ ys)) := by
    rw [← hH2]
    exact upd_same
  refine ⟨c3, rfl, ⟨_, SqL.of e3⟩, ?_⟩
  refine for_list (K := K) (a := c3) (xs := [vd] ++ ys) (fun i σ H' => ∃ y9, σ = [y0, some (.ref s), y2, some v, y4, y5, y6, y7, some vd, y9, y10, y11, y12] ∧ Fr [] H2 H') ⟨y9, rfl, Fr.refl⟩ (fun i σ H' _ ⟨_, _, f4⟩ => SqL.of (f4.keep _ _ e3 List.not_mem_nil)) ?_ ?_
  · rintro i x σ H3 ex ⟨z9, rfl, f4⟩
    refine ⟨_, rfl, _, rfl, v, x, n, ps, rfl, ⟨(hv.fr g).fr f4, hw⟩, (good x (List.mem_of_getElem? ex)).fr f4, fun H4 f5 => ⟨_, rfl, iteF ?_⟩⟩
    exact ⟨_, rfl, f4.trans f5⟩
  · rintro σ H3 ⟨z9, rfl, f4⟩
    exact k H3 z9 (g.trans f4.of0) (kk.fr0' f4)
end
end
end Lt

set_option Elab.async false
set_option linter.all false
set_option maxRecDepth 100000
set_option maxHeartbeats 8000000
namespace Lt
open PySem PySem.Spec PyProof.Rows L2
theorem net_at {H : Hp} {p1 p2 p3 t wa : Addr} (h1 : H p1 = none) (h2 : upd H p1 (.tup [.int 0, .int 1]) p2 = none) (h3 : upd (upd H p1 (.tup [.int 0, .int 1])) p2 (.tup [.int 0, .int 2]) p3 = none)
    (h4 : upd (upd (upd H p1 (.tup [.int 0, .int 1])) p2 (.tup [.int 0, .int 2])) p3 (.tup [.int 3, .int 4]) t = none)
    (h5 : upd (upd (upd (upd H p1 (.tup [.int 0, .int 1])) p2 (.tup [.int 0, .int 2])) p3 (.tup [.int 3, .int 4])) t (.tup [.ref p1, .ref p2, .ref p3]) wa = none) :
    Tp (upd (upd (upd (upd (upd H p1 (.tup [.int 0, .int 1])) p2 (.tup [.int 0, .int 2])) p3 (.tup [.int 3, .int 4])) t (.tup [.ref p1, .ref p2, .ref p3])) wa (.tup [.int 5, .ref t])) (.ref wa) (dW 5 net5) := by
  refine .tup upd_same (.cons (.int _) (.cons (.tup (at_add upd_same h5) ?_) .nil))
  exact .cons (Tp.pr (at_add (at_add (at_add (at_add upd_same h2) h3) h4) h5)) (.cons (Tp.pr (at_add (at_add (at_add upd_same h3) h4) h5)) (.cons (Tp.pr (at_add (at_add upd_same h4) h5)) .nil))
abbrev dueE : List PyData := [.none, .tuple [.str "teller", .int 3], .tuple [.str "teller", .int 2], .str "alike", .str "form", .str "form", .str "alike"]
theorem err1 : errQ 5 (tied net5) 0 3 1 2 = .none := by rfl
theorem err2 : errQ 5 (tied net5) 0 1 2 3 = .tuple [.str "teller", .int 3] := by rfl
theorem err3 : errQ 5 (tied net5) 1 2 0 3 = .tuple [.str "teller", .int 2] := by rfl
theorem err4 : errQ 5 (tied net5) 0 0 1 2 = .str "alike" := by rfl
theorem err5 : errQ 5 (tied net5) 0 3 1 5 = .str "form" := by rfl
theorem err7 : errQ 5 (tied net5) 0 3 3 1 = .str "alike" := by rfl
theorem sm_dueE : Sm 3 (7 * 1001) (.list dueE) := Sm.lst (n := 2) (w := 1000) (m := 7) (fun x m => by
  simp only [List.mem_cons, List.not_mem_nil, or_false] at m
  rcases m with rfl | rfl | rfl | rfl | rfl | rfl | rfl <;> exact ⟨by decide +kernel, by decide +kernel, by decide +kernel, by decide +kernel, by decide +kernel⟩) (Nat.le_of_ble_eq_true rfl)
section
variable {P : Program} {w : World} {K : PySem.W.Frag} {mg : Str → Option Value} {base : Heap} {f : Addr} {fd : FuncData}
section
variable {D : Ends} {H : Hp} {v : V} {y0 y1 y2 y3 y4 y5 y6 y7 y8 y9 y10 y11 y12 : Option V} {T : List (Option V)}
theorem le_3 (k : ∀ H' v, Tp H' v (dW 5 net5) → D.nx (y0 :: y1 :: y2 :: y3 :: y4 :: y5 :: y6 :: y7 :: y8 :: y9 :: some v :: T) H') : rd_law_3 K D (y0 :: y1 :: y2 :: y3 :: y4 :: y5 :: y6 :: y7 :: y8 :: y9 :: y10 :: T) H := by
  refine ⟨szl (Nat.le_of_ble_eq_true rfl), fun p1 h1 => ⟨szl (Nat.le_of_ble_eq_true rfl), fun p2 h2 => ⟨szl (Nat.le_of_ble_eq_true rfl), fun p3 h3 => ⟨szl (Nat.le_of_ble_eq_true rfl), fun t h4 => ⟨szl (Nat.le_of_ble_eq_true rfl), fun wa h5 => ?_⟩⟩⟩⟩⟩
  exact k _ (.ref wa) (net_at h1 h2 h3 h4 h5)
theorem told_q {H : Hp} {u : Addr} {a d b c : Int} {e : PyData} (h : H u = some (.tup [.int a, .int d, .int b, .int c])) (he : errQ 5 (tied net5) a d b c = e) : Told H (.ref u) 5 net5 e := .inl ⟨⟨a, d, b, c⟩, Tp.qi h, he.symm⟩
theorem le_4 (hv : Tp H v (dW 5 net5))
    (k : ∀ H' l xs, Tp H' v (dW 5 net5) → H' l = some (.lst xs) → xs.length = 7 → (∀ (i : Nat) (x : V), xs[i]? = some x → ∃ e, dueE[i]? = some e ∧ Told H' x 5 net5 e) → D.nx (y0 :: y1 :: y2 :: y3 :: y4 :: y5 :: y6 :: y7 :: y8 :: y9 :: some v :: some (.ref l) :: T) H') :
    rd_law_4 K D (y0 :: y1 :: y2 :: y3 :: y4 :: y5 :: y6 :: y7 :: y8 :: y9 :: some v :: y11 :: T) H := by
  refine ⟨szl (Nat.le_of_ble_eq_true rfl), fun p1 h1 => ?_⟩
  have f1 := Fr.new (S := []) (o := .tup [.int 0, .int 3, .int 1, .int 2]) h1
  have e1 : upd H p1 (.tup [.int 0, .int 3, .int 1, .int 2]) p1 = _ := upd_same
  generalize upd H p1 (.tup [.int 0, .int 3, .int 1, .int 2]) = H1 at f1 e1 ⊢
  refine ⟨szl (Nat.le_of_ble_eq_true rfl), fun p2 h2 => ?_⟩
  have f2 := Fr.new (S := []) (o := .tup [.int 0, .int 1, .int 2, .int 3]) h2
  have e2 : upd H1 p2 (.tup [.int 0, .int 1, .int 2, .int 3]) p2 = _ := upd_same
  generalize upd H1 p2 (.tup [.int 0, .int 1, .int 2, .int 3]) = H2 at f2 e2 ⊢
  refine ⟨szl (Nat.le_of_ble_eq_true rfl), fun p3 h3 => ?_⟩
  have f3 := Fr.new (S := []) (o := .tup [.int 1, .int 2, .int 0, .int 3]) h3
  have e3 : upd H2 p3 (.tup [.int 1, .int 2, .int 0, .int 3]) p3 = _ := upd_same
  generalize upd H2 p3 (.tup [.int 1, .int 2, .int 0, .int 3]) = H3 at f3 e3 ⊢
  refine ⟨szl (Nat.le_of_ble_eq_true rfl), fun p4 h4 => ?_⟩
  have f4 := Fr.new (S := []) (o := .tup [.int 0, .int 0, .int 1, .int 2]) h4
  have e4 : upd H3 p4 (.tup [.int 0, .int 0, .int 1, .int 2]) p4 = _ := upd_same
  generalize upd H3 p4 (.tup [.int 0, .int 0, .int 1, .int 2]) = H4 at f4 e4 ⊢
  refine ⟨szl (Nat.le_of_ble_eq_true rfl), fun p5 h5 => ?_⟩
  have f5 := Fr.new (S := []) (o := .tup [.int 0, .int 3, .int 1, .int 5]) h5
  have e5 : upd H4 p5 (.tup [.int 0, .int 3, .int 1, .int 5]) p5 = _ := upd_same
  generalize upd H4 p5 (.tup [.int 0, .int 3, .int 1, .int 5]) = H5 at f5 e5 ⊢
  refine ⟨szl (Nat.le_of_ble_eq_true rfl), fun p6 h6 => ?_⟩
  have f6 := Fr.new (S := []) (o := .tup [.int 0, .int 3, .bl true, .int 2]) h6
  have e6 : upd H5 p6 (.tup [.int 0, .int 3, .bl true, .int 2]) p6 = _ := upd_same
  generalize upd H5 p6 (.tup [.int 0, .int 3, .bl true, .int 2]) = H6 at f6 e6 ⊢
  refine ⟨szl (Nat.le_of_ble_eq_true rfl), fun p7 h7 => ?_⟩
  have f7 := Fr.new (S := []) (o := .tup [.int 0, .int 3, .int 3, .int 1]) h7
  have e7 : upd H6 p7 (.tup [.int 0, .int 3, .int 3, .int 1]) p7 = _ := upd_same
  generalize upd H6 p7 (.tup [.int 0, .int 3, .int 3, .int 1]) = H7 at f7 e7 ⊢
  refine ⟨szl (Nat.le_of_ble_eq_true rfl), fun l hl => ?_⟩
  have fl := Fr.new (S := []) (o := .lst [.ref p1, .ref p2, .ref p3, .ref p4, .ref p5, .ref p6, .ref p7]) hl
  have g6 := f7.trans fl
  have g5 := f6.trans g6
  have g4 := f5.trans g5
  have g3 := f4.trans g4
  have g2 := f3.trans g3
  have g1 := f2.trans g2
  refine k _ l [.ref p1, .ref p2, .ref p3, .ref p4, .ref p5, .ref p6, .ref p7] (hv.fr (f1.trans g1)) upd_same rfl fun i x ex => ?_
  match i, ex with
  | 0, ex => cases ex; exact ⟨_, rfl, told_q (g1.tups _ _ e1) err1⟩
  | 1, ex => cases ex; exact ⟨_, rfl, told_q (g2.tups _ _ e2) err2⟩
  | 2, ex => cases ex; exact ⟨_, rfl, told_q (g3.tups _ _ e3) err3⟩
  | 3, ex => cases ex; exact ⟨_, rfl, told_q (g4.tups _ _ e4) err4⟩
  | 4, ex => cases ex; exact ⟨_, rfl, told_q (g5.tups _ _ e5) err5⟩
  | 5, ex =>
    cases ex
    refine ⟨_, rfl, .inr ⟨.item (g6.tups _ _ e6) rfl (fun x m => ?_) ⟨.bl true, by simp, fun i z => by cases z⟩, rfl⟩⟩
    simp only [List.mem_cons, List.not_mem_nil, or_false] at m
    rcases m with rfl | rfl | rfl | rfl
    · exact ⟨_, .int _⟩
    · exact ⟨_, .int _⟩
    · exact ⟨_, .bl _⟩
    · exact ⟨_, .int _⟩
  | 6, ex => cases ex; exact ⟨_, rfl, told_q (fl.tups _ _ e7) err7⟩
  | i + 7, ex => cases ex
theorem le_5 {l : Addr} {xs : List V} (hv : Tp H v (dW 5 net5)) (el : H l = some (.lst xs)) (hx : ∀ (i : Nat) (x : V), xs[i]? = some x → ∃ e, dueE[i]? = some e ∧ Told H x 5 net5 e)
    (k : ∀ H' m es, Fr [] H H' → H' m = some (.lst es) → Tps H' es dueE → D.nx (y0 :: y1 :: y2 :: y3 :: y4 :: y5 :: y6 :: some (.ref m) :: T) H') :
    rd_law_5 K D (y0 :: y1 :: y2 :: y3 :: y4 :: y5 :: y6 :: y7 :: T) H := by
  refine ⟨szl (Nat.le_of_ble_eq_true rfl), fun p1 h1 => ⟨szl (Nat.le_of_ble_eq_true rfl), fun p2 h2 => ⟨szl (Nat.le_of_ble_eq_true rfl), fun m hm => ?_⟩⟩⟩
  have f1 := Fr.new (S := []) (o := .tup [.str "teller", .int 3]) h1
  have f2 := Fr.new (S := []) (o := .tup [.str "teller", .int 2]) h2
  have fm := Fr.new (S := []) (o := .lst [.non, .ref p1, .ref p2, .str "alike", .str "form", .str "form", .str "alike"]) hm
  refine k _ m [.non, .ref p1, .ref p2, .str "alike", .str "form", .str "form", .str "alike"] ((f1.trans f2).trans fm) upd_same ?_
  exact .cons .non (.cons (.tup (fm.tups _ _ (f2.tups _ _ upd_same)) (.cons (.str _) (.cons (.int _) .nil))) (.cons (.tup (fm.tups _ _ upd_same) (.cons (.str _) (.cons (.int _) .nil))) (.cons (.str _) (.cons (.str _) (.cons (.str _) (.cons (.str _) .nil))))))
theorem le_6 {l m : Addr} {xs es : List V} (hv : Tp H v (dW 5 net5)) (el : H l = some (.lst xs)) (hl : xs.length = 7) (hx : ∀ (i : Nat) (x : V), xs[i]? = some x → ∃ e, dueE[i]? = some e ∧ Told H x 5 net5 e) (em : H m = some (.lst es)) (te : Tps H es dueE)
    (q : ∀ H', D.rt (.bl true) H') : rdS_law_6 K D [y0, y1, y2, y3, y4, y5, y6, some (.ref m), y8, y9, some v, some (.ref l), y12] H := by
  refine ⟨_, rfl, l, rfl, ⟨_, SqL.of el⟩, fun D1 hD1 => ?_⟩
  have C : LcC [] (fun _ => True) H D1 := ⟨hD1, List.not_mem_nil, fun _ _ h => h⟩
  refine lcl (M := fun k ds => ds = dueE.take k) C (SqL.of el) List.not_mem_nil trivial rfl ?_ ?_
  · intro i x H2 zs ds ex L
    have hi : i < 7 := by
      have := (List.getElem?_eq_some_iff.mp ex).1
      omega
    obtain ⟨e, ee, ht⟩ := hx i x ex
    refine ⟨rfl, tyes ⟨_, rfl, _, rfl, told_deed (ht.fr L.fr) ⟨hv.fr L.fr, net5_ok⟩ fun H3 r f3 tr => ?_⟩⟩
    exact L.put C (by omega) f3 trivial tr (by rw [L.m, List.take_add_one, ee]; rfl)
  · intro H2 zs ds L
    have em2 := L.m
    rw [hl] at em2
    have td := L.dat
    rw [em2] at td
    refine ⟨_, .list dueE, _, _, rfl, Dp.lst (SqL.of L.at_) td.dp, sm_dueE, by decide, by decide, ?_⟩
    refine ⟨_, rfl, _, .list dueE, _, _, rfl, Dp.lst (SqL.of (L.fr.keep _ _ em List.not_mem_nil)) (te.fr L.fr).dp, sm_dueE, by decide, by decide, rfl, ?_⟩
    rw [decide_eq_true rfl]
    exact q _
end
theorem ok_law (F : FnP K "law" s_law f fd) (g_range : mg "range" = none) (g_repr : mg "repr" = none) (g_tuple : mg "tuple" = none) (g_list : mg "list" = none) {f__law_stock : Addr} {fd__law_stock : FuncData} (F__law_stock : FnP K "_law_stock" s__law_stock f__law_stock fd__law_stock) (m__law_stock : mg "_law_stock" = some (.ref f__law_stock)) {f__law_web : Addr} {fd__law_web : FuncData} (F__law_web : FnP K "_law_web" s__law_web f__law_web fd__law_web) (m__law_web : mg "_law_web" = some (.ref f__law_web)) {f__law_some : Addr} {fd__law_some : FuncData} (F__law_some : FnP K "_law_some" s__law_some f__law_some fd__law_some) (m__law_some : mg "_law_some" = some (.ref f__law_some)) {f__law_near : Addr} {fd__law_near : FuncData} (F__law_near : FnP K "_law_near" s__law_near f__law_near fd__law_near) (m__law_near : mg "_law_near" = some (.ref f__law_near)) {f__law_shuffled : Addr} {fd__law_shuffled : FuncData} (F__law_shuffled : FnP K "_law_shuffled" s__law_shuffled f__law_shuffled fd__law_shuffled) (m__law_shuffled : mg "_law_shuffled" = some (.ref f__law_shuffled)) {f__law_is_judged : Addr} {fd__law_is_judged : FuncData} (F__law_is_judged : FnP K "_law_is_judged" s__law_is_judged f__law_is_judged fd__law_is_judged) (m__law_is_judged : mg "_law_is_judged" = some (.ref f__law_is_judged)) {f_deed_error : Addr} {fd_deed_error : FuncData} (F_deed_error : FnP K "deed_error" s_deed_error f_deed_error fd_deed_error) (m_deed_error : mg "deed_error" = some (.ref f_deed_error)) {f_tellers : Addr} {fd_tellers : FuncData} (F_tellers : FnP K "tellers" s_tellers f_tellers fd_tellers) (m_tellers : mg "tellers" = some (.ref f_tellers)) {f__law_tells : Addr} {fd__law_tells : FuncData} (F__law_tells : FnP K "_law_tells" s__law_tells f__law_tells fd__law_tells) (m__law_tells : mg "_law_tells" = some (.ref f__law_tells)) (G__law_stock : FnG P w K mg base CX0 1 f__law_stock fd__law_stock ["script"] (spStock K)) (G__law_web : FnG P w K mg base CX0 3 f__law_web fd__law_web ["stock", "least", "most"] spWeb)
    (G__law_shuffled : FnG P w K mg base CX0 2 f__law_shuffled fd__law_shuffled ["stock", "row"] spShuf) (G__law_tells : FnG P w K mg base CX0 2 f__law_tells fd__law_tells ["web", "place", "one", "other"] spTellW)
    (G_tellers : FnG P w K mg base CX0 3 f_tellers fd_tellers ["web", "one", "other"] spTellers) (G__law_some : FnG P w K mg base CX0 3 f__law_some fd__law_some ["stock", "web"] spSome)
    (G__law_near : FnG P w K mg base CX0 3 f__law_near fd__law_near ["stock", "web", "deed"] spNear) (G__law_is_judged : FnG P w K mg base CX0 5 f__law_is_judged fd__law_is_judged ["web", "value"] spJudged)
    (G_deed_error : FnG P w K mg base CX0 4 f_deed_error fd_deed_error ["web", "value"] spDeedV) : FnG P w K mg base CX0 7 f fd ["script"] (spLaw K) := by
  have b__law_stock : Binds K fd__law_stock ["script"] [] := F__law_stock.bindsN fun _ _ _ _ _ _ us hl => match us, hl with | [_], _ => rfl
  have b__law_web : Binds K fd__law_web ["stock", "least", "most"] [] := F__law_web.bindsN fun _ _ _ _ _ _ us hl => match us, hl with | [_, _, _], _ => rfl
  have b__law_shuffled : Binds K fd__law_shuffled ["stock", "row"] [] := F__law_shuffled.bindsN fun _ _ _ _ _ _ us hl => match us, hl with | [_, _], _ => rfl
  have b__law_tells : Binds K fd__law_tells ["web", "place", "one", "other"] [] := F__law_tells.bindsN fun _ _ _ _ _ _ us hl => match us, hl with | [_, _, _, _], _ => rfl
  have b_tellers : Binds K fd_tellers ["web", "one", "other"] [] := F_tellers.bindsN fun _ _ _ _ _ _ us hl => match us, hl with | [_, _, _], _ => rfl
  have n_tellers_other_one_web : NBinds K fd_tellers ["web", "one", "other"] ["other", "one", "web"] (fun ws => match ws with | [a0, a1, a2] => [a2, a1, a0] | _ => []) := nbinds F_tellers (fun _ _ _ _ _ _ ws hl => match ws, hl with | [a0, a1, a2], _ => rfl) (fun {zs ws} r => ?_)
  have b__law_some : Binds K fd__law_some ["stock", "web"] [] := F__law_some.bindsN fun _ _ _ _ _ _ us hl => match us, hl with | [_, _], _ => rfl
  have b__law_near : Binds K fd__law_near ["stock", "web", "deed"] [] := F__law_near.bindsN fun _ _ _ _ _ _ us hl => match us, hl with | [_, _, _], _ => rfl
  have b__law_is_judged : Binds K fd__law_is_judged ["web", "value"] [] := F__law_is_judged.bindsN fun _ _ _ _ _ _ us hl => match us, hl with | [_, _], _ => rfl
  have b_deed_error : Binds K fd_deed_error ["web", "value"] [] := F_deed_error.bindsN fun _ _ _ _ _ _ us hl => match us, hl with | [_, _], _ => rfl
  · refine okG0 F sc_law (fun vs H Q E h => ?_) (fun cdv A outer s0 H vs Q E hS hr h => ?_)
    · obtain ⟨_, _, rfl, _⟩ := h
      rfl
    · obtain ⟨a, ns0, rfl, ha, hl, q⟩ := h
      refine ⟨rdS_law_1 K, (pss_cons (ps_set (i := 1) sc_law.nd rfl (Or.inl rfl) (pe_callG G__law_stock hS (hr.mono (by decide)) (by rfl) m__law_stock F__law_stock.kp b__law_stock .nil pass0 (pa_cons (pv 0) pa_nil)))
      (pss_cons (ps_for PassesOwn.never rfl (pi_range1 rfl g_range (pa_cons pe_int pa_nil)) (pg_name (i := 2) sc_law.nd rfl (Or.inl rfl)) (pss_cons (ps_set (i := 3) sc_law.nd rfl (Or.inr rfl) (pe_callG G__law_web hS (hr.mono (by decide)) (by rfl) m__law_web F__law_web.kp b__law_web .nil pass0 (pa_cons (pv 1) (pa_cons pe_int (pa_cons (pe_ix (ixL K) (pe_lst (pa_cons pe_int (pa_cons pe_int (pa_cons pe_int (pa_cons pe_int pa_nil))))) (pv 2) (fun _ _ => rfl)) pa_nil)))))
      (pss_cons (ps_for PassesOwn.never rfl (pi_range1 rfl g_range (pa_cons pe_int pa_nil)) (pg_name (i := 4) sc_law.nd rfl (Or.inl rfl)) (pss_cons (ps_asg (pe_slice (slL K) (pe_callG G__law_shuffled hS (hr.mono (by decide)) (by rfl) m__law_shuffled F__law_shuffled.kp b__law_shuffled .nil pass0 (pa_cons (pv 1) (pa_cons (pe_listRg rfl (by rfl) g_list (prg_1 (by rfl) g_range (pe_ix (ixT K) (pv 3) pe_int (fun _ _ => rfl)))) pa_nil))) po_none (po_some pe_int)) (pg_lstK K (n := 2) (by rfl) (pgs_cons (pg_name (i := 5) sc_law.nd rfl (Or.inr rfl)) (pgs_cons (pg_name (i := 6) sc_law.nd rfl (Or.inr rfl)) pgs_nil))))
      (pss_cons (ps_set (i := 7) sc_law.nd rfl (Or.inl rfl) (pe_callTy (tupOfK K) (by rfl) g_tuple (by decide +kernel) (pa_cons (pe_lc (own := [("place", 12)]) (g := (gName 12)) rfl sc_law.nd (pi_range1 rfl g_range (pa_cons (pe_ix (ixT K) (pv 3) pe_int (fun _ _ => rfl)) pa_nil)) (blkOk_by (own := [("place", 12)]) (N := N_law) (sc := defScope s_law) (by decide +kernel)) (fun _ _ _ _ _ => (pg_name (i := 12) sc_law.nd rfl (Or.inl rfl))) (fun _ _ _ _ _ => (pts_one (pt_val (pe_callG G__law_tells hS (hr.mono (by decide)) (by rfl) m__law_tells F__law_tells.kp b__law_tells .nil pass0 (pa_cons (pv 3) (pa_cons (pv 12) (pa_cons (pv 5) (pa_cons (pv 6) pa_nil)))))))) (fun _ _ _ _ _ => (pv 12))) pa_nil)))
      (pss_cons (ps_if (pt_cmpR op_ne (pe_callB (reprK K hS (hu80_of hr)) (by rfl) g_repr (by decide +kernel) (pa_cons (pe_lst (pa_cons (pe_callG G_tellers hS (hr.mono (by decide)) (by rfl) m_tellers F_tellers.kp b_tellers .nil pass0 (pa_cons (pv 3) (pa_cons (pv 5) (pa_cons (pv 6) pa_nil)))) (pa_cons (pe_callG G_tellers hS (hr.mono (by decide)) (by rfl) m_tellers F_tellers.kp b_tellers .nil pass0 (pa_cons (pv 3) (pa_cons (pv 6) (pa_cons (pv 5) pa_nil)))) pa_nil))) pa_nil)) (pe_callB (reprK K hS (hu80_of hr)) (by rfl) g_repr (by decide +kernel) (pa_cons (pe_lst (pa_cons (pv 7) (pa_cons (pv 7) pa_nil))) pa_nil)) (nomark _)) (pss_one (ps_ret pe_bl)) pss_nil)
      (pss_one (ps_if (pt_cmpR op_ne (pe_callB (reprK K hS (hu80_of hr)) (by rfl) g_repr (by decide +kernel) (pa_cons (pe_callGN G_tellers hS (hr.mono (by decide)) (by rfl) m_tellers F_tellers.kp n_tellers_other_one_web pass0 (pk_cons (pv 6) (pk_cons (pv 5) (pk_cons (pv 3) pk_nil)))) pa_nil)) (pe_callB (reprK K hS (hu80_of hr)) (by rfl) g_repr (by decide +kernel) (pa_cons (pv 7) pa_nil)) (nomark _)) (pss_one (ps_ret pe_bl)) pss_nil))))))
      (pss_cons (ps_set (i := 8) sc_law.nd rfl (Or.inl rfl) (pe_callG G__law_some hS (hr.mono (by decide)) (by rfl) m__law_some F__law_some.kp b__law_some .nil pass0 (pa_cons (pv 1) (pa_cons (pv 3) pa_nil))))
      (pss_cons (ps_if (pt_cmpR op_isN (pv 8) pe_non (nomark _)) (pss_one (ps_set (i := 8) sc_law.nd rfl (Or.inl rfl) (pe_callTy (tupOfK K) (by rfl) g_tuple (by decide +kernel) (pa_cons (pe_slice (slL K) (pe_op op_rep (pe_callG G__law_shuffled hS (hr.mono (by decide)) (by rfl) m__law_shuffled F__law_shuffled.kp b__law_shuffled .nil pass0 (pa_cons (pv 1) (pa_cons (pe_listRg rfl (by rfl) g_list (prg_1 (by rfl) g_range (pe_ix (ixT K) (pv 3) pe_int (fun _ _ => rfl)))) pa_nil))) pe_int) po_none (po_some pe_int)) pa_nil)))) pss_nil)
      (pss_one (ps_for PassesOwn.never rfl (pi_list (pe_op op_cat (pe_lst (pa_cons (pv 8) pa_nil)) (pe_callG G__law_near hS (hr.mono (by decide)) (by rfl) m__law_near F__law_near.kp b__law_near .nil pass0 (pa_cons (pv 1) (pa_cons (pv 3) (pa_cons (pv 8) pa_nil)))))) (pg_name (i := 9) sc_law.nd rfl (Or.inl rfl)) (pss_one (ps_if (pt_not (pt_val (pe_callG G__law_is_judged hS (hr.mono (by decide)) (by rfl) m__law_is_judged F__law_is_judged.kp b__law_is_judged .nil pass0 (pa_cons (pv 3) (pa_cons (pv 9) pa_nil))))) (pss_one (ps_ret pe_bl)) pss_nil)))))))))
      (pss_cons (ps_set (i := 10) sc_law.nd rfl (Or.inr rfl) (pe_tup (pa_cons pe_int (pa_cons (pe_tup (pa_cons (pe_tup (pa_cons pe_int (pa_cons pe_int pa_nil))) (pa_cons (pe_tup (pa_cons pe_int (pa_cons pe_int pa_nil))) (pa_cons (pe_tup (pa_cons pe_int (pa_cons pe_int pa_nil))) pa_nil)))) pa_nil))))
      (pss_cons (ps_set (i := 11) sc_law.nd rfl (Or.inl rfl) (pe_lst (pa_cons (pe_tup (pa_cons pe_int (pa_cons pe_int (pa_cons pe_int (pa_cons pe_int pa_nil))))) (pa_cons (pe_tup (pa_cons pe_int (pa_cons pe_int (pa_cons pe_int (pa_cons pe_int pa_nil))))) (pa_cons (pe_tup (pa_cons pe_int (pa_cons pe_int (pa_cons pe_int (pa_cons pe_int pa_nil))))) (pa_cons (pe_tup (pa_cons pe_int (pa_cons pe_int (pa_cons pe_int (pa_cons pe_int pa_nil))))) (pa_cons (pe_tup (pa_cons pe_int (pa_cons pe_int (pa_cons pe_int (pa_cons pe_int pa_nil))))) (pa_cons (pe_tup (pa_cons pe_int (pa_cons pe_int (pa_cons pe_bl (pa_cons pe_int pa_nil))))) (pa_cons (pe_tup (pa_cons pe_int (pa_cons pe_int (pa_cons pe_int (pa_cons pe_int pa_nil))))) pa_nil)))))))))
      (pss_cons (ps_set (i := 7) sc_law.nd rfl (Or.inl rfl) (pe_lst (pa_cons pe_non (pa_cons (pe_tup (pa_cons pe_str (pa_cons pe_int pa_nil))) (pa_cons (pe_tup (pa_cons pe_str (pa_cons pe_int pa_nil))) (pa_cons pe_str (pa_cons pe_str (pa_cons pe_str (pa_cons pe_str pa_nil)))))))))
      (pss_one (ps_ret (pe_cmpR op_eq (pe_callB (reprK K hS (hu80_of hr)) (by rfl) g_repr (by decide +kernel) (pa_cons (pe_lc (own := [("value", 9)]) (g := (gName 9)) (tt := tYes) rfl sc_law.nd (pi_list (pv 11)) (blkOk_by (own := [("value", 9)]) (N := N_law) (sc := defScope s_law) (by decide +kernel)) (fun _ _ _ _ _ => (pg_name (i := 9) sc_law.nd rfl (Or.inl rfl))) (fun _ _ _ _ _ => pts_nil) (fun _ _ _ _ _ => (pe_callG G_deed_error hS (hr.mono (by decide)) (by rfl) m_deed_error F_deed_error.kp b_deed_error .nil pass0 (pa_cons (pv 10) (pa_cons (pv 9) pa_nil))))) pa_nil)) (pe_callB (reprK K hS (hu80_of hr)) (by rfl) g_repr (by decide +kernel) (pa_cons (pv 7) pa_nil)) (nomark _))))))))), ?_⟩
      refine ⟨_, rfl, a, ns0, rfl, ha, hl, fun H1 s d c f1 k1 => ?_⟩
      refine ⟨4, rfl, by decide, by decide, ?_⟩
      refine for_range (lo := 0) (n := 4) (fun i σ H' => ∃ y2 y3 y4 y5 y6 y7 y8 y9, σ = [some (.ref a), some (.ref s), y2, y3, y4, y5, y6, y7, y8, y9, none, none, none] ∧ Stk s d c H')
        ⟨none, none, none, none, none, none, none, none, rfl, k1⟩ ?_ ?_
      · rintro i σ H3 hi ⟨y2, y3, y4, y5, y6, y7, y8, y9, rfl, k3⟩
        have hi : i < 4 := hi
        show rdS_law_2_1 K _ _ _
        rw [show ((0 : Int) + (i : Nat)) = (i : Nat) from Int.zero_add _]
        obtain ⟨hi2, e2, b1, b2⟩ := four_at6 i hi
        refine ⟨_, rfl, szl (Nat.le_of_ble_eq_true rfl), fun l hl2 => ?_⟩
        have fl := Fr.new (S := []) (o := .lst [.int 12, .int 6, .int 9, .int 5]) hl2
        refine ⟨_, rfl, l, _, i, _, rfl, rfl, SqL.of upd_same, atI_nat e2, s, d, c, 2, hi2, rfl, k3.fr0' fl, by decide, b1, b2, fun H4 v n ps h2 _ hw f4 k4 hv => ?_⟩
        refine lw_22 (K := K) k4 hw hv h2 fun H5 z4 z5 z6 z7 f5 k5 => ?_
        refine ⟨_, rfl, _, rfl, s, d, c, v, n, ps, rfl, k5, ⟨hv.fr f5, hw⟩, fun H6 r f6 k6 hr6 => ?_⟩
        have g6 := f5.trans f6
        refine lw_24 (K := K) k6 hw (hv.fr g6) h2 hr6 fun H7 r7 q7 f7 k7 t7 i7 => ?_
        have g7 := g6.trans f7
        refine lw_25 (K := K) k7 hw (hv.fr g7) t7 i7 fun H8 z9 f8 k8 => ?_
        exact ⟨_, _, _, _, _, _, _, _, rfl, k8⟩
      · rintro σ H3 ⟨y2, y3, y4, y5, y6, y7, y8, y9, rfl, k3⟩
        refine le_3 (K := K) fun H4 v hv => ?_
        refine le_4 (K := K) hv fun H5 l xs hv5 el hl5 hx => ?_
        refine le_5 (K := K) hv5 el hx fun H6 m es f6 em te => ?_
        exact le_6 (K := K) (hv5.fr f6) (f6.keep _ _ el List.not_mem_nil) hl5 (fun i x ex => by
          obtain ⟨e, ee, ht⟩ := hx i x ex
          exact ⟨e, ee, ht.fr f6⟩) em te (fun H' => q H')
  · match zs, ws, r with
    | [_, _, _], [_, _, _], .cons a (.cons b (.cons c .nil)) => exact .cons c (.cons b (.cons a .nil))
    | [], [], _ => exact .nil
    | [_], [_], _ => exact .nil
    | [_, _], [_, _], _ => exact .nil
    | _ :: _ :: _ :: _ :: _, _ :: _ :: _ :: _ :: _, _ => exact .nil
end
end Lt

set_option Elab.async false
set_option linter.all false
set_option maxRecDepth 100000
set_option maxHeartbeats 0
namespace Lt
open PySem PySem.Spec PyProof.Rows L2
def dd_is_place : He.DefD := ⟨("is_place", none), "is_place", "is_place", defArgs s_is_place, defBody s_is_place, defScope s_is_place, [], []⟩
def dd_table_of : He.DefD := ⟨("table_of", none), "table_of", "table_of", defArgs s_table_of, defBody s_table_of, defScope s_table_of, [], []⟩
def dd_tells_apart : He.DefD := ⟨("tells_apart", none), "tells_apart", "tells_apart", defArgs s_tells_apart, defBody s_tells_apart, defScope s_tells_apart, [], []⟩
def dd_tellers_in : He.DefD := ⟨("tellers_in", none), "tellers_in", "tellers_in", defArgs s_tellers_in, defBody s_tellers_in, defScope s_tellers_in, [], []⟩
def dd_tellers : He.DefD := ⟨("tellers", none), "tellers", "tellers", defArgs s_tellers, defBody s_tellers, defScope s_tellers, [], []⟩
def dd_is_quadruple : He.DefD := ⟨("is_quadruple", none), "is_quadruple", "is_quadruple", defArgs s_is_quadruple, defBody s_is_quadruple, defScope s_is_quadruple, [], []⟩
def dd_error_in : He.DefD := ⟨("error_in", none), "error_in", "error_in", defArgs s_error_in, defBody s_error_in, defScope s_error_in, [], []⟩
def dd_deed_error : He.DefD := ⟨("deed_error", none), "deed_error", "deed_error", defArgs s_deed_error, defBody s_deed_error, defScope s_deed_error, [], []⟩
def dd_is_lift_in : He.DefD := ⟨("is_lift_in", none), "is_lift_in", "is_lift_in", defArgs s_is_lift_in, defBody s_is_lift_in, defScope s_is_lift_in, [], []⟩
def dd_is_lift : He.DefD := ⟨("is_lift", none), "is_lift", "is_lift", defArgs s_is_lift, defBody s_is_lift, defScope s_is_lift, [], []⟩
def dd__law_stock : He.DefD := ⟨("_law_stock", none), "_law_stock", "_law_stock", defArgs s__law_stock, defBody s__law_stock, defScope s__law_stock, [], []⟩
def dd__law_draw : He.DefD := ⟨("_law_draw", none), "_law_draw", "_law_draw", defArgs s__law_draw, defBody s__law_draw, defScope s__law_draw, [], []⟩
def dd__law_shuffled : He.DefD := ⟨("_law_shuffled", none), "_law_shuffled", "_law_shuffled", defArgs s__law_shuffled, defBody s__law_shuffled, defScope s__law_shuffled, [], []⟩
def dd__law_pairs : He.DefD := ⟨("_law_pairs", none), "_law_pairs", "_law_pairs", defArgs s__law_pairs, defBody s__law_pairs, defScope s__law_pairs, [], []⟩
def dd__law_named : He.DefD := ⟨("_law_named", none), "_law_named", "_law_named", defArgs s__law_named, defBody s__law_named, defScope s__law_named, [], []⟩
def dd__law_web : He.DefD := ⟨("_law_web", none), "_law_web", "_law_web", defArgs s__law_web, defBody s__law_web, defScope s__law_web, [], []⟩
def dd__law_is_tied : He.DefD := ⟨("_law_is_tied", none), "_law_is_tied", "_law_is_tied", defArgs s__law_is_tied, defBody s__law_is_tied, defScope s__law_is_tied, [], []⟩
def dd__law_tells : He.DefD := ⟨("_law_tells", none), "_law_tells", "_law_tells", defArgs s__law_tells, defBody s__law_tells, defScope s__law_tells, [], []⟩
def dd__law_fault : He.DefD := ⟨("_law_fault", none), "_law_fault", "_law_fault", defArgs s__law_fault, defBody s__law_fault, defScope s__law_fault, [], []⟩
def dd__law_is_lift : He.DefD := ⟨("_law_is_lift", none), "_law_is_lift", "_law_is_lift", defArgs s__law_is_lift, defBody s__law_is_lift, defScope s__law_is_lift, [], []⟩
def dd__law_some : He.DefD := ⟨("_law_some", none), "_law_some", "_law_some", defArgs s__law_some, defBody s__law_some, defScope s__law_some, [], []⟩
def dd__law_near : He.DefD := ⟨("_law_near", none), "_law_near", "_law_near", defArgs s__law_near, defBody s__law_near, defScope s__law_near, [], []⟩
def dd__law_is_judged : He.DefD := ⟨("_law_is_judged", none), "_law_is_judged", "_law_is_judged", defArgs s__law_is_judged, defBody s__law_is_judged, defScope s__law_is_judged, [], []⟩
def dd_law : He.DefD := ⟨("law", none), "law", "law", defArgs s_law, defBody s_law, defScope s_law, [], []⟩
def fnL : List He.DefD := [dd_is_place, dd_table_of, dd_tells_apart, dd_tellers_in, dd_tellers, dd_is_quadruple, dd_error_in, dd_deed_error, dd_is_lift_in, dd_is_lift, dd__law_stock, dd__law_draw, dd__law_shuffled, dd__law_pairs, dd__law_named, dd__law_web, dd__law_is_tied, dd__law_tells, dd__law_fault, dd__law_is_lift, dd__law_some, dd__law_near, dd__law_is_judged, dd_law]
def faL : List He.Fa := [.glo "is_place", .glo "table_of", .glo "tells_apart", .glo "tellers_in", .glo "tellers", .glo "is_quadruple", .glo "error_in", .glo "deed_error", .glo "is_lift_in", .glo "is_lift", .glo "_law_stock", .glo "_law_draw", .glo "_law_shuffled", .glo "_law_pairs", .glo "_law_named", .glo "_law_web", .glo "_law_is_tied", .glo "_law_tells", .glo "_law_fault", .glo "_law_is_lift", .glo "_law_some", .glo "_law_near", .glo "_law_is_judged", .glo "law", .free "int", .free "type", .free "range", .free "len", .free "tuple", .free "all", .free "set", .free "sum", .free "list", .free "sorted", .free "min", .free "max", .free "isinstance", .free "bool", .free "str", .free "repr"]
abbrev RR : PySem.W.OpenRow := PySem.W.OpenLaw.row PySem.Challenge.rw_liftedties_k06_tellers_and_what_is_a_dee
abbrev hkL : PySem.W.Hook := He.hookD 4 faL fnL
def obL (s : PySem.W.SharedT) : He.AlD := He.obsDG 4 faL fnL (HandSHeadRun.getT s)
theorem obL_eq (s : PySem.W.SharedT) : obL s = hkL.obs s.abs := He.obsDG_eq (HandSHeadRun.getT_eq s)
theorem runL (w : World) : HandSHeadRun.RunEq RR (PySem.W.view RR.prog [27]) hkL obL 9000 ("is_place" :: "table_of" :: "tells_apart" :: "tellers_in" :: "tellers" :: "is_quadruple" :: "error_in" :: "deed_error" :: "is_lift_in" :: "is_lift" :: "_law_stock" :: "_law_draw" :: "_law_shuffled" :: "_law_pairs" :: "_law_named" :: "_law_web" :: "_law_is_tied" :: "_law_tells" :: "_law_fault" :: "_law_is_lift" :: "_law_some" :: "_law_near" :: "_law_is_judged" :: ([] : List PySem.Str)) w := by
  intro os
  kernel_rfl
theorem factsL {P : Program} {w : World} {K : PySem.W.Frag} {h : Heap} {mg : Str → Option Value} {f : Addr} (X : K.In h) (G : h.Ns mainGlobals mg) (hfa : mg ("law" : Str) = some (.ref f)) (c : He.SaysD faL fnL K) :
    ∃ fd : FuncData, (∀ (s : Shared) (v : Value), BindsTo s fd ⟨[v], []⟩ [("script", v)]) ∧ ∀ base : Heap, K.In base → base.Ns mainGlobals mg → FnG P w K mg base CX0 7 f fd ["script"] (spLaw K) := by
  obtain ⟨fd_is_place, F_is_place⟩ := c.def_ 0 (d := dd_is_place) rfl
  obtain ⟨fd_table_of, F_table_of⟩ := c.def_ 1 (d := dd_table_of) rfl
  obtain ⟨fd_tells_apart, F_tells_apart⟩ := c.def_ 2 (d := dd_tells_apart) rfl
  obtain ⟨fd_tellers_in, F_tellers_in⟩ := c.def_ 3 (d := dd_tellers_in) rfl
  obtain ⟨fd_tellers, F_tellers⟩ := c.def_ 4 (d := dd_tellers) rfl
  obtain ⟨fd_is_quadruple, F_is_quadruple⟩ := c.def_ 5 (d := dd_is_quadruple) rfl
  obtain ⟨fd_error_in, F_error_in⟩ := c.def_ 6 (d := dd_error_in) rfl
  obtain ⟨fd_deed_error, F_deed_error⟩ := c.def_ 7 (d := dd_deed_error) rfl
  obtain ⟨fd_is_lift_in, F_is_lift_in⟩ := c.def_ 8 (d := dd_is_lift_in) rfl
  obtain ⟨fd_is_lift, F_is_lift⟩ := c.def_ 9 (d := dd_is_lift) rfl
  obtain ⟨fd__law_stock, F__law_stock⟩ := c.def_ 10 (d := dd__law_stock) rfl
  obtain ⟨fd__law_draw, F__law_draw⟩ := c.def_ 11 (d := dd__law_draw) rfl
  obtain ⟨fd__law_shuffled, F__law_shuffled⟩ := c.def_ 12 (d := dd__law_shuffled) rfl
  obtain ⟨fd__law_pairs, F__law_pairs⟩ := c.def_ 13 (d := dd__law_pairs) rfl
  obtain ⟨fd__law_named, F__law_named⟩ := c.def_ 14 (d := dd__law_named) rfl
  obtain ⟨fd__law_web, F__law_web⟩ := c.def_ 15 (d := dd__law_web) rfl
  obtain ⟨fd__law_is_tied, F__law_is_tied⟩ := c.def_ 16 (d := dd__law_is_tied) rfl
  obtain ⟨fd__law_tells, F__law_tells⟩ := c.def_ 17 (d := dd__law_tells) rfl
  obtain ⟨fd__law_fault, F__law_fault⟩ := c.def_ 18 (d := dd__law_fault) rfl
  obtain ⟨fd__law_is_lift, F__law_is_lift⟩ := c.def_ 19 (d := dd__law_is_lift) rfl
  obtain ⟨fd__law_some, F__law_some⟩ := c.def_ 20 (d := dd__law_some) rfl
  obtain ⟨fd__law_near, F__law_near⟩ := c.def_ 21 (d := dd__law_near) rfl
  obtain ⟨fd__law_is_judged, F__law_is_judged⟩ := c.def_ 22 (d := dd__law_is_judged) rfl
  obtain ⟨fd_law, F_law⟩ := c.def_ 23 (d := dd_law) rfl
  have e := hfa.symm.trans (He.glo_ok X G (c.fact 23 (f := .glo "law") rfl))
  cases e
  have b := FunD.bindsA (ps := ["script"]) F_law fun _ _ _ _ _ _ us hl => match us, hl with | [_], _ => rfl
  refine ⟨fd_law, fun s v => b s [v] rfl, fun base _ _ => ?_⟩
  have m_is_place := He.glo_ok X G (c.fact 0 (f := .glo "is_place") rfl)
  have m_table_of := He.glo_ok X G (c.fact 1 (f := .glo "table_of") rfl)
  have m_tells_apart := He.glo_ok X G (c.fact 2 (f := .glo "tells_apart") rfl)
  have m_tellers_in := He.glo_ok X G (c.fact 3 (f := .glo "tellers_in") rfl)
  have m_tellers := He.glo_ok X G (c.fact 4 (f := .glo "tellers") rfl)
  have m_is_quadruple := He.glo_ok X G (c.fact 5 (f := .glo "is_quadruple") rfl)
  have m_error_in := He.glo_ok X G (c.fact 6 (f := .glo "error_in") rfl)
  have m_deed_error := He.glo_ok X G (c.fact 7 (f := .glo "deed_error") rfl)
  have m_is_lift_in := He.glo_ok X G (c.fact 8 (f := .glo "is_lift_in") rfl)
  have m_is_lift := He.glo_ok X G (c.fact 9 (f := .glo "is_lift") rfl)
  have m__law_stock := He.glo_ok X G (c.fact 10 (f := .glo "_law_stock") rfl)
  have m__law_draw := He.glo_ok X G (c.fact 11 (f := .glo "_law_draw") rfl)
  have m__law_shuffled := He.glo_ok X G (c.fact 12 (f := .glo "_law_shuffled") rfl)
  have m__law_pairs := He.glo_ok X G (c.fact 13 (f := .glo "_law_pairs") rfl)
  have m__law_named := He.glo_ok X G (c.fact 14 (f := .glo "_law_named") rfl)
  have m__law_web := He.glo_ok X G (c.fact 15 (f := .glo "_law_web") rfl)
  have m__law_is_tied := He.glo_ok X G (c.fact 16 (f := .glo "_law_is_tied") rfl)
  have m__law_tells := He.glo_ok X G (c.fact 17 (f := .glo "_law_tells") rfl)
  have m__law_fault := He.glo_ok X G (c.fact 18 (f := .glo "_law_fault") rfl)
  have m__law_is_lift := He.glo_ok X G (c.fact 19 (f := .glo "_law_is_lift") rfl)
  have m__law_some := He.glo_ok X G (c.fact 20 (f := .glo "_law_some") rfl)
  have m__law_near := He.glo_ok X G (c.fact 21 (f := .glo "_law_near") rfl)
  have m__law_is_judged := He.glo_ok X G (c.fact 22 (f := .glo "_law_is_judged") rfl)
  have m_law := He.glo_ok X G (c.fact 23 (f := .glo "law") rfl)
  have g_int := He.free_ok X G (c.fact 24 (f := .free "int") rfl)
  have g_type := He.free_ok X G (c.fact 25 (f := .free "type") rfl)
  have g_range := He.free_ok X G (c.fact 26 (f := .free "range") rfl)
  have g_len := He.free_ok X G (c.fact 27 (f := .free "len") rfl)
  have g_tuple := He.free_ok X G (c.fact 28 (f := .free "tuple") rfl)
  have g_all := He.free_ok X G (c.fact 29 (f := .free "all") rfl)
  have g_set := He.free_ok X G (c.fact 30 (f := .free "set") rfl)
  have g_sum := He.free_ok X G (c.fact 31 (f := .free "sum") rfl)
  have g_list := He.free_ok X G (c.fact 32 (f := .free "list") rfl)
  have g_sorted := He.free_ok X G (c.fact 33 (f := .free "sorted") rfl)
  have g_min := He.free_ok X G (c.fact 34 (f := .free "min") rfl)
  have g_max := He.free_ok X G (c.fact 35 (f := .free "max") rfl)
  have g_isinstance := He.free_ok X G (c.fact 36 (f := .free "isinstance") rfl)
  have g_bool := He.free_ok X G (c.fact 37 (f := .free "bool") rfl)
  have g_str := He.free_ok X G (c.fact 38 (f := .free "str") rfl)
  have g_repr := He.free_ok X G (c.fact 39 (f := .free "repr") rfl)
  have G_is_place := ok_is_place (P := P) (w := w) (mg := mg) (base := base) F_is_place g_int g_type
  have G_is_place_g := ok_is_placeG (P := P) (w := w) (mg := mg) (base := base) F_is_place g_int g_type
  have G_table_of := ok_table_of (P := P) (w := w) (mg := mg) (base := base) F_table_of g_range
  have G_tells_apart := ok_tells (P := P) (w := w) (mg := mg) (base := base) F_tells_apart
  have G_is_quadruple := ok_is_quad (P := P) (w := w) (mg := mg) (base := base) F_is_quadruple g_tuple g_all g_type g_len F_is_place m_is_place G_is_place
  have G_is_quadruple_off := ok_is_quadOff (P := P) (w := w) (mg := mg) (base := base) F_is_quadruple g_tuple g_all g_type g_len F_is_place m_is_place G_is_place_g
  have G_error_in := ok_error_in (P := P) (w := w) (mg := mg) (base := base) F_error_in g_len g_set F_is_quadruple m_is_quadruple F_tells_apart m_tells_apart G_is_quadruple G_tells_apart
  have G_error_in_off := ok_errorOff (P := P) (w := w) (mg := mg) (base := base) F_error_in g_len g_set F_is_quadruple m_is_quadruple F_tells_apart m_tells_apart G_is_quadruple_off G_tells_apart
  have G_deed_error_i := ok_deedI (P := P) (w := w) (mg := mg) (base := base) F_deed_error F_error_in m_error_in F_table_of m_table_of G_error_in G_table_of
  have G_deed_error_off := ok_deedOff (P := P) (w := w) (mg := mg) (base := base) F_deed_error F_error_in m_error_in F_table_of m_table_of G_error_in_off G_table_of
  have G_deed_error_v := FnG.alt G_deed_error_i G_deed_error_off
  have G_is_lift_in := ok_lift_in (P := P) (w := w) (mg := mg) (base := base) F_is_lift_in
  have G_is_lift := ok_lift (P := P) (w := w) (mg := mg) (base := base) F_is_lift F_is_lift_in m_is_lift_in F_table_of m_table_of G_table_of G_is_lift_in
  have G_tellers_in := ok_tellers_in (P := P) (w := w) (mg := mg) (base := base) F_tellers_in g_range g_len F_tells_apart m_tells_apart G_tells_apart
  have G_tellers := ok_tellers (P := P) (w := w) (mg := mg) (base := base) F_tellers g_tuple F_tellers_in m_tellers_in F_table_of m_table_of G_table_of G_tellers_in
  have G__law_stock := ok_stock (P := P) (w := w) (mg := mg) (base := base) F__law_stock g_sum g_len
  have G__law_draw := ok_draw (P := P) (w := w) (mg := mg) (base := base) F__law_draw g_int g_len
  have G__law_shuffled := ok_shuffled (P := P) (w := w) (mg := mg) (base := base) F__law_shuffled g_range g_list g_len F__law_draw m__law_draw G__law_draw
  have G__law_shuffled_v := ok_shuffledV (P := P) (w := w) (mg := mg) (base := base) F__law_shuffled g_range g_list g_len F__law_draw m__law_draw G__law_draw
  have G__law_pairs := ok_law_pairs (P := P) (w := w) (mg := mg) (base := base) F__law_pairs g_range
  have G__law_named := ok_named (P := P) (w := w) (mg := mg) (base := base) F__law_named g_tuple g_sorted g_min g_max
  have G__law_web := ok_web (P := P) (w := w) (mg := mg) (base := base) F__law_web g_list g_range g_int F__law_named m__law_named F__law_draw m__law_draw F__law_pairs m__law_pairs F__law_shuffled m__law_shuffled G__law_draw G__law_pairs G__law_named G__law_shuffled
  have G__law_is_tied := ok_law_is_tied (P := P) (w := w) (mg := mg) (base := base) F__law_is_tied g_min g_max
  have G__law_tells := ok_law_tells (P := P) (w := w) (mg := mg) (base := base) F__law_tells F__law_is_tied m__law_is_tied G__law_is_tied
  have G__law_fault_i := ok_fault (P := P) (w := w) (mg := mg) (base := base) F__law_fault g_len g_isinstance g_tuple g_bool g_set g_int F__law_tells m__law_tells G__law_tells
  have G__law_fault_off := ok_faultOff (P := P) (w := w) (mg := mg) (base := base) F__law_fault g_len g_isinstance g_tuple g_bool g_set g_int F__law_tells m__law_tells G__law_tells
  have G__law_fault_v := FnG.alt G__law_fault_i G__law_fault_off
  have G__law_is_lift := ok_law_lift (P := P) (w := w) (mg := mg) (base := base) F__law_is_lift F__law_is_tied m__law_is_tied G__law_is_tied
  have G__law_some := ok_some (P := P) (w := w) (mg := mg) (base := base) F__law_some g_range g_len F__law_draw m__law_draw F__law_tells m__law_tells F__law_shuffled m__law_shuffled G__law_draw G__law_tells G__law_shuffled
  have G__law_near := ok_near (P := P) (w := w) (mg := mg) (base := base) F__law_near g_str g_list g_range F__law_draw m__law_draw F__law_shuffled m__law_shuffled G__law_draw G__law_shuffled_v
  have G__law_is_judged := ok_judged (P := P) (w := w) (mg := mg) (base := base) F__law_is_judged g_repr F__law_is_lift m__law_is_lift F__law_fault m__law_fault F_deed_error m_deed_error F_is_lift m_is_lift G_deed_error_v G__law_fault_v G__law_is_lift G_is_lift
  have G_law := ok_law (P := P) (w := w) (mg := mg) (base := base) F_law g_range g_repr g_tuple g_list F__law_stock m__law_stock F__law_web m__law_web F__law_some m__law_some F__law_near m__law_near F__law_shuffled m__law_shuffled F__law_is_judged m__law_is_judged F_deed_error m_deed_error F_tellers m_tellers F__law_tells m__law_tells G__law_stock G__law_web G__law_shuffled G__law_tells G_tellers G__law_some G__law_near G__law_is_judged G_deed_error_v
  exact G_law
end Lt
open PySem PySem.W PySem.Calls PyProof.Rows
theorem PySem.Challenge.cw_liftedties_k06_tellers_and_what_is_a_dee_holds : PySem.Challenge.rw_liftedties_k06_tellers_and_what_is_a_dee.Holds := by
  w_on; o_law
  refine HandSHeadRun.head_any (r := OpenLaw.row PySem.Challenge.rw_liftedties_k06_tellers_and_what_is_a_dee) (q := view (OpenLaw.row PySem.Challenge.rw_liftedties_k06_tellers_and_what_is_a_dee).prog [27]) (H := Lt.hkL) (ob := Lt.obL) (M := 9000) (loose := ("is_place" :: "table_of" :: "tells_apart" :: "tellers_in" :: "tellers" :: "is_quadruple" :: "error_in" :: "deed_error" :: "is_lift_in" :: "is_lift" :: "_law_stock" :: "_law_draw" :: "_law_shuffled" :: "_law_pairs" :: "_law_named" :: "_law_web" :: "_law_is_tied" :: "_law_tells" :: "_law_fault" :: "_law_is_lift" :: "_law_some" :: "_law_near" :: "_law_is_judged" :: ([] : List PySem.Str))) (d := HandSHeadRun.topDef (OpenLaw.row PySem.Challenge.rw_liftedties_k06_tellers_and_what_is_a_dee).prog 27) (kwd := []) Lt.obL_eq
    (by kernel_rfl) (fun s => by kernel_rfl) Lt.runL (by kernel_rfl) (by kernel_rfl) (by kernel_rfl) (by rfl) (by first | assumption | decide +kernel) (by decide +kernel) ⟨rfl, rfl, rfl, rfl, rfl, by decide +kernel⟩ ?hw ?hc
  case hw => w_witness2
  case hc =>
    refine Lt.walk_ofG (l := PySem.Challenge.rw_liftedties_k06_tellers_and_what_is_a_dee) (n := 63) (k := 7) (x := "script") rfl (by decide) (by kernel_rfl) ⟨rfl, by decide, by decide⟩ ?F
    intro w mg fa h Y G hmg0
    obtain ⟨K, KX, c⟩ := Y
    have hmg : mg ("law" : PySem.Str) = some (.ref fa) := by
      have e : (HandSHeadRun.topDef (OpenLaw.row PySem.Challenge.rw_liftedties_k06_tellers_and_what_is_a_dee).prog 27).name = ("law" : PySem.Str) := by kernel_rfl
      rw [← e]
      exact hmg0
    obtain ⟨fd, hb, hF⟩ := Lt.factsL (P := (PySem.Challenge.rw_liftedties_k06_tellers_and_what_is_a_dee).prog) (w := w) KX G hmg c
    exact ⟨K, fd, Lt.spLaw K, KX, hb, fun H a ns hl hS => ⟨a, ns, rfl, hS, hl, fun _ => rfl⟩, hF⟩

