import PyProof.Rows.All
import Wide.All
import OpenK.AllK
import Wide.FinOn
import KE.KStateDown
import HandS.ForMost
import HandS.Flow
import HandS.Deep
import HandS.Defaults
import HandS.SortRule
import HandS.SortInts
import HandS.Walk
import KE.GoesEnum
import HandS.Conv
import KE.GoesZip
import KE.GoesMore
import HandS.Zip
import KE.KTupSum
import HandS.More
import HandS.SetFor
import PyProof.TupleOfSeq
import HandS.ExcValue
import KE.DatumOrd
import HandS.TupLe
import HandS.IsInst
import KE.SortData
import HandS.RevTup
import HandS.Dict
import KE.KDictPairs
import HandS.TupAny
import KE.KExcSuper
import HandS.Exc
import HandS.ExcOwn
import HandS.ExcIs
import HandS.HeadHook1
import KE.KExcIs
import HandS.HeadEnd
import HandS.HeadHook2
import HandS.Head0
import HandS.Head1
import HandS.Head2
import PySem.Challenge.RW_liftedties_k01_what_is_a_web
set_option Elab.async false
set_option linter.all false
set_option maxRecDepth 100000
set_option maxHeartbeats 2000000
namespace Lt
open PySem PySem.Spec PyProof.Rows L2
abbrev Slots := L2.St
/-! ## nobody's repr is under way: defs whose promise may use it -/
abbrev Still (A : Around) : Prop := A.guards = some []
structure FnG (P : Program) (w : World) (K : PySem.W.Frag) (mg : Str → Option Value) (base : Heap) (CX : CXT)
    (k : Nat) (f : Addr) (fd : FuncData) (ps : List Str) (sp : Sp) : Prop where
  arity : ∀ vs H Q E, sp vs H Q E → vs.length = ps.length
  go : ∀ (A : Around) (outer : List Env) (s : Shared) (H : Hp) (args : Args) (us : List Value) (vs : List V) (Q : VK) (E : XK),
    Still A → Room k A → Env0 P w K mg base A outer s H →
    BindsTo s fd args (ps.zip us) → Vals vs us → sp vs H Q E → codeAny (model P w) A (.call (.ref f) args) (CR CX outer P w H s Q E) s
section
variable {P : Program} {w : World} {K : PySem.W.Frag} {mg : Str → Option Value} {base : Heap} {CX : CXT}
  {k j : Nat} {f : Addr} {fd : FuncData} {ps : List Str} {sp : Sp}
theorem FnG.of (F : FnOk P w K mg base CX k f fd ps sp) : FnG P w K mg base CX k f fd ps sp :=
  ⟨F.len, fun A outer s H args us vs Q E _ => F.run A outer s H args us vs Q E⟩
theorem FnG.up (F : FnG P w K mg base CX j f fd ps sp) (h : j ≤ k) : FnG P w K mg base CX k f fd ps sp :=
  ⟨F.arity, fun A outer s H args us vs Q E g r => F.go A outer s H args us vs Q E g (r.mono h)⟩
end
section
variable {X : Cx} {CX : CXT} {k : Nat} {f : Addr} {fd : FuncData} {ps : List Str} {sp : Sp} {dvs : List V} {ds : List Value}
  {E : XK} {x : Str} {p pos : Pos} {e : Expr} {es : List Expr} {t : TA}
/-- what a call that has ended leaves to its caller -/
theorem back_ok {pins : List (Addr × Obj)} {σ : Slots} {H : Hp} {s : Shared} {Q : VK} (I : Inv X pins σ H s) {fl : Flow} {s' : Shared}
    (z : CR CX X.stack X.prog X.w H s Q E (.ok fl) s') : ∃ u, fl = .ret u ∧ EP X pins σ Q u s' := by
  cases fl
  case ret u => exact ⟨u, rfl, I.after z⟩
  all_goals exact z.elim
theorem goG {pins : List (Addr × Obj)} {σ : Slots} {H : Hp} {s : Shared} {Q : VK} {us ws : List Value} {vs : List V} {kw : List (Str × Value)}
    (F : FnG X.prog X.w X.K X.mg X.base CX k f fd ps sp) (hg : Still X.A) (hr : Room k X.A) (hx : Passes CX X E) (I : Inv X pins σ H s)
    (hb : ws.length = ps.length → BindsTo s fd ⟨us, kw⟩ (ps.zip ws)) (rv : Vals vs ws) (h : sp vs H Q E) :
    wpAny (model X.prog X.w) X.A (call (.ref f) us kw) (EP X pins σ Q) X.xe s := by
  have hlen : ws.length = ps.length := rv.length.symm.trans (F.arity _ _ _ _ h)
  have run := F.go X.A X.stack s H ⟨us, kw⟩ ws vs Q E hg hr I.env0 (hb hlen) rv h
  refine wpAny_call (codeAny_mono run fun r s' z => ?_)
  rcases r with er | fl
  · exact hx pins σ H s er s' I z
  · obtain ⟨u, rfl, q⟩ := back_ok I z
    exact q
theorem pe_callG (F : FnG X.prog X.w X.K X.mg X.base CX k f fd ps sp) (hs : Still X.A) (hr : Room k X.A) (hg : Gl X x) (hm : X.mg x = some (.ref f))
    (hk : PySem.W.keepIn X.K (.ref f) = true) (hb : Binds X.K fd ps ds) (hd : Vals dvs ds) (hx : Passes CX X E) (ha : PA X (e :: es) t)
    (hdb : (x == ("__debug__" : Str)) = false := by decide) (he : starEach (e :: es) X.env = (false, eval e X.env) :: starEach es X.env := by rfl)
    (hpl : (backTo pos (starEach es X.env)).any (·.1) = false := by rfl) : PE X (.Call (.Name x p) (e :: es) [] pos) (tCall sp dvs E t) := by
  constructor
  intro pins s σ H Q I h
  apply wpAny_Call_Name_kw
  apply ld_glob I hg hm ?_ hdb
  apply PySem.W.callWith_K (h₀ := X.base) I.ok.mod.kin hk ?_ he hpl
  refine thn (ha.run pos pins s σ H _ I h) ?_
  rintro us s1 ⟨vs, H1, I1, r, q⟩
  exact ⟨I1.kIn, goG F hs hr hx I1 (fun hl => hb s1 us I1.kIn hl) (r.append hd) q⟩
/-- how a call by names alone binds: the values ws of the names ks, put in the parameters' order by g -/
structure NBinds (K : PySem.W.Frag) (fd : FuncData) (ps ks : List Str) (g : {α : Type} → List α → List α) : Prop where
  to : ∀ (s : Shared) (ws : List Value), K.In s.heap → (g ws).length = ps.length → BindsTo s fd ⟨[], ks.zip ws⟩ (ps.zip (g ws))
  rel : ∀ {zs : List V} {ws : List Value}, Vals zs ws → Vals (g zs) (g ws)
def tCallN (sp : Sp) (g : {α : Type} → List α → List α) (E : XK) (tk : TA) : TE := fun σ H Q => tk σ H fun zs H1 => sp (g zs) H1 Q E
theorem pe_callGN {kws : List Keyword} {tk : TA} {ks : List Str} {g : {α : Type} → List α → List α}
    (F : FnG X.prog X.w X.K X.mg X.base CX k f fd ps sp) (hs : Still X.A) (hr : Room k X.A) (hg : Gl X x) (hm : X.mg x = some (.ref f))
    (hk : PySem.W.keepIn X.K (.ref f) = true) (hb : NBinds X.K fd ps ks g) (hx : Passes CX X E) (hkw : PK X kws tk)
    (hall : (backToKw pos (keywordEach kws X.env)).all (·.1.isSome) = true := by rfl) (hks : (backToKw pos (keywordEach kws X.env)).filterMap (·.1) = ks := by rfl)
    (hdb : (x == ("__debug__" : Str)) = false := by decide)
    (hpl : ((backTo pos (starEach [] X.env)).any (·.1) || (backToKw pos (keywordEach kws X.env)).any (·.1.isNone)) = false := by rfl) :
    PE X (.Call (.Name x p) [] kws pos) (tCallN sp g E tk) := by
  constructor
  intro pins s σ H Q I h
  apply wpAny_Call_Name_kw
  apply ld_glob I hg hm ?_ hdb
  apply PySem.W.callWith_KW0 (h₀ := X.base) I.ok.mod.kin hk hall ?_ hpl
  refine thn (hkw.run pos pins s σ H _ I h) ?_
  rintro ws s1 ⟨zs, H1, I1, r, q⟩
  refine ⟨I1.kIn, ?_⟩
  rw [hks]
  exact goG F hs hr hx I1 (fun hl => hb.to s1 ws I1.kIn hl) (hb.rel r) q
end
/-! ## a def's body, where nobody's repr is under way -/
section
variable {P : Program} {w : World} {K : PySem.W.Frag} {mg : Str → Option Value} {base : Heap} {CX : CXT} {x qual : Str} {params : Arguments}
  {body : List Stmt} {scope : Scope} {dvs : List V} {kws : List (Str × V)} {f : Addr} {fd : FuncData} {N ps : List Str} {k : Nat} {sp : Sp}
theorem par_kind {us : List Value} {n : Nat} (S : FnScope N ps scope) : ∀ y ∈ ps.zip us, scope.names.lookup y.1 = some .local ∨
    (scope.names.lookup y.1 = some .cell ∧ ((cellsFrom n scope.names []).lookup y.1).isSome = true) := by
  rintro ⟨m, v⟩ hy
  have hm : m ∈ ps := (List.of_mem_zip hy).1
  cases S.par m hm with
  | inl q => exact .inl q
  | inr q => exact .inr ⟨q, PySem.W.cellsFrom_some _ _ _ (.inl q)⟩
theorem okG (F : FunD K x qual params body scope dvs kws f fd) (S : FnScope N ps scope) (len : ∀ vs H Q E, sp vs H Q E → vs.length = ps.length)
    (bodyOk : ∀ (cdv : Value) (A : Around) (outer : List Env) (s : Shared) (H : Hp) (vs : List V) (Q : VK) (E : XK), Still A →
      Room k (A.deeper (envOfC qual scope s.heap.objs.size f cdv)) → sp vs H Q E →
      ∃ t, PSs (cxOf CX P w K mg base N qual scope f cdv A outer s H E) body t ∧ t { nx := fun _ H' => Q .non H', rt := Q } (start N vs) H) :
    FnG P w K mg base CX (k + 1) f fd ps sp := by
  obtain ⟨oc, od, dV, kV, doc, pm, an, cdv, ct, osl, rfl, lk, hcd, _, _⟩ := F.ex
  constructor
  · exact len
  intro A outer s H args us vs Q E hg hr e0 hb rv hsp
  have kept : ∀ b o, base.get? b = some o → s.heap.get? b = some o := fun b o e => (e0.bs b o e).1
  have KX : K.In s.heap := e0.mod.kin.keeps kept
  apply codeAny_call_function hr.depth (KX _ _ lk) rfl S.co S.gen rfl (PySem.W.codeRec_of KX hcd)
  apply hb
  refine wpAny_newFunctionEnv_cells S.kind (par_kind S) ?_
  rintro env rfl s1 ic
  refine ⟨(e0.mod.nolimit.keeps kept).keeps ic.toInCall.keep, codeAny_func ?_⟩
  obtain ⟨t, ht, hq⟩ := bodyOk cdv A outer s H vs Q E hg (hr.deeper _) hsp
  have I := inv_start (CX := CX) (P := P) (w := w) (K := K) (mg := mg) (base := base) (E := E) S hr.hd e0 (len _ _ _ _ hsp) rv ic
  refine wpAny_mono (ht.run [] s1 (start N vs) H _ I hq) ?_ (fun er s' z => z)
  intro fl s' z
  cases fl
  case ret u =>
    obtain ⟨v, σ', H', J, rv', q⟩ := z
    exact ⟨v, H', J.os, J.bare, J.base, J.hok, rv', q⟩
  case next =>
    obtain ⟨σ', H', J, q⟩ := z
    exact ⟨.non, H', J.os, J.bare, J.base, J.hok, rfl, q⟩
  all_goals
    obtain ⟨_, _, _, q⟩ := z
    exact q.elim
/-- the same of a def that lets no error out -/
theorem okG0 (F : FunD K x qual params body scope dvs kws f fd) (S : FnScope N ps scope) (len : ∀ vs H Q E, sp vs H Q E → vs.length = ps.length)
    (bodyOk : ∀ (cdv : Value) (A : Around) (outer : List Env) (s : Shared) (H : Hp) (vs : List V) (Q : VK) (E : XK), Still A →
      Room k (A.deeper (envOfC qual scope s.heap.objs.size f cdv)) → sp vs H Q E →
      ∃ t, PSs (cxOf CX P w K mg base N qual scope f cdv A outer s H E).nox body t ∧ t { nx := fun _ H' => Q .non H', rt := Q } (start N vs) H) :
    FnG P w K mg base CX (k + 1) f fd ps sp :=
  okG F S len fun cdv A outer s H vs Q E g r h => let ⟨t, a, b⟩ := bodyOk cdv A outer s H vs Q E g r h; ⟨t, a.nox, b⟩
theorem nbinds {ks : List Str} {g : {α : Type} → List α → List α} (F : FunD K x qual params body scope [] kws f fd)
    (h : ∀ (kV doc pm : Value) (an : Option Addr) (cdv ct : Value) (ws : List Value), (g ws).length = ps.length →
      bindArgs (PySem.W.fnOf x qual params body scope .none kV doc pm an cdv ct) ⟨[], ks.zip ws⟩ = pure (ps.zip (g ws)))
    (hrel : ∀ {zs : List V} {ws : List Value}, Vals zs ws → Vals (g zs) (g ws)) : NBinds K fd ps ks g := by
  obtain ⟨oc, od, dV, kV, doc, pm, an, cdv, ct, osl, rfl, lk, hcd, hD, hK⟩ := F.ex
  rcases hD with ⟨_, rfl⟩ | ⟨e, _⟩
  · exact ⟨fun s ws _ hl => .of_eq (h kV doc pm an cdv ct ws hl), hrel⟩
  · exact absurd rfl e
end
/-! ## the law's own end -/
section
variable {P : Program} {w : World} {K : PySem.W.Frag} {mg mb : Str → Option Value} {k : Nat} {fa a : Addr} {fd : FuncData} {x : Str} {sp : Sp}
  {s₁ : Shared} {vs : List Value} {ns : List Int}
theorem law_callG (KX : K.In s₁.heap) (hns : s₁.heap.Ns mainGlobals mg) (hb : s₁.heap.Ns builtinsNs mb) (hbb : ∀ x : Str, x ≠ "__name__" → mb x = bootBuiltins x)
    (hlim : s₁.heap.NoLimit) (hg : s₁.gens = #[]) (ha : s₁.heap.get? a = some { cls := .type "list", data := .seq vs.toArray }) (hi : IntsAre vs ns)
    (hl : ns.length ≤ sizeLine) (hr : Room k callerA) (F : ∀ base : Heap, K.In base → base.Ns mainGlobals mg → FnG P w K mg base CX0 k fa fd [x] sp)
    (hbind : ∀ (s : Shared) (u : Value), BindsTo s fd ⟨[u], []⟩ [(x, u)])
    (hsp : ∀ H : Hp, SqL K H a (ns.map V.int) → sp [.ref a] H (fun v _ => v = .bl true) fun _ _ _ => False) :
    codeAny (model P w) callerA (.call (.ref fa) ⟨[.ref a], []⟩)
      (fun r s' => r = .ok (.ret (.bool true)) ∧ OldK s₁.heap s'.heap ∧ s'.os = s₁.os ∧ AllBare s'.gens) s₁ := by
  have rv := vals_ints hi
  -- the script is tracked, locked, unless it is one of the module's own objects
  let ob : Obj := { cls := .type "list", data := .seq vs.toArray }
  let H : Hp := fun b => if b = a ∧ K.lookup a = none then some (.frz ob (.lst (ns.map V.int))) else none
  have hH : ∀ {b u}, H b = some u → b = a ∧ K.lookup a = none ∧ u = .frz ob (.lst (ns.map V.int)) := by
    intro b u e
    by_cases c : b = a ∧ K.lookup a = none
    · have e' := (if_pos c).symm.trans e
      exact ⟨c.1, c.2, (Option.some.inj e').symm⟩
    · have e' := (if_neg c).symm.trans e
      cases e'
  have hS : SqL K H a (ns.map V.int) := by
    cases c : K.lookup a with
    | none => exact .inl (.inr ⟨ob, if_pos ⟨rfl, c⟩⟩)
    | some o =>
      have e := KX a o c
      rw [ha] at e
      cases e
      exact .inr ⟨_, vs.toArray, _, c, rfl, rfl, rfl, by rw [List.size_toArray, hi.length]; exact hl, by simpa using rv⟩
  have hok : HOk P w H s₁.heap := by
    intro b u e
    obtain ⟨rfl, _, rfl⟩ := hH e
    exact ⟨ha, by rw [List.length_map]; exact hl, vs, _, rv, ha⟩
  have off : ∀ {b : Addr} {o : Obj}, K.lookup b = some o → H b = none := by
    intro b o e
    cases c : H b with
    | none => rfl
    | some u =>
      obtain ⟨rfl, n, _⟩ := hH c
      rw [n] at e
      cases e
  have offD : ∀ {b : Addr} {o : Obj} {es : Array DictEntry} {ep : Nat}, s₁.heap.get? b = some o → o.data = .dict es ep → H b = none := by
    intro b o es ep e d
    cases c : H b with
    | none => rfl
    | some u =>
      obtain ⟨rfl, _, _⟩ := hH c
      rw [ha] at e
      cases e
      cases d
  have ns_of : ∀ {b : Addr} {m : Str → Option Value}, s₁.heap.Ns b m → (hidT s₁.heap H).Ns b m := by
    rintro b m ⟨o, es, ep, e, d, r⟩
    exact ⟨o, es, ep, hidT_get e (offD e d), d, r⟩
  have kin : K.In (hidT s₁.heap H) := fun b o e => hidT_get (KX b o e) (off e)
  have md : Mod K mg (hidT s₁.heap H) := by
    obtain ⟨mc, h1, h2⟩ := hlim
    exact ⟨kin, ns_of hns, ⟨mb, ns_of hb, hbb⟩, mc, ns_of h1, h2⟩
  have e0 : Env0 P w K mg (hidT s₁.heap H) callerA [] s₁ H := by
    refine ⟨rfl, md, fun b o e => of_hidT e, Nat.le_of_eq (hidT_size _ _), trivial, ?_, hok, .of_eq hg⟩
    intro b z
    cases z
  have run := (F _ kin (ns_of hns)).go callerA [] s₁ H ⟨[.ref a], []⟩ [.ref a] [.ref a] _ _ rfl hr e0 (hbind s₁ (.ref a)) (.cons rfl .nil) (hsp H hS)
  refine codeAny_mono run ?_
  intro r s' z
  rcases r with er | fl
  · exact z.elim
  cases fl
  case ret u =>
    obtain ⟨v, H', os, bare, un, hok', rvu, q⟩ := z
    obtain rfl : v = .bl true := q
    obtain rfl : u = Value.bool true := rvu
    refine ⟨rfl, OldK.of_keep ?_, os, bare⟩
    intro b o e
    cases c : H b with
    | none =>
      refine un.keep b o e c ?_ (by simp)
      intro z
      cases z
    | some u =>
      obtain ⟨rfl, _, rfl⟩ := hH c
      have z2 := un.frzs _ ob _ c
      obtain ⟨e2, _⟩ := hok' _ _ z2
      rw [ha] at e
      cases e
      exact e2
  all_goals exact z.elim
theorem walk_ofG {l : PySem.W.OpenLaw} {n : Nat} {q : Program} {loose : List Str} {XP : (Str → Option Value) → Heap → Prop} {YP : World → Heap → Prop} {d : DefRec}
    (hn : l.most = some n) (hn2 : n ≤ sizeLine) (hdf : d.params.defaults = []) (hr : Room k callerA)
    (F : ∀ (w : World) (mg : Str → Option Value) (fa : Addr) (h : Heap), YP w h → h.Ns mainGlobals mg → mg d.name = some (.ref fa) →
      ∃ (K : PySem.W.Frag) (fd : FuncData) (sp : Sp), K.In h ∧ (∀ (s : Shared) (u : Value), BindsTo s fd ⟨[u], []⟩ [(x, u)]) ∧
        (∀ (H : Hp) (a : Addr) (ns : List Int), ns.length ≤ n → SqL K H a (ns.map V.int) → sp [.ref a] H (fun v _ => v = .bl true) fun _ _ _ => False) ∧
        ∀ base : Heap, K.In base → base.Ns mainGlobals mg → FnG l.prog w K mg base CX0 k fa fd [x] sp) :
    PySem.W.WalkO q loose XP YP l.row.toRowW d [] (fun f vs => PySem.call f vs) := by
  apply Att.attach_call hn hdf
  intro w s₀ s₁ mg mb fa o pm cd doc a vs ns G Y ho hd hcd hmg hobj hints hlen hg
  obtain ⟨K, fd, sp, KX, hb, hsp, hF⟩ := F w mg fa _ Y G.T.g hmg
  exact law_callG KX G.T.g G.T.b G.T.builtins G.T.nolimit hg hobj hints (Nat.le_trans hlen hn2) hr hF hb (fun H hS => hsp H a ns hlen hS)
end
end Lt

set_option Elab.async false
set_option linter.all false
set_option maxRecDepth 100000
set_option maxHeartbeats 2000000
namespace Lt
open PySem PySem.Spec PyProof.Rows L2
/-! ## data made of tuples alone -/
mutual
inductive Tp (H : Hp) : V → PyData → Prop
  | non : Tp H .non .none
  | bl (b : Bool) : Tp H (.bl b) (.bool b)
  | int (i : Int) : Tp H (.int i) (.int i)
  | str (x : Str) : Tp H (.str x) (.str x)
  | tup {a : Addr} {xs : List V} {ds : List PyData} : H a = some (.tup xs) → Tps H xs ds → Tp H (.ref a) (.tuple ds)
inductive Tps (H : Hp) : List V → List PyData → Prop
  | nil : Tps H [] []
  | cons {v : V} {vs : List V} {d : PyData} {ds : List PyData} : Tp H v d → Tps H vs ds → Tps H (v :: vs) (d :: ds)
end
section
variable {K : PySem.W.Frag} {H H' H'' : Hp}
mutual
theorem Tp.dp : ∀ {d : PyData} {v : V}, Tp H v d → Dp K H v d
  | _, _, .non => .non
  | _, _, .bl b => .bl b
  | _, _, .int i => .int i
  | _, _, .str x => .str x
  | _, _, .tup h t => .tup (SqT.of h) (Tps.dp t)
theorem Tps.dp : ∀ {ds : List PyData} {vs : List V}, Tps H vs ds → DpAll K H vs ds
  | _, _, .nil => .nil
  | _, _, .cons a b => .cons (Tp.dp a) (Tps.dp b)
end
mutual
theorem Tp.mv (e : ∀ b xs, H b = some (.tup xs) → H' b = some (.tup xs)) : ∀ {d : PyData} {v : V}, Tp H v d → Tp H' v d
  | _, _, .non => .non
  | _, _, .bl b => .bl b
  | _, _, .int i => .int i
  | _, _, .str x => .str x
  | _, _, .tup h t => .tup (e _ _ h) (Tps.mv e t)
theorem Tps.mv (e : ∀ b xs, H b = some (.tup xs) → H' b = some (.tup xs)) : ∀ {ds : List PyData} {vs : List V}, Tps H vs ds → Tps H' vs ds
  | _, _, .nil => .nil
  | _, _, .cons a b => .cons (Tp.mv e a) (Tps.mv e b)
end
theorem Tps.length : ∀ {vs : List V} {ds : List PyData}, Tps H vs ds → vs.length = ds.length
  | _, _, .nil => rfl
  | _, _, .cons _ t => congrArg (· + 1) (Tps.length t)
theorem Tps.at : ∀ {vs : List V} {ds : List PyData} {i : Nat} {v : V}, Tps H vs ds → vs[i]? = some v → ∃ d, ds[i]? = some d ∧ Tp H v d
  | _, _, 0, _, .cons a _, e => by
    cases e
    exact ⟨_, rfl, a⟩
  | _, _, i + 1, _, .cons _ t, e => Tps.at (i := i) t e
theorem Tps.atD : ∀ {vs : List V} {ds : List PyData} {i : Nat} {d : PyData}, Tps H vs ds → ds[i]? = some d → ∃ v, vs[i]? = some v ∧ Tp H v d
  | _, _, 0, _, .cons a _, e => by
    cases e
    exact ⟨_, rfl, a⟩
  | _, _, i + 1, _, .cons _ t, e => Tps.atD (i := i) t e
theorem Tps.app : ∀ {vs ws : List V} {ds es : List PyData}, Tps H vs ds → Tps H ws es → Tps H (vs ++ ws) (ds ++ es)
  | _, _, _, _, .nil, r => r
  | _, _, _, _, .cons a t, r => .cons a (Tps.app t r)
theorem Tps.one {v : V} {d : PyData} (h : Tp H v d) : Tps H [v] [d] := .cons h .nil
theorem Tps.take : ∀ {vs : List V} {ds : List PyData} (n : Nat), Tps H vs ds → Tps H (vs.take n) (ds.take n)
  | _, _, 0, _ => .nil
  | _, _, _ + 1, .nil => .nil
  | _, _, n + 1, .cons a t => .cons a (Tps.take n t)
theorem Tps.drop : ∀ {vs : List V} {ds : List PyData} (n : Nat), Tps H vs ds → Tps H (vs.drop n) (ds.drop n)
  | _, _, 0, h => h
  | _, _, _ + 1, .nil => .nil
  | _, _, n + 1, .cons _ t => Tps.drop n t
theorem Tps.erase : ∀ {vs : List V} {ds : List PyData} (n : Nat), Tps H vs ds → Tps H (vs.eraseIdx n) (ds.eraseIdx n)
  | _, _, _, .nil => .nil
  | _, _, 0, .cons _ t => t
  | _, _, n + 1, .cons a t => .cons a (Tps.erase n t)
theorem Tps.ints : ∀ ns : List Int, Tps H (ns.map V.int) (ns.map PyData.int)
  | [] => .nil
  | n :: ns => .cons (.int n) (Tps.ints ns)
theorem Tps.ints_inv : ∀ {vs : List V} {ns : List Int}, Tps H vs (ns.map PyData.int) → vs = ns.map V.int
  | _, [], .nil => rfl
  | _, n :: ns, .cons (.int _) t => by rw [List.map_cons, Tps.ints_inv t]
theorem Tp.tup_inv {v : V} {ds : List PyData} (h : Tp H v (.tuple ds)) : ∃ a xs, v = .ref a ∧ H a = some (.tup xs) ∧ Tps H xs ds := by
  cases h with
  | tup h t => exact ⟨_, _, rfl, h, t⟩
theorem Tp.int_inv {v : V} {i : Int} (h : Tp H v (.int i)) : v = .int i := by
  cases h
  rfl
theorem Tps.two_inv {vs : List V} {d e : PyData} (h : Tps H vs [d, e]) : ∃ v w, vs = [v, w] ∧ Tp H v d ∧ Tp H w e := by
  cases h with
  | cons a t => cases t with
    | cons b t => cases t with
      | nil => exact ⟨_, _, rfl, a, b⟩
end
/-! ## pairs and webs -/
abbrev Pr := Nat × Nat
def dP (p : Pr) : PyData := .tuple [.int p.1, .int p.2]
abbrev dPs (ps : List Pr) : List PyData := ps.map dP
abbrev dT (ps : List Pr) : PyData := .tuple (dPs ps)
abbrev dW (n : Nat) (ps : List Pr) : PyData := .tuple [.int n, dT ps]
section
variable {H : Hp}
theorem Tp.pr_inv {v : V} {p : Pr} (h : Tp H v (dP p)) : ∃ a, v = .ref a ∧ H a = some (.tup [.int p.1, .int p.2]) := by
  obtain ⟨a, xs, rfl, e, t⟩ := h.tup_inv
  obtain ⟨x, y, rfl, hx, hy⟩ := t.two_inv
  cases hx
  cases hy
  exact ⟨a, rfl, e⟩
theorem Tp.pr {a : Addr} {p : Pr} (h : H a = some (.tup [.int p.1, .int p.2])) : Tp H (.ref a) (dP p) := .tup h (.cons (.int _) (.cons (.int _) .nil))
theorem Tp.web_inv {v : V} {n : Nat} {ps : List Pr} (h : Tp H v (dW n ps)) : ∃ a t xs, v = .ref a ∧ H a = some (.tup [.int n, .ref t]) ∧ H t = some (.tup xs) ∧ Tps H xs (dPs ps) := by
  obtain ⟨a, xs, rfl, e, t⟩ := h.tup_inv
  obtain ⟨x, y, rfl, hx, hy⟩ := t.two_inv
  cases hx
  obtain ⟨b, ys, rfl, e2, t2⟩ := hy.tup_inv
  exact ⟨a, b, ys, rfl, e, e2, t2⟩
theorem Tp.web {a t : Addr} {n : Nat} {xs : List V} {ps : List Pr} (h : H a = some (.tup [.int n, .ref t])) (h2 : H t = some (.tup xs)) (h3 : Tps H xs (dPs ps)) : Tp H (.ref a) (dW n ps) :=
  .tup h (.cons (.int _) (.cons (.tup h2 h3) .nil))
theorem Tps.len {vs : List V} {ps : List Pr} (h : Tps H vs (dPs ps)) : vs.length = ps.length := by
  rw [h.length, List.length_map]
theorem Tps.pr_at {vs : List V} {ps : List Pr} {i : Nat} {v : V} (h : Tps H vs (dPs ps)) (e : vs[i]? = some v) : ∃ p, ps[i]? = some p ∧ Tp H v (dP p) := by
  obtain ⟨d, e1, hd⟩ := h.at e
  rw [List.getElem?_map] at e1
  obtain ⟨p, e2, rfl⟩ := Option.map_eq_some_iff.mp e1
  exact ⟨p, e2, hd⟩
end
/-! ## what stays: all that stood, but for the cells S -/
structure Fr (S : List Addr) (H H' : Hp) : Prop where
  keep : ∀ b o, H b = some o → b ∉ S → H' b = some o
  tups : ∀ b xs, H b = some (.tup xs) → H' b = some (.tup xs)
  live : ∀ b, H b ≠ none → H' b ≠ none
section
variable {S : List Addr} {H H0 H1 H2 : Hp} {p a : Addr} {o : HO}
theorem Fr.refl : Fr S H H := ⟨fun _ _ e _ => e, fun _ _ e => e, fun _ e => e⟩
theorem Fr.trans (a : Fr S H0 H1) (b : Fr S H1 H2) : Fr S H0 H2 :=
  ⟨fun c o e n => b.keep c o (a.keep c o e n) n, fun c xs e => b.tups c xs (a.tups c xs e), fun c e => b.live c (a.live c e)⟩
theorem Fr.more {T : List Addr} (h : ∀ x ∈ S, x ∈ T) (a : Fr S H0 H1) : Fr T H0 H1 := ⟨fun b o e n => a.keep b o e fun m => n (h b m), a.tups, a.live⟩
theorem Fr.of0 (a : Fr [] H0 H1) : Fr S H0 H1 := a.more fun x m => absurd m List.not_mem_nil
theorem Fr.set (h : Fr S H0 H) (hp : H0 p = none ∨ p ∈ S) (ht : ∀ xs, H p ≠ some (.tup xs)) : Fr S H0 (upd H p o) where
  keep b u e n := by
    have ne : b ≠ p := by
      intro z
      subst z
      rcases hp with hp | hp
      · rw [hp] at e
        cases e
      · exact n hp
    rw [upd_ne ne]
    exact h.keep b u e n
  tups b xs e := by
    have e2 := h.tups b xs e
    have ne : b ≠ p := by
      intro z
      subst z
      exact ht xs e2
    rw [upd_ne ne]
    exact e2
  live b e := by
    by_cases c : b = p
    · subst c
      rw [upd_same]
      simp
    · rw [upd_ne c]
      exact h.live b e
theorem Fr.new (h : H p = none) : Fr S H (upd H p o) := Fr.refl.set (.inl h) (fun xs e => by rw [h] at e; cases e)
theorem Fr.add (a : Fr S H0 H) (h : H p = none) : Fr S H0 (upd H p o) := a.trans (Fr.new h)
theorem Fr.free (a : Fr S H H1) (h : H1 p = none) : H p = none := by
  cases c : H p with
  | none => rfl
  | some o => exact absurd h (a.live p (by rw [c]; simp))
theorem Fr.same (a : Fr [] H H1) : Same H H1 := fun b o e => a.keep b o e List.not_mem_nil
theorem Tp.fr {v : V} {d : PyData} (h : Tp H v d) (a : Fr S H H1) : Tp H1 v d := h.mv a.tups
theorem Tps.fr {vs : List V} {ds : List PyData} (h : Tps H vs ds) (a : Fr S H H1) : Tps H1 vs ds := h.mv a.tups
theorem Fr.seqL {K : PySem.W.Frag} {xs : List V} (f : Fr S H H1) (n : a ∉ S) (h : SqL K H a xs) : SqL K H1 a xs := by
  rcases h with (h | ⟨o, h⟩) | h
  · exact .inl (.inl (f.keep _ _ h n))
  · exact .inl (.inr ⟨o, f.keep _ _ h n⟩)
  · exact .inr h
theorem ne_new {b : Addr} {u : HO} (h : H b = some u) (n : H p = none) : b ≠ p := ne_of_none h n
theorem at_add {b : Addr} {u : HO} (h : H b = some u) (n : H p = none) : upd H p o b = some u := by
  rw [upd_ne (ne_of_none h n)]
  exact h
end
/-! ## sizes -/
theorem szl {n : Nat} (h : n ≤ 100000) : n ≤ sizeLine := by rw [sizeLine_eq]; omega
theorem szlt {n : Nat} (h : n < 100000) : n < sizeLine := by rw [sizeLine_eq]; omega
/-! ## comprehensions whose items are data -/
section
variable {K : PySem.W.Frag} {S : List Addr} {J : Hp → Prop} {M : Nat → List PyData → Prop} {g : TG} {tt : TT} {te : TE} {vs : List Nat} {σ : Slots} {H1 : Hp} {D a : Addr} {Qd : Hp → Prop} {xs : List V}
/-- the state of a comprehension ahead of turn i: ds is what is made so far -/
def LcAt (S : List Addr) (J : Hp → Prop) (M : Nat → List PyData → Prop) (H1 : Hp) (D : Addr) (i : Nat) (H : Hp) : Prop :=
  ∃ ys ds, M i ds ∧ ds.length ≤ i ∧ J H ∧ Fr S H1 H ∧ H D = some (.lst ys) ∧ Tps H ys ds
/-- one turn -/
def LcTurn (S : List Addr) (J : Hp → Prop) (M : Nat → List PyData → Prop) (g : TG) (tt : TT) (te : TE) (vs : List Nat) (σ : Slots) (i : Nat) (ds : List PyData) (x : V) (H : Hp) : Prop :=
  g x (wipe σ vs) H fun σ2 H2 => wipe σ2 vs = wipe σ vs ∧ tt σ2 H2 fun b H3 =>
    if b = true then te σ2 H3 fun y H4 => Fr S H H4 ∧ J H4 ∧ ∃ d, Tp H4 y d ∧ M (i + 1) (ds ++ [d])
    else Fr S H H3 ∧ J H3 ∧ M (i + 1) ds
end
/-- a reading hangs on what it hands on -/
def MonoG (g : TG) : Prop := ∀ (x : V) (σ : Slots) (H : Hp) (Q Q' : Slots → Hp → Prop), (∀ σ H, Q σ H → Q' σ H) → g x σ H Q → g x σ H Q'
def MonoT (t : TT) : Prop := ∀ (σ : Slots) (H : Hp) (Q Q' : Bool → Hp → Prop), (∀ b H, Q b H → Q' b H) → t σ H Q → t σ H Q'
def MonoE (t : TE) : Prop := ∀ (σ : Slots) (H : Hp) (Q Q' : VK), (∀ v H, Q v H → Q' v H) → t σ H Q → t σ H Q'
end Lt

set_option Elab.async false
set_option linter.all false
set_option maxRecDepth 100000
set_option maxHeartbeats 2000000
namespace Lt
open PySem PySem.Spec PyProof.Rows L2
/-! ## data of small size -/
structure Sm (n w : Nat) (d : PyData) : Prop where
  lay : d.canLay0 = true
  dep : d.depth ≤ n
  wt : d.weight ≤ w
  sh : d.showable = true
  ls : d.intsShort 13 = true
theorem Sm.mono {n w n' w' : Nat} {d : PyData} (h : Sm n w d) (hn : n ≤ n') (hw : w ≤ w') : Sm n' w' d := ⟨h.lay, Nat.le_trans h.dep hn, Nat.le_trans h.wt hw, h.sh, h.ls⟩
theorem log_lt {i k : Nat} (hi : i < 2 ^ k) (hk : 0 < k) : i.log2 < k := by
  by_cases h : i = 0
  · subst h
    simpa using hk
  · exact (Nat.log2_lt h).mpr hi
theorem Sm.int {i : Int} (h : i.natAbs < 10 ^ 12) : Sm 0 64 (.int i) := by
  have hl : i.natAbs.log2 < 64 := log_lt (Nat.lt_trans h (by decide)) (by decide)
  refine ⟨rfl, Nat.le_refl _, ?_, ?_, ?_⟩
  · unfold PyData.weight
    split <;> omega
  · unfold PyData.showable
    exact decide_eq_true (by omega)
  · unfold PyData.intsShort
    exact decide_eq_true (PyData.shown_int_le h)
theorem Sm.nat {i : Nat} (h : i < 10 ^ 12) : Sm 0 64 (.int i) := Sm.int (by simpa using h)
theorem Sm.bl (b : Bool) : Sm 0 0 (.bool b) := ⟨rfl, Nat.le_refl _, Nat.le_refl _, rfl, rfl⟩
theorem Sm.non : Sm 0 0 .none := ⟨rfl, Nat.le_refl _, Nat.le_refl _, rfl, rfl⟩
theorem sm_all {n w : Nat} : ∀ {ds : List PyData}, (∀ d ∈ ds, Sm n w d) → PyData.canLayAll0 ds = true ∧ PyData.depthAll ds ≤ n ∧ PyData.weightAll ds ≤ ds.length * (w + 1) ∧ PyData.showableAll ds = true ∧ PyData.intsShortAll 13 ds = true
  | [], _ => ⟨rfl, Nat.zero_le _, by unfold PyData.weightAll; omega, rfl, rfl⟩
  | d :: ds, h => by
    obtain ⟨a1, a2, a3, a4, a5⟩ := sm_all fun e m => h e (List.mem_cons_of_mem _ m)
    have b := h d List.mem_cons_self
    refine ⟨?_, ?_, ?_, ?_, ?_⟩
    · unfold PyData.canLayAll0
      rw [b.lay, a1]
      rfl
    · unfold PyData.depthAll
      exact Nat.max_le.mpr ⟨b.dep, a2⟩
    · unfold PyData.weightAll
      have := b.wt
      rw [List.length_cons, Nat.add_mul]
      omega
    · unfold PyData.showableAll
      rw [b.sh, a4]
      rfl
    · unfold PyData.intsShortAll
      rw [b.ls, a5]
      rfl
theorem Sm.tup {n w m : Nat} {ds : List PyData} (h : ∀ d ∈ ds, Sm n w d) (hm : ds.length ≤ m) : Sm (n + 1) (m * (w + 1)) (.tuple ds) := by
  obtain ⟨a1, a2, a3, a4, a5⟩ := sm_all h
  refine ⟨a1, ?_, ?_, a4, a5⟩
  · unfold PyData.depth
    omega
  · unfold PyData.weight
    exact Nat.le_trans a3 (Nat.mul_le_mul_right _ hm)
theorem Sm.lst {n w m : Nat} {ds : List PyData} (h : ∀ d ∈ ds, Sm n w d) (hm : ds.length ≤ m) : Sm (n + 1) (m * (w + 1)) (.list ds) := by
  obtain ⟨a1, a2, a3, a4, a5⟩ := sm_all h
  refine ⟨a1, ?_, ?_, a4, a5⟩
  · unfold PyData.depth
    omega
  · unfold PyData.weight
    exact Nat.le_trans a3 (Nat.mul_le_mul_right _ hm)
theorem Sm.shaped {n w : Nat} {d : PyData} (h : Sm n w d) (hn : n ≤ 64) : SeqAt.shaped d = true := by
  unfold SeqAt.shaped
  rw [h.lay, decide_eq_true (Nat.le_trans h.dep hn)]
  rfl
theorem Sm.shown {n w : Nat} {d : PyData} (h : Sm n w d) (hw : w ≤ 2 ^ 20) : d.shown.length ≤ sizeLine :=
  PyData.shown_fits (B := 13) (by decide) (by decide) (PyData.leavesShort_of_canLay0 13 d h.lay h.ls) (Nat.le_trans h.wt hw)
/-! ## repr of data -/
/-- what repr shows of data; never looked into -/
@[irreducible] def txt (d : PyData) : Str := d.shown
theorem txt_eq (d : PyData) : txt d = d.shown := by
  unfold txt
  rfl
def rRepr (K : PySem.W.Frag) : List V → Hp → VK → Prop := fun xs H Q => ∃ x d n w, xs = [x] ∧ Dp K H x d ∧ Sm n w d ∧ n ≤ 64 ∧ w ≤ 2 ^ 20 ∧ Q (.str (txt d)) H
theorem call_reprD {X : Cx} (hg : Still X.A) (hu : X.A.units + 80 < cLine) : CallR X (.builtin "repr") (rRepr X.K) := by
  intro pins s σ H vs us Q I r h
  obtain ⟨x, d, n, w, rfl, hd, hS, hn, hw, q⟩ := h
  obtain ⟨u, rfl, ru⟩ := vals1 r
  obtain ⟨as, rd⟩ := Dp.reads I d x u hd ru
  rw [txt_eq] at q
  have hz := hS.shown hw
  have hdep := hS.dep
  cases rd with
  | none => exact PySem.P.repr_of_none ⟨.str _, H, I.tok _, ⟨_, rfl⟩, by simpa only [PyData.shown] using q⟩
  | bool b => exact PySem.P.repr_of_bool ⟨.str _, H, I.tok _, ⟨_, rfl⟩, by simpa only [PyData.shown] using q⟩
  | int i t =>
    have := hS.sh
    exact PySem.P.repr_of_int (by simpa [PyData.showable] using this) ⟨.str _, H, I.tok _, ⟨_, rfl⟩, by simpa only [PyData.shown] using q⟩
  | str z t => exact PySem.P.repr_of_str ⟨.str _, H, I.tok _, ⟨_, rfl⟩, by simpa only [PyData.shown] using q⟩ (by simpa only [PyData.shown] using hz)
  | list h1 h2 h3 h4 =>
    refine repr_of_reads' (.list h1 h2 h3 h4) hS.sh (PyData.noDict_hsm (PyData.hasDict_of_canLay _ hS.lay)) hg (by omega) (fun _ _ e => e) ?_ hz
    intro h' u tk hk
    exact ⟨.str _, H, I.kept hk, ⟨_, rfl⟩, q⟩
  | tuple h1 h2 h3 h4 =>
    refine repr_of_reads' (.tuple h1 h2 h3 h4) hS.sh (PyData.noDict_hsm (PyData.hasDict_of_canLay _ hS.lay)) hg (by omega) (fun _ _ e => e) ?_ hz
    intro h' u tk hk
    exact ⟨.str _, H, I.kept hk, ⟨_, rfl⟩, q⟩
  | dict => cases hd
theorem reprT {K : PySem.W.Frag} {H : Hp} {Q : VK} {x : V} {d : PyData} {n w : Nat} (h : Tp H x d) (s : Sm n w d) (q : Q (.str (txt d)) H) (hn : n ≤ 64 := by decide) (hw : w ≤ 2 ^ 20 := by decide) : rRepr K [x] H Q :=
  ⟨x, d, n, w, rfl, h.dp, s, hn, hw, q⟩
theorem reprL {K : PySem.W.Frag} {H : Hp} {Q : VK} {a : Addr} {xs : List V} {ds : List PyData} {n w : Nat} (h : H a = some (.lst xs)) (t : Tps H xs ds) (s : Sm n w (.list ds)) (q : Q (.str (txt (.list ds))) H) (hn : n ≤ 64 := by decide) (hw : w ≤ 2 ^ 20 := by decide) : rRepr K [.ref a] H Q :=
  ⟨_, _, n, w, rfl, .lst (SqL.of h) t.dp, s, hn, hw, q⟩
/-! ## in, not in, over tuples of data -/
def rInT (K : PySem.W.Frag) : R2 := fun x y H Q => ∃ d ds, Dp K H x d ∧ Dp K H y (.tuple ds) ∧ SeqAt.shaped d = true ∧ SeqAt.shaped (.tuple ds) = true ∧ Q (.bl (ds.any fun z => PyData.eqv z d)) H
def rNotInT (K : PySem.W.Frag) : R2 := fun x y H Q => ∃ d ds, Dp K H x d ∧ Dp K H y (.tuple ds) ∧ SeqAt.shaped d = true ∧ SeqAt.shaped (.tuple ds) = true ∧ Q (.bl (!ds.any fun z => PyData.eqv z d)) H
theorem in_room {A : Around} {d : PyData} {ds : List PyData} (h : SeqAt.shaped d = true) (hu : A.units + 80 < cLine) : A.units + 1 + min (PyData.depthAll ds) d.depth < cLine := by
  have h1 := SeqAt.depth_of_shaped h
  have h2 : min (PyData.depthAll ds) d.depth ≤ d.depth := Nat.min_le_right _ _
  omega
theorem op_inT {X : Cx} (hu : X.A.units + 80 < cLine) : OpR X (compareOp .In) (rInT X.K) := by
  intro pins s σ H x y v u Q I rx ry h
  obtain ⟨d, ds, hd, he, sd, se, q⟩ := h
  obtain ⟨as, r1⟩ := Dp.reads I d x v hd rx
  obtain ⟨bs, r2⟩ := Dp.reads I (.tuple ds) y u he ry
  exact SeqAt.in_tuple_reads r2 r1 (SeqAt.canLay_of_shaped se) (SeqAt.canLay_of_shaped sd) (in_room sd hu) ⟨.bl _, H, I, rfl, q⟩
theorem op_notInT {X : Cx} (hu : X.A.units + 80 < cLine) : OpR X (compareOp .NotIn) (rNotInT X.K) := by
  intro pins s σ H x y v u Q I rx ry h
  obtain ⟨d, ds, hd, he, sd, se, q⟩ := h
  obtain ⟨as, r1⟩ := Dp.reads I d x v hd rx
  obtain ⟨bs, r2⟩ := Dp.reads I (.tuple ds) y u he ry
  exact SeqAt.notIn_tuple_reads r2 r1 (SeqAt.canLay_of_shaped se) (SeqAt.canLay_of_shaped sd) (in_room sd hu) ⟨.bl _, H, I, rfl, q⟩
/-- in and not in, whatever it is over -/
def rMem (K : PySem.W.Frag) : R2 := fun x y H Q => rInT K x y H Q ∨ rInD K x y H Q
def rNMem (K : PySem.W.Frag) : R2 := fun x y H Q => rNotInT K x y H Q ∨ rNotInD K x y H Q
theorem op_mem {X : Cx} (hu : X.A.units + 80 < cLine) : OpR X (compareOp .In) (rMem X.K) := (op_inT hu).or (op_inD (by omega))
theorem op_nmem {X : Cx} (hu : X.A.units + 80 < cLine) : OpR X (compareOp .NotIn) (rNMem X.K) := (op_notInT hu).or (op_notInD (by omega))
/-! ## equality of data without bools is =  -/
mutual
def cln : PyData → Bool
  | .none | .int _ | .str _ => true
  | .bool _ | .dict _ => false
  | .list xs | .tuple xs => clnAll xs
def clnAll : List PyData → Bool
  | [] => true
  | x :: xs => cln x && clnAll xs
end
mutual
theorem eqv_iff : ∀ {d e : PyData}, cln d = true → cln e = true → (PyData.eqv d e = true ↔ d = e)
  | .none, e, _, he => by cases e <;> simp_all [PyData.eqv, cln]
  | .int i, e, _, he => by cases e <;> simp_all [PyData.eqv, cln]
  | .str i, e, _, he => by cases e <;> simp_all [PyData.eqv, cln]
  | .bool _, _, h, _ => by simp [cln] at h
  | .dict _, _, h, _ => by simp [cln] at h
  | .list xs, e, h, he => by
    cases e with
    | list ys =>
      have := eqvAll_iff (xs := xs) (ys := ys) (by simpa [cln] using h) (by simpa [cln] using he)
      simpa [PyData.eqv] using this
    | _ => simp_all [PyData.eqv, cln]
  | .tuple xs, e, h, he => by
    cases e with
    | tuple ys =>
      have := eqvAll_iff (xs := xs) (ys := ys) (by simpa [cln] using h) (by simpa [cln] using he)
      simpa [PyData.eqv] using this
    | _ => simp_all [PyData.eqv, cln]
theorem eqvAll_iff : ∀ {xs ys : List PyData}, clnAll xs = true → clnAll ys = true → (PyData.eqvAll xs ys = true ↔ xs = ys)
  | [], [], _, _ => by simp [PyData.eqvAll]
  | [], _ :: _, _, _ => by simp [PyData.eqvAll]
  | _ :: _, [], _, _ => by simp [PyData.eqvAll]
  | x :: xs, y :: ys, h, h' => by
    have h1 : cln x = true ∧ clnAll xs = true := by simpa [clnAll] using h
    have h2 : cln y = true ∧ clnAll ys = true := by simpa [clnAll] using h'
    have a := eqv_iff h1.1 h2.1
    have b := eqvAll_iff h1.2 h2.2
    simp [PyData.eqvAll, a, b]
end
theorem any_eqv {d : PyData} {ds : List PyData} (hd : cln d = true) (hs : ∀ e ∈ ds, cln e = true) {p : Prop} [Decidable p] (hp : p ↔ d ∈ ds) : (ds.any fun z => PyData.eqv z d) = decide p := by
  cases c : (ds.any fun z => PyData.eqv z d) with
  | true =>
    obtain ⟨z, m, e⟩ := List.any_eq_true.mp c
    have := (eqv_iff (hs z m) hd).mp e
    subst this
    exact (decide_eq_true (hp.mpr m)).symm
  | false =>
    refine (decide_eq_false fun h => ?_).symm
    have := List.any_eq_false.mp c d (hp.mp h)
    exact this ((eqv_iff hd hd).mpr rfl)
theorem dP_inj {p q : Pr} (h : dP p = dP q) : p = q := by
  obtain ⟨a, b⟩ := p
  obtain ⟨c, d⟩ := q
  simp only [dP, PyData.tuple.injEq, List.cons.injEq, PyData.int.injEq, and_true] at h
  have h1 : a = c := by omega
  have h2 : b = d := by omega
  rw [h1, h2]
theorem dPs_mem {p : Pr} {ps : List Pr} : p ∈ ps ↔ dP p ∈ dPs ps := by
  constructor
  · exact fun m => List.mem_map.mpr ⟨p, m, rfl⟩
  · intro m
    obtain ⟨q, mq, e⟩ := List.mem_map.mp m
    rw [← dP_inj e]
    exact mq
theorem dPs_inj : ∀ {ps qs : List Pr}, dPs ps = dPs qs → ps = qs
  | [], [], _ => rfl
  | [], _ :: _, h => by cases h
  | _ :: _, [], h => by cases h
  | p :: ps, q :: qs, h => by
    have h' := List.cons.inj h
    rw [dP_inj h'.1, dPs_inj h'.2]
theorem cln_dP (p : Pr) : cln (dP p) = true := rfl
theorem cln_dPs : ∀ ps : List Pr, clnAll (dPs ps) = true
  | [] => rfl
  | p :: ps => by
    show (cln (dP p) && clnAll (dPs ps)) = true
    rw [cln_dP, cln_dPs ps]
    rfl
theorem dT_inj {ps qs : List Pr} (h : dT ps = dT qs) : ps = qs := dPs_inj (PyData.tuple.inj h)
/-- pairs below a bound -/
abbrev Below (n : Nat) (ps : List Pr) : Prop := ∀ p ∈ ps, p.1 < n ∧ p.2 < n
theorem sm_dP {p : Pr} (h1 : p.1 < 10 ^ 12) (h2 : p.2 < 10 ^ 12) : Sm 1 130 (dP p) :=
  Sm.tup (n := 0) (w := 64) (m := 2) (by
    intro d m
    simp only [List.mem_cons, List.not_mem_nil, or_false] at m
    rcases m with rfl | rfl
    · exact Sm.nat h1
    · exact Sm.nat h2) (Nat.le_refl 2)
theorem sm_dPs {ps : List Pr} {m : Nat} (h : Below 100 ps) (hm : ps.length ≤ m) : Sm 2 (m * 131) (dT ps) :=
  Sm.tup (n := 1) (w := 130) (m := m) (by
    intro d mm
    obtain ⟨p, mp, rfl⟩ := List.mem_map.mp mm
    have := h p mp
    exact sm_dP (by omega) (by omega)) (by rw [List.length_map]; exact hm)
theorem sm_lPs {ps : List Pr} {m : Nat} (h : Below 100 ps) (hm : ps.length ≤ m) : Sm 2 (m * 131) (.list (dPs ps)) :=
  Sm.lst (n := 1) (w := 130) (m := m) (by
    intro d mm
    obtain ⟨p, mp, rfl⟩ := List.mem_map.mp mm
    have := h p mp
    exact sm_dP (by omega) (by omega)) (by rw [List.length_map]; exact hm)
theorem sm_dW {n : Nat} {ps : List Pr} (hn : n < 100) (h : Below 100 ps) (hm : ps.length ≤ 200) : Sm 3 60000 (dW n ps) :=
  (Sm.tup (n := 2) (w := 200 * 131) (m := 2) (ds := [.int n, dT ps]) (by
    intro d m
    simp only [List.mem_cons, List.not_mem_nil, or_false] at m
    rcases m with rfl | rfl
    · exact (Sm.nat (by omega)).mono (by decide) (by decide)
    · exact sm_dPs h hm) (Nat.le_refl 2)).mono (Nat.le_refl _) (by decide)
section
variable {K : PySem.W.Frag} {H : Hp} {Q : VK} {x : V} {a : Addr} {xs : List V} {p : Pr} {ps : List Pr}
theorem mem_tP (hx : Tp H x (dP p)) (h : H a = some (.tup xs)) (t : Tps H xs (dPs ps)) (b1 : p.1 < 100 ∧ p.2 < 100) (b : Below 100 ps) (hl : ps.length ≤ 1000) (q : Q (.bl (decide (p ∈ ps))) H) : rMem K x (.ref a) H Q := by
  refine .inl ⟨dP p, dPs ps, hx.dp, .tup (SqT.of h) t.dp, (sm_dP (by omega) (by omega)).shaped (by decide), (sm_dPs b hl).shaped (by decide), ?_⟩
  rw [any_eqv (p := p ∈ ps) (cln_dP p) (fun e m => by obtain ⟨q, _, rfl⟩ := List.mem_map.mp m; exact cln_dP q) dPs_mem]
  exact q
theorem nmem_tP (hx : Tp H x (dP p)) (h : H a = some (.tup xs)) (t : Tps H xs (dPs ps)) (b1 : p.1 < 100 ∧ p.2 < 100) (b : Below 100 ps) (hl : ps.length ≤ 1000) (q : Q (.bl (!decide (p ∈ ps))) H) : rNMem K x (.ref a) H Q := by
  refine .inl ⟨dP p, dPs ps, hx.dp, .tup (SqT.of h) t.dp, (sm_dP (by omega) (by omega)).shaped (by decide), (sm_dPs b hl).shaped (by decide), ?_⟩
  rw [any_eqv (p := p ∈ ps) (cln_dP p) (fun e m => by obtain ⟨q, _, rfl⟩ := List.mem_map.mp m; exact cln_dP q) dPs_mem]
  exact q
theorem nmem_lP (hx : Tp H x (dP p)) (h : H a = some (.lst xs)) (t : Tps H xs (dPs ps)) (b1 : p.1 < 100 ∧ p.2 < 100) (b : Below 100 ps) (hl : ps.length ≤ 1000) (q : Q (.bl (!decide (p ∈ ps))) H) : rNMem K x (.ref a) H Q := by
  refine .inr ⟨dP p, dPs ps, hx.dp, .lst (SqL.of h) t.dp, (sm_dP (by omega) (by omega)).shaped (by decide), (sm_lPs b hl).shaped (by decide), ?_⟩
  rw [any_eqv (p := p ∈ ps) (cln_dP p) (fun e m => by obtain ⟨q, _, rfl⟩ := List.mem_map.mp m; exact cln_dP q) dPs_mem]
  exact q
theorem mem_lP (hx : Tp H x (dP p)) (h : H a = some (.lst xs)) (t : Tps H xs (dPs ps)) (b1 : p.1 < 100 ∧ p.2 < 100) (b : Below 100 ps) (hl : ps.length ≤ 1000) (q : Q (.bl (decide (p ∈ ps))) H) : rMem K x (.ref a) H Q := by
  refine .inr ⟨dP p, dPs ps, hx.dp, .lst (SqL.of h) t.dp, (sm_dP (by omega) (by omega)).shaped (by decide), (sm_lPs b hl).shaped (by decide), ?_⟩
  rw [any_eqv (p := p ∈ ps) (cln_dP p) (fun e m => by obtain ⟨q, _, rfl⟩ := List.mem_map.mp m; exact cln_dP q) dPs_mem]
  exact q
/-- places as data -/
abbrev dN (i : Nat) : PyData := .int i
abbrev dNs (is : List Nat) : List PyData := is.map dN
theorem dNs_mem {i : Nat} {is : List Nat} : i ∈ is ↔ dN i ∈ dNs is := by
  constructor
  · exact fun m => List.mem_map.mpr ⟨i, m, rfl⟩
  · intro m
    obtain ⟨q, mq, e⟩ := List.mem_map.mp m
    have : q = i := by
      have e := PyData.int.inj e
      omega
    rw [← this]
    exact mq
theorem sm_dNs {is : List Nat} {m : Nat} (h : ∀ i ∈ is, i < 1000) (hm : is.length ≤ m) : Sm 1 (m * 65) (.tuple (dNs is)) :=
  Sm.tup (n := 0) (w := 64) (m := m) (by
    intro d mm
    obtain ⟨i, mi, rfl⟩ := List.mem_map.mp mm
    have := h i mi
    exact Sm.nat (by omega)) (by rw [List.length_map]; exact hm)
theorem sm_lNs {is : List Nat} {m : Nat} (h : ∀ i ∈ is, i < 1000) (hm : is.length ≤ m) : Sm 1 (m * 65) (.list (dNs is)) :=
  Sm.lst (n := 0) (w := 64) (m := m) (by
    intro d mm
    obtain ⟨i, mi, rfl⟩ := List.mem_map.mp mm
    have := h i mi
    exact Sm.nat (by omega)) (by rw [List.length_map]; exact hm)
theorem mem_tN {i : Nat} {is : List Nat} (h : H a = some (.tup xs)) (t : Tps H xs (dNs is)) (b1 : i < 1000) (b : ∀ i ∈ is, i < 1000) (hl : is.length ≤ 1000) (q : Q (.bl (decide (i ∈ is))) H) : rMem K (.int i) (.ref a) H Q := by
  refine .inl ⟨dN i, dNs is, .int _, .tup (SqT.of h) t.dp, (Sm.nat (by omega)).shaped (by decide), (sm_dNs b hl).shaped (by decide), ?_⟩
  rw [any_eqv (p := i ∈ is) rfl (fun e m => by obtain ⟨q, _, rfl⟩ := List.mem_map.mp m; rfl) dNs_mem]
  exact q
theorem nmem_tN {i : Nat} {is : List Nat} (h : H a = some (.tup xs)) (t : Tps H xs (dNs is)) (b1 : i < 1000) (b : ∀ i ∈ is, i < 1000) (hl : is.length ≤ 1000) (q : Q (.bl (!decide (i ∈ is))) H) : rNMem K (.int i) (.ref a) H Q := by
  refine .inl ⟨dN i, dNs is, .int _, .tup (SqT.of h) t.dp, (Sm.nat (by omega)).shaped (by decide), (sm_dNs b hl).shaped (by decide), ?_⟩
  rw [any_eqv (p := i ∈ is) rfl (fun e m => by obtain ⟨q, _, rfl⟩ := List.mem_map.mp m; rfl) dNs_mem]
  exact q
end
end Lt

set_option Elab.async false
set_option linter.all false
set_option maxRecDepth 100000
set_option maxHeartbeats 2000000
namespace Lt
open PySem PySem.Spec PyProof.Rows L2
section
variable {K : PySem.W.Frag} {S : List Addr} {J : Hp → Prop} {M : Nat → List PyData → Prop} {g : TG} {tt : TT} {te : TE} {vs : List Nat} {σ : Slots} {H1 H H4 : Hp} {D a : Addr} {Qd : Hp → Prop} {xs ys : List V} {ds : List PyData} {i : Nat}
/-- what a comprehension over an iterator asks -/
abbrev LcGoal (it : It) (g : TG) (tt : TT) (te : TE) (vs : List Nat) (σ : Slots) (H1 : Hp) (D : Addr) (Qd : Hp → Prop) : Prop :=
  ∃ W : Nat → Nat → Hp → Prop, (∃ m, W 0 m (upd H1 D (.lst []))) ∧ ∀ (i m : Nat) (H : Hp), W i m H →
    (it.stop i H ∧ Qd H) ∨ (it.go i H ∧ ∃ Nx : Hp → Prop, (∀ H', Nx H' → ∃ m', m' < m ∧ W (i + 1) m' H') ∧
      ∀ (x : V) (H' : Hp), it.yld i H x H' → g x (wipe σ vs) H' fun σ2 H2 => wipe σ2 vs = wipe σ vs ∧ tt σ2 H2 fun b H3 =>
        if b = true then te σ2 H3 fun y H4 => ∃ acc, H4 D = some (.lst acc) ∧ acc.length < sizeLine ∧ Nx (upd H4 D (.lst (acc ++ [y]))) else Nx H3)
/-- where a comprehension stands: its list is new, the cells S may change, J is kept whatever its list holds -/
structure LcC (S : List Addr) (J : Hp → Prop) (H1 : Hp) (D : Addr) : Prop where
  new : H1 D = none
  off : D ∉ S
  own : ∀ H o, J H → J (upd H D o)
/-- ahead of turn i: ds is made -/
structure LcS (S : List Addr) (J : Hp → Prop) (M : Nat → List PyData → Prop) (H1 : Hp) (D : Addr) (i : Nat) (H : Hp) (ys : List V) (ds : List PyData) : Prop where
  m : M i ds
  len : ds.length ≤ i
  j : J H
  fr : Fr S H1 H
  at_ : H D = some (.lst ys)
  dat : Tps H ys ds
def LcAny (S : List Addr) (J : Hp → Prop) (M : Nat → List PyData → Prop) (H1 : Hp) (D : Addr) (i : Nat) (H : Hp) : Prop := ∃ ys ds, LcS S J M H1 D i H ys ds
theorem LcC.zero (C : LcC S J H1 D) (j0 : J H1) (m0 : M 0 []) : LcAny S J M H1 D 0 (upd H1 D (.lst [])) :=
  ⟨[], [], m0, Nat.le_refl _, C.own _ _ j0, Fr.new C.new, upd_same, .nil⟩
theorem put_at (new : H1 D = none) (off : D ∉ S) (fr : Fr S H1 H) (at_ : H D = some (.lst ys)) (dat : Tps H ys ds) (hl : ds.length < 50000) (f : Fr S H H4) {y : V} {d : PyData} (t : Tp H4 y d) :
    H4 D = some (.lst ys) ∧ ys.length < sizeLine ∧ Fr S H1 (upd H4 D (.lst (ys ++ [y]))) ∧ upd H4 D (.lst (ys ++ [y])) D = some (.lst (ys ++ [y])) ∧ Tps (upd H4 D (.lst (ys ++ [y]))) (ys ++ [y]) (ds ++ [d]) := by
  have e := f.keep _ _ at_ off
  have h2 := dat.length
  have f2 : Fr [D] H4 (upd H4 D (.lst (ys ++ [y]))) := Fr.refl.set (.inr List.mem_cons_self) (fun xs z => by rw [e] at z; cases z)
  exact ⟨e, szlt (by omega), (fr.trans f).set (.inl new) (fun xs z => by rw [e] at z; cases z), upd_same, ((dat.fr f).fr f2).app (Tps.one (t.fr f2))⟩
/-- the turn keeps its item -/
theorem LcS.put (C : LcC S J H1 D) (L : LcS S J M H1 D i H ys ds) (hi : i < 50000) (f : Fr S H H4) (j : J H4) {y : V} {d : PyData} (t : Tp H4 y d) (m : M (i + 1) (ds ++ [d])) :
    ∃ acc, H4 D = some (.lst acc) ∧ acc.length < sizeLine ∧ LcAny S J M H1 D (i + 1) (upd H4 D (.lst (acc ++ [y]))) := by
  have e := f.keep _ _ L.at_ C.off
  have hl := L.dat.length
  have h1 := L.len
  refine ⟨ys, e, szlt (by omega), ys ++ [y], ds ++ [d], m, ?_, C.own _ _ j, ?_, upd_same, ?_⟩
  · rw [List.length_append]
    exact Nat.add_le_add_right h1 1
  · exact (L.fr.trans f).set (.inl C.new) (fun xs z => by rw [e] at z; cases z)
  · have f2 : Fr [D] H4 (upd H4 D (.lst (ys ++ [y]))) := Fr.refl.set (.inr List.mem_cons_self) (fun xs z => by rw [e] at z; cases z)
    exact ((L.dat.fr f).fr f2).app (Tps.one (t.fr f2))
/-- the turn drops its item -/
theorem LcS.skip (L : LcS S J M H1 D i H ys ds) (C : LcC S J H1 D) (f : Fr S H H4) (j : J H4) (m : M (i + 1) ds) : LcAny S J M H1 D (i + 1) H4 :=
  ⟨ys, ds, m, Nat.le_succ_of_le L.len, j, L.fr.trans f, f.keep _ _ L.at_ C.off, L.dat.fr f⟩
abbrev TurnGoal (S : List Addr) (J : Hp → Prop) (M : Nat → List PyData → Prop) (g : TG) (tt : TT) (te : TE) (vs : List Nat) (σ : Slots) (H1 : Hp) (D : Addr) (i : Nat) (x : V) (H : Hp) : Prop :=
  g x (wipe σ vs) H fun σ2 H2 => wipe σ2 vs = wipe σ vs ∧ tt σ2 H2 fun b H3 =>
    if b = true then te σ2 H3 fun y H4 => ∃ acc, H4 D = some (.lst acc) ∧ acc.length < sizeLine ∧ LcAny S J M H1 D (i + 1) (upd H4 D (.lst (acc ++ [y]))) else LcAny S J M H1 D (i + 1) H3
theorem lcl (C : LcC S J H1 D) (hs : SqL K H1 a xs) (ha : a ∉ S) (j0 : J H1) (m0 : M 0 [])
    (turn : ∀ i x H ys ds, xs[i]? = some x → LcS S J M H1 D i H ys ds → TurnGoal S J M g tt te vs σ H1 D i x H)
    (done : ∀ H ys ds, LcS S J M H1 D xs.length H ys ds → Qd H) : LcGoal (Itl K a) g tt te vs σ H1 D Qd :=
  lc_list (K := K) (a := a) (xs := xs) (LcAny S J M H1 D) (C.zero j0 m0) (fun i H _ ⟨ys, ds, L⟩ => L.fr.seqL ha hs) (fun i x H hx ⟨ys, ds, L⟩ => turn i x H ys ds hx L) (fun H ⟨ys, ds, L⟩ => done H ys ds L)
theorem lct (C : LcC S J H1 D) (hs : H1 a = some (.tup xs)) (j0 : J H1) (m0 : M 0 [])
    (turn : ∀ i x H ys ds, xs[i]? = some x → LcS S J M H1 D i H ys ds → TurnGoal S J M g tt te vs σ H1 D i x H)
    (done : ∀ H ys ds, LcS S J M H1 D xs.length H ys ds → Qd H) : LcGoal (L2.Itt K a) g tt te vs σ H1 D Qd :=
  lc_tup (K := K) (a := a) (xs := xs) (LcAny S J M H1 D) (C.zero j0 m0) (fun i H _ ⟨ys, ds, L⟩ => SqT.of (L.fr.tups _ _ hs)) (fun i x H hx ⟨ys, ds, L⟩ => turn i x H ys ds hx L) (fun H ⟨ys, ds, L⟩ => done H ys ds L)
theorem lcr {lo : Int} {n : Nat} (C : LcC S J H1 D) (j0 : J H1) (m0 : M 0 [])
    (turn : ∀ (i : Nat) H ys ds, i < n → LcS S J M H1 D i H ys ds → TurnGoal S J M g tt te vs σ H1 D i (.int (lo + i)) H)
    (done : ∀ H ys ds, LcS S J M H1 D n H ys ds → Qd H) : LcGoal (Itr lo n) g tt te vs σ H1 D Qd :=
  L2.lc_range (lo := lo) (n := n) (LcAny S J M H1 D) (C.zero j0 m0) (fun i H hi ⟨ys, ds, L⟩ => turn i H ys ds hi L) (fun H ⟨ys, ds, L⟩ => done H ys ds L)
end
abbrev cMin2 : List V → Hp → VK → Prop := fun xs H Q => ∃ i j, xs = [.int i, .int j] ∧ Q (.int (if j < i then j else i)) H
abbrev cMax2 : List V → Hp → VK → Prop := fun xs H Q => ∃ i j, xs = [.int i, .int j] ∧ Q (.int (if j > i then j else i)) H
abbrev cAbs : List V → Hp → VK → Prop := fun xs H Q => ∃ i, xs = [.int i] ∧ Q (.int (if i < 0 then -i else i)) H
abbrev cInt1 : List V → Hp → VK → Prop := fun xs H Q => (∃ i, xs = [.int i] ∧ Q (.int i) H) ∨ ∃ k, xs = [.bl k] ∧ Q (.int (if k then 1 else 0)) H
abbrev rAddI : R2 := rI0 fun i j => .int (i + j)
abbrev rSubI : R2 := rI0 fun i j => .int (i - j)
abbrev rMulI : R2 := rI CMul fun i j => .int (i * j)
abbrev rModI : R2 := rI (fun _ j => 0 < j) fun i j => .int (i % j)
abbrev rDivI : R2 := rI CDivN fun i j => .int (i.fdiv j)
abbrev rPowI : R2 := rI CPow fun i j => .int (i ^ j.toNat)
abbrev rLtI : R2 := rI0 fun i j => .bl (decide (i < j))
abbrev rLeI : R2 := rI0 fun i j => .bl (decide (i ≤ j))
abbrev rGtI : R2 := rI0 fun i j => .bl (decide (j < i))
abbrev rGeI : R2 := rI0 fun i j => .bl (decide (j ≤ i))
abbrev rNegI : V → Hp → VK → Prop := rU fun i => .int (-i)
abbrev rIsNo : R2 := fun x y H Q => y = .non ∧ Q (.bl (decide (x = .non))) H
abbrev rNotNo : R2 := fun x y H Q => y = .non ∧ Q (.bl (!decide (x = .non))) H
/-! ## the rules that name the written part, where a block runs, too -/
section
variable {X : Cx} (K : PySem.W.Frag)
theorem ixL (h : X.K = K := by rfl) : IxR X (rIxL K) := h ▸ ix_list
theorem ixT (h : X.K = K := by rfl) : IxR X (rIxT K) := h ▸ ix_tup
theorem memK (hu : X.A.units + 80 < cLine) (h : X.K = K := by rfl) : OpR X (compareOp .In) (rMem K) := h ▸ op_mem hu
theorem nmemK (hu : X.A.units + 80 < cLine) (h : X.K = K := by rfl) : OpR X (compareOp .NotIn) (rNMem K) := h ▸ op_nmem hu
theorem eqK (hu : X.A.units + 64 < cLine) (h : X.K = K := by rfl) : OpR X (compareOp .Eq) (rEqD K) := h ▸ op_eqD hu
theorem neK (hu : X.A.units + 64 < cLine) (h : X.K = K := by rfl) : OpR X (compareOp .NotEq) (rNeD K) := h ▸ op_neD hu
theorem slL (h : X.K = K := by rfl) : SlR X (rSlL K) := h ▸ sl_list
theorem slT (h : X.K = K := by rfl) : SlR X (rSlT K) := h ▸ sl_tup
theorem reprK (hg : Still X.A) (hu : X.A.units + 80 < cLine) (h : X.K = K := by rfl) : CallR X (.builtin "repr") (rRepr K) := h ▸ call_reprD hg hu
theorem catT (h : X.K = K := by rfl) : OpR X (binaryOp .Add) (rCatT K) := h ▸ op_catT
def rLen (K : PySem.W.Frag) : List V → Hp → VK → Prop := fun xs H Q => ∃ p ys, xs = [.ref p] ∧ (SqL K H p ys ∨ SqT K H p ys) ∧ Q (.int ys.length) H
theorem lenK (h : X.K = K := by rfl) : CallR X (.builtin "len") (rLen K) := h ▸ call_len_seq
def rTupOf (K : PySem.W.Frag) : List V → Hp → VK → Prop := fun xs H Q => ∃ p ys, xs = [.ref p] ∧ ((SqL K H p ys ∧ ∀ l, H l = none → Q (.ref l) (upd H l (.tup ys))) ∨ (SqT K H p ys ∧ Q (.ref p) H))
theorem tupOfK (h : X.K = K := by rfl) : CallR X (.type "tuple") (rTupOf K) := h ▸ call_tuple_of
def rLstOf (K : PySem.W.Frag) : List V → Hp → VK → Prop := fun xs H Q => ∃ p ys, xs = [.ref p] ∧ (SqL K H p ys ∨ SqT K H p ys) ∧ ∀ l, H l = none → Q (.ref l) (upd H l (.lst ys))
theorem lstOfK (h : X.K = K := by rfl) : CallR X (.type "list") (rLstOf K) := h ▸ call_list_of
theorem pg_tupK {es : List Expr} {k : Nat} {t : TGs} {n : Nat} {pos : Pos} (hc : X.calm = true) (h : PGs X es t) (hn : (assignEach es X.env).length = n := by rfl) (hst : (assignEach es X.env).findIdx? (·.1) = none := by rfl)
    (hk : X.K = K := by rfl) : PG X (.Tuple es k pos) (gTup K n t) := hk ▸ pg_tup hc h hn hst
theorem sumK (hc : X.calm = true) (h : X.K = K := by rfl) : CallR X (.builtin "sum") (rSum K) := h ▸ cr_sum hc
theorem sortedPK (h : X.K = K := by rfl) : CallR X (.builtin "sorted") (rSortedPO K) := h ▸ cr_sortedPO
theorem sortedIK (h : X.K = K := by rfl) : CallR X (.builtin "sorted") (rSortedI K) := h ▸ cr_sortedI
end
theorem tyes {A B : Hp → Prop} {σ : Slots} {H : Hp} (h : A H) : tYes σ H (fun b H1 => if b = true then A H1 else B H1) := by
  show (if true = true then A H else B H)
  rw [if_pos rfl]
  exact h
theorem hu80_of {k : Nat} {A : Around} (hr : Room k A) : A.units + 80 < cLine := by
  have := hr.un
  omega
abbrev FnP (K : PySem.W.Frag) (x : Str) (st : Stmt) (f : Addr) (fd : FuncData) : Prop := FunD K x x (defArgs st) (defBody st) (defScope st) [] [] f fd
end Lt

set_option Elab.async false
set_option linter.all false
set_option maxRecDepth 100000
set_option maxHeartbeats 2000000
namespace Lt
open PySem PySem.Spec PyProof.Rows L2
/-! ## what is walked, turn by turn -/
section
variable {K : PySem.W.Frag} {Hs : Hp} {Qd : Hp → Prop} {T : V → Hp → (Hp → Prop) → Prop} {a : Addr} {xs : List V}
abbrev WalkGoal (it : It) (Hs : Hp) (Qd : Hp → Prop) (T : V → Hp → (Hp → Prop) → Prop) : Prop :=
  ∃ W : Nat → Nat → Hp → Prop, (∃ m, W 0 m Hs) ∧ ∀ (i m : Nat) (H : Hp), W i m H →
    (it.stop i H ∧ Qd H) ∨ (it.go i H ∧ ∃ Nx : Hp → Prop, (∀ H', Nx H' → ∃ m', m' < m ∧ W (i + 1) m' H') ∧ ∀ (x : V) (H' : Hp), it.yld i H x H' → T x H' Nx)
theorem walk_r {lo : Int} {n : Nat} (Pv : Nat → Hp → Prop) (h0 : Pv 0 Hs) (hs : ∀ (i : Nat) H, i < n → Pv i H → T (.int (lo + i)) H (Pv (i + 1))) (hd : ∀ H, Pv n H → Qd H) : WalkGoal (Itr lo n) Hs Qd T := by
  refine ⟨fun i m H => m + i = n ∧ Pv i H, ⟨n, by omega, h0⟩, ?_⟩
  rintro i m H ⟨e, p⟩
  by_cases c : i < n
  · refine .inr ⟨c, Pv (i + 1), fun H' p' => ⟨m - 1, by omega, by omega, p'⟩, ?_⟩
    rintro x H' ⟨rfl, rfl⟩
    exact hs i H' c p
  · obtain rfl : i = n := by omega
    exact .inl ⟨Nat.le_refl _, hd H p⟩
theorem walk_l (Pv : Nat → Hp → Prop) (h0 : Pv 0 Hs) (hl : ∀ i H, i ≤ xs.length → Pv i H → SqL K H a xs) (hs : ∀ (i : Nat) x H, xs[i]? = some x → Pv i H → T x H (Pv (i + 1))) (hd : ∀ H, Pv xs.length H → Qd H) : WalkGoal (Itl K a) Hs Qd T := by
  refine ⟨fun i m H => m + i = xs.length ∧ Pv i H, ⟨xs.length, by omega, h0⟩, ?_⟩
  rintro i m H ⟨e, p⟩
  have q := hl i H (by omega) p
  by_cases c : i < xs.length
  · refine .inr ⟨⟨xs, xs[i], q, List.getElem?_eq_getElem c⟩, Pv (i + 1), fun H' p' => ⟨m - 1, by omega, by omega, p'⟩, ?_⟩
    rintro x H' ⟨rfl, y⟩
    have ex := y xs q
    exact hs i x H' ex p
  · obtain rfl : i = xs.length := by omega
    exact .inl ⟨⟨xs, q, Nat.le_refl _⟩, hd H p⟩
theorem walk_t (Pv : Nat → Hp → Prop) (h0 : Pv 0 Hs) (hl : ∀ i H, i ≤ xs.length → Pv i H → SqT K H a xs) (hs : ∀ (i : Nat) x H, xs[i]? = some x → Pv i H → T x H (Pv (i + 1))) (hd : ∀ H, Pv xs.length H → Qd H) : WalkGoal (L2.Itt K a) Hs Qd T := by
  refine ⟨fun i m H => m + i = xs.length ∧ Pv i H, ⟨xs.length, by omega, h0⟩, ?_⟩
  rintro i m H ⟨e, p⟩
  have q := hl i H (by omega) p
  by_cases c : i < xs.length
  · refine .inr ⟨⟨xs, xs[i], q, List.getElem?_eq_getElem c⟩, Pv (i + 1), fun H' p' => ⟨m - 1, by omega, by omega, p'⟩, ?_⟩
    rintro x H' ⟨rfl, y⟩
    have ex := y xs q
    exact hs i x H' ex p
  · obtain rfl : i = xs.length := by omega
    exact .inl ⟨⟨xs, q, Nat.le_refl _⟩, hd H p⟩
end
/-! ## what a def hands back -/
abbrev Ret (H : Hp) (d : PyData) (Q : VK) : Prop := ∀ H' r, Fr [] H H' → Tp H' r d → Q r H'
abbrev RetL (H : Hp) (ds : List PyData) (Q : VK) : Prop := ∀ H' p ys, Fr [] H H' → H p = none → H' p = some (.lst ys) → Tps H' ys ds → Q (.ref p) H'
theorem dPs_app (a b : List Pr) : dPs (a ++ b) = dPs a ++ dPs b := List.map_append
/-! ## what a comprehension has made of the items ahead -/
section
variable {α β : Type} {as : List α} {a : α} {b : β} {i : Nat} {f : α → Option β} {en : β → PyData}
abbrev made (as : List α) (f : α → Option β) (en : β → PyData) (i : Nat) : List PyData := ((as.take i).filterMap f).map en
theorem made_some (e : as[i]? = some a) (h : f a = some b) : made as f en (i + 1) = made as f en i ++ [en b] := by
  unfold made
  rw [List.take_add_one, e, List.filterMap_append, List.map_append]
  simp [h]
theorem made_none (e : as[i]? = some a) (h : f a = none) : made as f en (i + 1) = made as f en i := by
  unfold made
  rw [List.take_add_one, e, List.filterMap_append, List.map_append]
  simp [h]
theorem made_all {n : Nat} (h : as.length ≤ n) : made as f en n = (as.filterMap f).map en := by
  unfold made
  rw [List.take_of_length_le h]
theorem range_at {n i : Nat} (h : i < n) : (List.range n)[i]? = some i := List.getElem?_range h
theorem filterMap_if (p : α → Bool) : as.filterMap (fun a => if p a = true then some a else none) = as.filter p := by
  induction as with
  | nil => rfl
  | cons x xs ih =>
    rw [List.filterMap_cons, List.filter_cons]
    cases c : p x <;> simp [ih]
theorem filterMap_one (g : α → β) : as.filterMap (fun a => some (g a)) = as.map g := by
  induction as with
  | nil => rfl
  | cons x xs ih => simp [ih]
end
/-! ## pairs of places -/
def rowUp (n a : Nat) : List Pr := (List.range (n - (a + 1))).map fun j => (a, a + 1 + j)
def pairsTo (n k : Nat) : List Pr := (List.range k).flatMap (rowUp n)
abbrev pairsOf (n : Nat) : List Pr := pairsTo n n
theorem pairsTo_succ (n k : Nat) : pairsTo n (k + 1) = pairsTo n k ++ rowUp n k := by
  unfold pairsTo
  rw [List.range_succ, List.flatMap_append]
  simp
theorem mem_rowUp {n a : Nat} {p : Pr} : p ∈ rowUp n a ↔ p.1 = a ∧ a < p.2 ∧ p.2 < n := by
  unfold rowUp
  rw [List.mem_map]
  constructor
  · rintro ⟨j, hj, rfl⟩
    have := List.mem_range.mp hj
    exact ⟨rfl, by show a < a + 1 + j; omega, by show a + 1 + j < n; omega⟩
  · rintro ⟨h1, h2, h3⟩
    refine ⟨p.2 - (a + 1), List.mem_range.mpr (by omega), ?_⟩
    obtain ⟨x, y⟩ := p
    simp only at h1 h2 h3
    subst h1
    simp only [Prod.mk.injEq, true_and]
    omega
theorem mem_pairsTo {n k : Nat} {p : Pr} : p ∈ pairsTo n k ↔ p.1 < k ∧ p.1 < p.2 ∧ p.2 < n := by
  unfold pairsTo
  rw [List.mem_flatMap]
  constructor
  · rintro ⟨a, ha, hp⟩
    have h1 := List.mem_range.mp ha
    obtain ⟨rfl, h2, h3⟩ := mem_rowUp.mp hp
    exact ⟨h1, h2, h3⟩
  · rintro ⟨h1, h2, h3⟩
    exact ⟨p.1, List.mem_range.mpr h1, mem_rowUp.mpr ⟨rfl, h2, h3⟩⟩
theorem mem_pairsOf {n : Nat} {p : Pr} : p ∈ pairsOf n ↔ p.1 < p.2 ∧ p.2 < n := by
  rw [mem_pairsTo]
  omega
theorem rowUp_len (n a : Nat) : (rowUp n a).length = n - (a + 1) := by
  unfold rowUp
  rw [List.length_map, List.length_range]
theorem pairsTo_len (n : Nat) : ∀ k, (pairsTo n k).length ≤ k * n
  | 0 => by simp [pairsTo]
  | k + 1 => by
    rw [pairsTo_succ, List.length_append, rowUp_len, Nat.add_mul]
    have := pairsTo_len n k
    omega
theorem pairsOf_len {n : Nat} (h : n ≤ 20) : (pairsOf n).length ≤ 400 := Nat.le_trans (pairsTo_len n n) (Nat.mul_le_mul h h)
theorem pairsOf_len12 : ∀ n, n ≤ 12 → (pairsOf n).length ≤ 66 := by decide
theorem pairsOf_below {n : Nat} (h : n ≤ 100) : Below 100 (pairsOf n) := fun p m => by
  have := mem_pairsOf.mp m
  omega
/-- the order of pairs -/
abbrev Up (p q : Pr) : Prop := p.1 < q.1 ∨ (p.1 = q.1 ∧ p.2 < q.2)
theorem rowUp_up (n a : Nat) : (rowUp n a).Pairwise Up := by
  unfold rowUp
  rw [List.pairwise_map]
  exact List.pairwise_lt_range.imp fun h => .inr ⟨rfl, by omega⟩
theorem pairsTo_up (n : Nat) : ∀ k, (pairsTo n k).Pairwise Up
  | 0 => by simp [pairsTo]
  | k + 1 => by
    rw [pairsTo_succ, List.pairwise_append]
    refine ⟨pairsTo_up n k, rowUp_up n k, fun p hp q hq => .inl ?_⟩
    have h1 := mem_pairsTo.mp hp
    have h2 := mem_rowUp.mp hq
    omega
theorem up_nodup {ps : List Pr} (h : ps.Pairwise Up) : ps.Nodup := h.imp fun {p q} u e => by
  subst e
  rcases u with u | u <;> omega
/-- two lists in order with the same pairs are one -/
theorem up_uniq : ∀ {ps qs : List Pr}, ps.Pairwise Up → qs.Pairwise Up → (∀ p, p ∈ ps ↔ p ∈ qs) → ps = qs
  | [], [], _, _, _ => rfl
  | [], q :: qs, _, _, h => absurd ((h q).mpr List.mem_cons_self) List.not_mem_nil
  | p :: ps, [], _, _, h => absurd ((h p).mp List.mem_cons_self) List.not_mem_nil
  | p :: ps, q :: qs, h1, h2, h => by
    have a1 := List.pairwise_cons.mp h1
    have a2 := List.pairwise_cons.mp h2
    have e : p = q := by
      rcases List.mem_cons.mp ((h p).mp List.mem_cons_self) with e | m1
      · exact e
      · rcases List.mem_cons.mp ((h q).mpr List.mem_cons_self) with e | m2
        · exact e.symm
        · have u1 := a2.1 p m1
          have u2 := a1.1 q m2
          rcases u1 with u1 | u1 <;> rcases u2 with u2 | u2 <;> omega
    subst e
    congr 1
    refine up_uniq a1.2 a2.2 fun r => ?_
    have hr := h r
    simp only [List.mem_cons] at hr
    constructor
    · intro m
      rcases hr.mp (.inr m) with e | e
      · subst e
        have := a1.1 _ m
        rcases this with u | u <;> omega
      · exact e
    · intro m
      rcases hr.mpr (.inr m) with e | e
      · subst e
        have := a2.1 _ m
        rcases this with u | u <;> omega
      · exact e
/-! ## webs -/
structure WebOk (n : Nat) (ps : List Pr) : Prop where
  lo : 1 ≤ n
  hi : n ≤ 12
  up : ps.Pairwise Up
  ins : ∀ p ∈ ps, p ∈ pairsOf n
theorem WebOk.eq {n : Nat} {ps : List Pr} (w : WebOk n ps) : (pairsOf n).filter (fun p => decide (p ∈ ps)) = ps := by
  refine up_uniq ((pairsTo_up n n).sublist List.filter_sublist) w.up fun p => ?_
  rw [List.mem_filter, decide_eq_true_iff]
  exact ⟨fun h => h.2, fun h => ⟨w.ins p h, h⟩⟩
theorem WebOk.below {n : Nat} {ps : List Pr} (w : WebOk n ps) : Below 100 ps := fun p m => by
  have := mem_pairsOf.mp (w.ins p m)
  have := w.hi
  omega
theorem WebOk.len {n : Nat} {ps : List Pr} (w : WebOk n ps) : ps.length ≤ 66 := by
  rw [← w.eq]
  exact Nat.le_trans (List.length_filter_le _ _) (pairsOf_len12 n w.hi)
theorem WebOk.sm {n : Nat} {ps : List Pr} (w : WebOk n ps) : Sm 3 60000 (dW n ps) := sm_dW (by have := w.hi; omega) w.below (by have := w.len; omega)
def opp (n : Nat) (ps : List Pr) : List Pr := (pairsOf n).filter fun p => !decide (p ∈ ps)
theorem mem_opp {n : Nat} {ps : List Pr} {p : Pr} : p ∈ opp n ps ↔ p ∈ pairsOf n ∧ p ∉ ps := by
  unfold opp
  rw [List.mem_filter]
  simp
theorem WebOk.opp {n : Nat} {ps : List Pr} (w : WebOk n ps) : WebOk n (opp n ps) :=
  ⟨w.lo, w.hi, (pairsTo_up n n).sublist List.filter_sublist, fun p m => (mem_opp.mp m).1⟩
theorem WebOk.opp2 {n : Nat} {ps : List Pr} (w : WebOk n ps) : Lt.opp n (Lt.opp n ps) = ps := by
  refine up_uniq w.opp.opp.up w.up fun p => ?_
  rw [mem_opp, mem_opp]
  constructor
  · rintro ⟨h1, h2⟩
    by_cases c : p ∈ ps
    · exact c
    · exact absurd ⟨h1, c⟩ h2
  · intro m
    exact ⟨w.ins p m, fun h => h.2 m⟩
/-! ## what is asked of webs -/
def rowOf (n : Nat) (ps : List Pr) : List Nat := (pairsOf n).map fun p => if p ∈ ps then 1 else 0
def tied (ps : List Pr) (i j : Nat) : Bool := decide ((min i j, max i j) ∈ ps)
def nbs (n : Nat) (ps : List Pr) (i : Nat) : List Nat := (List.range n).filter fun j => tied ps i j
def nums (n : Nat) (ps : List Pr) : List Nat := (List.range n).map fun i => (nbs n ps i).length
def odds (n : Nat) (ps : List Pr) : List Nat := (List.range n).filter fun i => (nbs n ps i).length % 2 == 1
theorem nbs_len (n : Nat) (ps : List Pr) (i : Nat) : (nbs n ps i).length ≤ n := by
  have := List.length_filter_le (fun j => tied ps i j) (List.range n)
  rw [List.length_range] at this
  exact this
theorem nbs_lt {n : Nat} {ps : List Pr} {i j : Nat} (h : j ∈ nbs n ps i) : j < n := List.mem_range.mp (List.mem_filter.mp h).1
theorem odds_lt {n : Nat} {ps : List Pr} {j : Nat} (h : j ∈ odds n ps) : j < n := List.mem_range.mp (List.mem_filter.mp h).1
end Lt

set_option Elab.async false
set_option linter.all false
set_option maxRecDepth 100000
set_option maxHeartbeats 4000000
namespace Lt
open PySem PySem.Spec PyProof.Rows L2
/-! ## enumerate(t), t a tuple -/
theorem enum_meets {v : Value} {o : Obj} {H : Heap → Prop} (B : Begins v o H) :
    Meets (Builtin.«enumerate.__new__» ⟨[.type "enumerate", v], []⟩) (fun _ R s => H s.heap ∧
      R (.ok (.ret (.ref (s.heap.push o).objs.size)))
        { s with heap := (s.heap.push o).push { cls := .type "enumerate", data := .fields #[.none, .bool false, .ref s.heap.objs.size, rawInt 0, .none, .none] } }) := by
  refine .of_wp fun prog w A R s z => ?_
  obtain ⟨h0, gs, dr, tk, os⟩ := s
  obtain ⟨z1, z2⟩ := z
  have sub := sub_enumerate
  have begins : ∀ {A' : Around} {E : Value → Shared → Prop} {Q : Value → Shared → Prop}, Q (.ref h0.objs.size) ⟨h0.push o, gs, dr, tk, os⟩ →
      wpAny (model prog w) A' (pyIter v) Q E ⟨h0, gs, dr, tk, os⟩ := fun q => B.iter prog w _ _ ⟨h0, gs, dr, tk, os⟩ _ z1 q
  wp_walk using begins
  refine wpAny_stack_any fun st => wpAny_pure ?_
  split
  next c _ _ _ _ _ =>
    cases (c == Value.type "enumerate") <;> (wp_walk using begins; exact ⟨_, rfl, z2⟩)
  next =>
    wp_walk using begins
    exact ⟨_, rfl, z2⟩
theorem enum_over {prog : Program} {w : World} {A : Around} {E : Value → Shared → Prop} {s : Shared} {e it t : Addr} {i : Nat} {items : Array Value} {old : Value} {Q : Option Value → Shared → Prop}
    (hh : A.handled = none) (he : IsEnum s.heap e it i old) (hit : s.heap.IsTupleIter it t i) (ht : s.heap.IsTuple t items) (hx : items[i]? = none)
    (hQ : ∀ h', Heap.ExtBut it s.heap h' → Q none { s with heap := h' }) : wpAny (model prog w) A (pyNext (.ref e)) Q E s := by
  have ty : s.TypeIs (.ref e) "enumerate" := ⟨_, he, rfl⟩
  unfold pyNext
  apply wpAny_bind
  apply wpAny_attempt
  refine wpAny_callSpecial?_slot (name := Str.ofString "__next__") ty F.slot_enumerate_next ?_
  refine wpAny_call_entry F.slot_enumerate_next ty F.entry_enumerate_next ?_ (F.args_enumerate_next_1 _)
  show wpAny _ _ (field (.ref e) 2 >>= _) _ _ _
  apply wpAny_bind
  refine wpAny_field he rfl (x := .ref it) rfl ?_
  apply wpAny_bind
  refine wpAny_nextOf_tuple_end hh hit ht hx ?_
  rintro h' x z ⟨o, ho, hc⟩
  apply wpAny_bind
  refine wpAny_isInstance (T := "StopIteration") (b := true) ⟨o, ho, hc⟩ isSubtype_stop ?_
  exact wpAny_pure (hQ _ z)
/-- the tuple at a as it stands at each turn, each item in a new pair -/
def ItE (K : PySem.W.Frag) (a : Addr) : It where
  go i H := ∃ (xs : List V) (x : V), SqT K H a xs ∧ xs[i]? = some x
  yld i H v H' := ∃ T x, v = .ref T ∧ H T = none ∧ H' = upd H T (.tup [.int (i : Nat), x]) ∧ ∀ xs, SqT K H a xs → xs[i]? = some x
  stop i H := ∃ xs : List V, SqT K H a xs ∧ xs.length ≤ i
theorem enum_turn {P : Program} {w : World} {K : PySem.W.Frag} {elts : List Expr} {kk : Nat} {tpos : Pos} (a e it : Addr) :
    Turn P w K (.Tuple elts kk tpos) (ItE K a) [e, it] e (fun i h => (∃ old, IsEnum h e it ((i : Nat) : Int) old) ∧ h.IsTupleIter it a i ∧ e ≠ it ∧ e ≠ a) where
  mem := List.mem_cons_self
  obj := by
    rintro i h ⟨⟨old, he⟩, ⟨o, ho, _, hd⟩, _⟩ b hb
    simp only [List.mem_cons, List.not_mem_nil, or_false] at hb
    rcases hb with rfl | rfl
    · exact ⟨_, he, fun v q => nomatch q⟩
    · exact ⟨o, ho, fun v q => by rw [hd] at q; cases q⟩
  keep := by
    rintro i h h' ⟨⟨old, he⟩, hi, n1, n2⟩ kp
    exact ⟨⟨old, kp e (by simp) _ he⟩, hi.at fun o q => kp it (by simp) o q, n1, n2⟩
  item := by
    rintro X rfl rfl rfl hc i pins s σ H E I hf ⟨⟨old, he⟩, hit, n1, n2⟩ ⟨xs, x, hq, hx⟩
    obtain ⟨its, rv, tp, _⟩ := I.tuple hq
    obtain ⟨u, hu, ru⟩ := rv.get hx
    have el : e < s.heap.objs.size := Heap.lt_size he
    have il : it < s.heap.objs.size := by
      obtain ⟨_, q, _⟩ := hit
      exact Heap.lt_size q
    have ai : a ≠ it := by
      intro z
      subst z
      obtain ⟨o1, q1, c1, _⟩ := hit
      obtain ⟨o2, q2, c2, _⟩ := tp
      rw [q1] at q2
      cases q2
      rw [c1] at c2
      exact absurd (Value.type.inj c2) (by decide)
    have hlt : i < its.toArray.size := by
      have := (List.getElem?_eq_some_iff.mp hu).1
      simpa using this
    have D := Draws.tuple (prog := X.prog) (w := X.w) (A := X.A.in1) (I.ok.hd hc) it a ai its.toArray
    refine wpAny_pyNext_enum_itemD D he ⟨hit, tp⟩ hlt n1 (by simp [n1, n2]) fun y h' tk hy ho st hT hsz hk => ?_
    have ey : y = u := by
      have hy' : its[i]? = some y := by simpa using hy
      rw [hu] at hy'
      exact (Option.some.inj hy').symm
    subst ey
    refine ⟨_, rfl, wpAny_letOwnedTupleGo_enum (s := { s with heap := h', toks := tk + 1 }) ho fun h'' he' sb => ?_⟩
    have hT2 : h''.get? s.heap.objs.size = some { cls := .type "tuple", data := .seq #[.int i tk, y] } := (sb.2 _ (Nat.ne_of_gt el)).trans hT
    have made : ObjOk X.prog X.w (upd H s.heap.objs.size (.tup [.int (i : Nat), x])) h'' s.heap.objs.size (.tup [.int (i : Nat), x]) :=
      ⟨by show 2 ≤ sizeLine; decide, [.int i tk, y], .cons ⟨_, rfl⟩ (.cons ru .nil), ⟨_, hT2, rfl, _, rfl⟩⟩
    have kp : ∀ b ob, b ∉ [e, it] → s.heap.get? b = some ob → h''.get? b = some ob := by
      intro b ob hb q
      simp only [List.mem_cons, List.not_mem_nil, or_false, not_or] at hb
      exact (sb.2 b hb.1).trans (hk b ob hb.1 hb.2 q)
    have I1 : Inv X pins σ (upd H s.heap.objs.size (.tup [.int (i : Nat), x])) { s with heap := h'', toks := tk + 1 } := I.turnedNew kp hf (Nat.le_refl _) made
    refine ⟨.ref s.heap.objs.size, _, I1, rfl, ⟨_, x, rfl, I.hok.fresh (Nat.le_refl _), rfl, fun ys hy => by rw [I.tuple_inj hy hq]; exact hx⟩, ⟨⟨y, ?_⟩, st.1.at fun o q => (sb.2 it (Ne.symm n1)).trans q, n1, n2⟩, ?_⟩
    · have ei : ((i + 1 : Nat) : Int) = (i : Int) + 1 := by omega
      rw [ei]
      exact he'
    · intro b hb
      have hz : b < s.heap.objs.size := by
        simp only [List.mem_cons, List.not_mem_nil, or_false] at hb
        rcases hb with rfl | rfl
        · exact el
        · exact il
      rw [upd_ne (Nat.ne_of_lt hz)]
      exact (hf b hb).1
  done := by
    rintro X rfl rfl rfl hc i pins s σ H E I hf ⟨⟨old, he⟩, hit, n1, n2⟩ ⟨xs, hq, hx⟩
    obtain ⟨its, rv, tp, _⟩ := I.tuple hq
    have ai : a ≠ it := by
      intro z
      subst z
      obtain ⟨o1, q1, c1, _⟩ := hit
      obtain ⟨o2, q2, c2, _⟩ := tp
      rw [q1] at q2
      cases q2
      rw [c1] at c2
      exact absurd (Value.type.inj c2) (by decide)
    obtain ⟨f0, f1, f2, f3, f4, f5⟩ := hf it (by simp)
    have hl := rv.length
    exact enum_over (I.ok.hd hc) he hit tp (by simp; omega) fun h' eb => ⟨rfl, I.turned (t' := s.toks) (fun b o hb q => eb b o hb q) f0 f1 f3 f4 f5⟩
  self := by
    rintro A i s Q E ⟨⟨_, he⟩, _⟩ h
    exact wpAny_pyIter_enum he h
theorem call_enumT {prog : Program} {w : World} {A : Around} {E : Value → Shared → Prop} {s : Shared} {t : Addr} {items : Array Value} {Q : Value → Shared → Prop} (hT : s.heap.IsTuple t items)
    (h : ∀ h', IsEnum h' (s.heap.objs.size + 1) s.heap.objs.size 0 .none → h'.IsTupleIter s.heap.objs.size t 0 →
      (∀ b o, s.heap.get? b = some o → h'.get? b = some o) → Q (.ref (s.heap.objs.size + 1)) { s with heap := h' }) :
    wpAny (model prog w) A (call (.type "enumerate") [.ref t]) Q E s := by
  let ob : Obj := { cls := .type "tuple_iterator", data := .fields #[.ref t, .int 0 0] }
  let en : Obj := { cls := .type "enumerate", data := .fields #[.none, .bool false, .ref s.heap.objs.size, rawInt 0, .none, .none] }
  refine callType_new F.called_enumerate (by decide) (F.typeCall_enumerate_1 _) (F.newCall_enumerate_1 _) (fun obj => F.args_object_init_2 obj _) F.entry_enumerate_new (enum_meets (begins_tuple t items)) ⟨hT, ?_⟩
  have hz : (s.heap.push ob).objs.size = s.heap.objs.size + 1 := Heap.size_push ..
  show _ ∧ _
  have he : ((s.heap.push ob).push en).get? (s.heap.objs.size + 1) = some en := by
    have z := Heap.get?_push_size (s.heap.push ob) (o := en) rfl
    rw [hz] at z
    exact z
  have kp : ∀ b o, s.heap.get? b = some o → ((s.heap.push ob).push en).get? b = some o := fun b o q => Heap.get?_push_of_some _ (Heap.get?_push_of_some _ q)
  have hi : ((s.heap.push ob).push en).get? s.heap.objs.size = some ob := Heap.get?_push_of_some _ (Heap.get?_push_size _ rfl)
  have fin := h ((s.heap.push ob).push en) he ⟨ob, hi, rfl, rfl⟩ kp
  rw [← hz] at fin he
  exact ⟨⟨en, he, rfl⟩, fin⟩
def iEnumT (K : PySem.W.Frag) (ta : TA) : TI := fun σ H R => ta σ H fun vs H1 => ∃ a xs, vs = [.ref a] ∧ SqT K H1 a xs ∧ R (ItE K a) H1
theorem pi_enumT {X : Cx} {e : Expr} {ta : TA} {p pos tpos : Pos} {elts : List Expr} {kk : Nat} (hg : Gl X "enumerate") (hm : X.mg "enumerate" = none) (ha : PA X [e] ta) (hs : starEach [e] X.env = [(false, eval e X.env)] := by rfl) :
    PI X (.Tuple elts kk tpos) (.Call (.Name "enumerate" p) [e] [] pos) (iEnumT X.K ta) := by
  constructor
  intro pins s σ H R I h
  refine Call_ (ld_blt I hg hm boot_enumerate (PyProof.Rows.callWith_type1 (thn (ha.run pos pins s σ H _ I h) ?_) hs rfl))
  rintro us s1 ⟨vs, H1, I1, r1, a, xs, rfl, hq, q⟩
  obtain ⟨u, rfl, ru⟩ := vals1 r1
  cases ru
  obtain ⟨its, rv, tp, _⟩ := I1.tuple hq
  refine call_enumT tp fun h' he hit hk => wpAny_pyIter_enum he ?_
  have I2 : Inv X pins σ H1 { s1 with heap := h' } := I1.kept (t' := s1.toks) hk
  have ea : s1.heap.objs.size + 1 ≠ a := by
    intro z
    obtain ⟨o, q, _⟩ := tp
    have h1 := Heap.lt_size q
    have h2 : s1.heap.objs.size < a := z ▸ Nat.lt_succ_self _
    exact Nat.lt_asymm h1 h2
  refine ⟨s1.heap.objs.size + 1, [s1.heap.objs.size + 1, s1.heap.objs.size], _, _, H1, rfl, I2, enum_turn a (s1.heap.objs.size + 1) s1.heap.objs.size, ⟨⟨.none, he⟩, hit, Nat.succ_ne_self _, ea⟩, ?_, q⟩
  intro b hb
  simp only [List.mem_cons, List.not_mem_nil, or_false] at hb
  have hle : s1.heap.objs.size ≤ b := by
    rcases hb with rfl | rfl
    · exact Nat.le_add_right _ _
    · exact Nat.le_refl _
  exact I1.fpOk hle (I1.hok.fresh hle)
/-- its turns -/
theorem walk_e {K : PySem.W.Frag} {Hs : Hp} {Qd : Hp → Prop} {T : V → Hp → (Hp → Prop) → Prop} {a : Addr} {xs : List V} (Pv : Nat → Hp → Prop) (h0 : Pv 0 Hs) (hl : ∀ i H, i ≤ xs.length → Pv i H → H a = some (.tup xs))
    (hs : ∀ (i : Nat) x H p, xs[i]? = some x → Pv i H → H p = none → T (.ref p) (upd H p (.tup [.int i, x])) (Pv (i + 1))) (hd : ∀ H, Pv xs.length H → Qd H) : WalkGoal (ItE K a) Hs Qd T := by
  refine ⟨fun i m H => m + i = xs.length ∧ Pv i H, ⟨xs.length, by omega, h0⟩, ?_⟩
  rintro i m H ⟨e, p⟩
  have q := SqT.of (K := K) (hl i H (by omega) p)
  by_cases c : i < xs.length
  · refine .inr ⟨⟨xs, xs[i], q, List.getElem?_eq_getElem c⟩, Pv (i + 1), fun H' p' => ⟨m - 1, by omega, by omega, p'⟩, ?_⟩
    rintro x H' ⟨t, y, rfl, nt, rfl, ey⟩
    exact hs i y H t (ey xs q) p nt
  · obtain rfl : i = xs.length := by omega
    exact .inl ⟨⟨xs, q, Nat.le_refl _⟩, hd H p⟩
/-- a comprehension over enumerate(t) -/
theorem lce {K : PySem.W.Frag} {S : List Addr} {J : Hp → Prop} {M : Nat → List PyData → Prop} {g : TG} {tt : TT} {te : TE} {vs : List Nat} {σ : Slots} {H1 : Hp} {D a : Addr} {Qd : Hp → Prop} {xs : List V}
    (C : LcC S J H1 D) (hs : H1 a = some (.tup xs)) (j0 : J H1) (m0 : M 0 [])
    (turn : ∀ i x p H ys ds, xs[i]? = some x → LcS S J M H1 D i H ys ds → H p = none → TurnGoal S J M g tt te vs σ H1 D i (.ref p) (upd H p (.tup [.int (i : Nat), x])))
    (done : ∀ H ys ds, LcS S J M H1 D xs.length H ys ds → Qd H) : LcGoal (ItE K a) g tt te vs σ H1 D Qd :=
  walk_e (K := K) (a := a) (xs := xs) (LcAny S J M H1 D) (C.zero j0 m0) (fun i H _ ⟨ys, ds, L⟩ => L.fr.tups _ _ hs) (fun i x H p hx ⟨ys, ds, L⟩ hp => turn i x p H ys ds hx L hp) (fun H ⟨ys, ds, L⟩ => done H ys ds L)
end Lt

set_option Elab.async false
set_option linter.all false
set_option maxRecDepth 100000
set_option maxHeartbeats 4000000
namespace Lt
open PySem PySem.Spec PyProof.Rows L2
def topS (i : Nat) : Stmt := PySem.Challenge.pw_liftedties_k01_what_is_a_web.main.body.getD i (.Pass ⟨0, 0, 0, 0⟩)
abbrev s_is_place : Stmt := topS 2
abbrev N_is_place : List Str := ["many", "value"]
theorem sc_is_place : FnScope ["many", "value"] ["many", "value"] (defScope s_is_place) := ⟨rfl, rfl, rfl, by decide +kernel, rfl, by decide +kernel, by decide +kernel⟩
abbrev s_is_pair : Stmt := topS 3
abbrev N_is_pair : List Str := ["many", "value", "one", "other"]
theorem sc_is_pair : FnScope ["many", "value", "one", "other"] ["many", "value"] (defScope s_is_pair) := ⟨rfl, rfl, rfl, by decide +kernel, rfl, by decide +kernel, by decide +kernel⟩
abbrev s_has_web_form : Stmt := topS 4
abbrev N_has_web_form : List Str := ["value", "many", "ties"]
theorem sc_has_web_form : FnScope ["value", "many", "ties"] ["value"] (defScope s_has_web_form) := ⟨rfl, rfl, rfl, by decide +kernel, rfl, by decide +kernel, by decide +kernel⟩
abbrev s_web_error : Stmt := topS 5
abbrev N_web_error : List Str := ["value", "many", "ties", "place", "tie"]
theorem sc_web_error : FnScope ["value", "many", "ties", "place", "tie"] ["value"] (defScope s_web_error) := ⟨rfl, rfl, rfl, by decide +kernel, rfl, by decide +kernel, by decide +kernel⟩
abbrev s__law_stock : Stmt := topS 7
abbrev N__law_stock : List Str := ["script", "flat", "cell"]
theorem sc__law_stock : FnScope ["script", "flat", "cell"] ["script"] (defScope s__law_stock) := ⟨rfl, rfl, rfl, by decide +kernel, rfl, by decide +kernel, by decide +kernel⟩
abbrev s__law_draw : Stmt := topS 8
abbrev N__law_draw : List Str := ["stock", "size", "great", "turn", "cell", "blend"]
theorem sc__law_draw : FnScope ["stock", "size", "great", "turn", "cell", "blend"] ["stock", "size"] (defScope s__law_draw) := ⟨rfl, rfl, rfl, by decide +kernel, rfl, by decide +kernel, by decide +kernel⟩
abbrev s__law_pick : Stmt := topS 9
abbrev N__law_pick : List Str := ["stock", "row"]
theorem sc__law_pick : FnScope ["stock", "row"] ["stock", "row"] (defScope s__law_pick) := ⟨rfl, rfl, rfl, by decide +kernel, rfl, by decide +kernel, by decide +kernel⟩
abbrev s__law_shuffled : Stmt := topS 10
abbrev N__law_shuffled : List Str := ["stock", "row", "rest", "found", "turn"]
theorem sc__law_shuffled : FnScope ["stock", "row", "rest", "found", "turn"] ["stock", "row"] (defScope s__law_shuffled) := ⟨rfl, rfl, rfl, by decide +kernel, rfl, by decide +kernel, by decide +kernel⟩
abbrev s__law_pairs : Stmt := topS 11
abbrev N__law_pairs : List Str := ["many", "found", "a", "b"]
theorem sc__law_pairs : FnScope ["many", "found", "a", "b"] ["many"] (defScope s__law_pairs) := ⟨rfl, rfl, rfl, by decide +kernel, rfl, by decide +kernel, by decide +kernel⟩
abbrev s__law_named : Stmt := topS 12
abbrev N__law_named : List Str := ["many", "ties", "names", "a", "b"]
theorem sc__law_named : FnScope ["many", "ties", "names", "a", "b"] ["many", "ties", "names"] (defScope s__law_named) := ⟨rfl, rfl, rfl, by decide +kernel, rfl, by decide +kernel, by decide +kernel⟩
abbrev s__law_web : Stmt := topS 13
abbrev N__law_web : List Str := ["stock", "least", "most", "many", "way", "every", "ties", "share", "a", "pair"]
theorem sc__law_web : FnScope ["stock", "least", "most", "many", "way", "every", "ties", "share", "a", "pair"] ["stock", "least", "most"] (defScope s__law_web) := ⟨rfl, rfl, rfl, by decide +kernel, rfl, by decide +kernel, by decide +kernel⟩
abbrev s__law_is_whole : Stmt := topS 14
abbrev N__law_is_whole : List Str := ["thing", "least", "most"]
theorem sc__law_is_whole : FnScope ["thing", "least", "most"] ["thing", "least", "most"] (defScope s__law_is_whole) := ⟨rfl, rfl, rfl, by decide +kernel, rfl, by decide +kernel, by decide +kernel⟩
abbrev s__law_fault : Stmt := topS 15
abbrev N__law_fault : List Str := ["value", "many", "ties", "place", "tie"]
theorem sc__law_fault : FnScope ["value", "many", "ties", "place", "tie"] ["value"] (defScope s__law_fault) := ⟨rfl, rfl, rfl, by decide +kernel, rfl, by decide +kernel, by decide +kernel⟩
abbrev s__law_odd : Stmt := topS 16
abbrev N__law_odd : List Str := ["stock", "many", "tie", "a", "b", "odd"]
theorem sc__law_odd : FnScope ["stock", "many", "tie", "a", "b", "odd"] ["stock", "many", "tie"] (defScope s__law_odd) := ⟨rfl, rfl, rfl, by decide +kernel, rfl, by decide +kernel, by decide +kernel⟩
abbrev s__law_spoilt : Stmt := topS 17
abbrev N__law_spoilt : List Str := ["stock", "web", "many", "ties", "way", "at", "odd", "other", "rest", "tie"]
theorem sc__law_spoilt : FnScope ["stock", "web", "many", "ties", "way", "at", "odd", "other", "rest", "tie"] ["stock", "web"] (defScope s__law_spoilt) := ⟨rfl, rfl, rfl, by decide +kernel, rfl, by decide +kernel, by decide +kernel⟩
abbrev s_law : Stmt := topS 18
abbrev N_law : List Str := ["script", "stock", "turn", "web", "values", "once", "value", "known", "due", "told", "full"]
theorem sc_law : FnScope ["script", "stock", "turn", "web", "values", "once", "value", "known", "due", "told", "full"] ["script"] (defScope s_law) := ⟨rfl, rfl, rfl, by decide +kernel, rfl, by decide +kernel, by decide +kernel⟩
end Lt

set_option Elab.async false
set_option linter.all false
set_option maxRecDepth 100000
set_option maxHeartbeats 4000000
namespace Lt
open PySem PySem.Spec PyProof.Rows L2
section
variable {P : Program} {w : World} {K : PySem.W.Frag} {mg : Str → Option Value} {base : Heap} {f : Addr} {fd : FuncData}
def spInOrder : Sp := fun vs H Q _ => ∃ i j : Nat, vs = [.int i, .int j] ∧ Ret H (dP (min i j, max i j)) Q
def spPairs : Sp := fun vs H Q _ => ∃ n : Nat, vs = [.int n] ∧ n ≤ 20 ∧ RetL H (dPs (pairsOf n)) Q
/-- a def of a web -/
abbrev OfWeb (H : Hp) (v : V) (n : Nat) (ps : List Pr) : Prop := Tp H v (dW n ps) ∧ WebOk n ps
def spOpp : Sp := fun vs H Q _ => ∃ v n ps, vs = [v] ∧ OfWeb H v n ps ∧ Ret H (dW n (opp n ps)) Q
def spRow : Sp := fun vs H Q _ => ∃ v n ps, vs = [v] ∧ OfWeb H v n ps ∧ Ret H (.tuple (dNs (rowOf n ps))) Q
def spTied : Sp := fun vs H Q _ => ∃ v n ps, ∃ i j : Nat, vs = [v, .int i, .int j] ∧ OfWeb H v n ps ∧ i < n ∧ j < n ∧ ∀ H', Fr [] H H' → Q (.bl (tied ps i j)) H'
def spNb : Sp := fun vs H Q _ => ∃ v n ps, ∃ i : Nat, vs = [v, .int i] ∧ OfWeb H v n ps ∧ i < n ∧ Ret H (.tuple (dNs (nbs n ps i))) Q
def spNums : Sp := fun vs H Q _ => ∃ v n ps, vs = [v] ∧ OfWeb H v n ps ∧ Ret H (.tuple (dNs (nums n ps))) Q
end
end Lt

set_option Elab.async false
set_option linter.all false
set_option maxRecDepth 100000
set_option maxHeartbeats 4000000
namespace Lt
open PySem PySem.Spec PyProof.Rows L2
section
variable {P : Program} {w : World} {K : PySem.W.Frag} {mg : Str → Option Value} {base : Heap} {f : Addr} {fd : FuncData}
theorem nums_at {n : Nat} {ps : List Pr} {i : Nat} (h : i < n) : (nums n ps)[i]? = some (nbs n ps i).length := by
  unfold nums
  rw [List.getElem?_map, List.getElem?_range h]
  rfl
def spOdd : Sp := fun vs H Q _ => ∃ v n ps, vs = [v] ∧ OfWeb H v n ps ∧ Ret H (.tuple (dNs (odds n ps))) Q
end
end Lt

set_option Elab.async false
set_option linter.all false
set_option maxRecDepth 100000
set_option maxHeartbeats 4000000
namespace Lt
open PySem PySem.Spec PyProof.Rows L2
/-! ## the law's own draws -/
structure Stk (s d c : Addr) (H : Hp) : Prop where
  ex : ∃ (ds cs : List Int) (sum turn : Int), H s = some (.lst [.ref d, .ref c, .int sum, .int turn]) ∧ H d = some (.lst (ds.map V.int)) ∧ ds.length ≤ 63 ∧ H c = some (.lst (cs.map V.int)) ∧ 0 < cs.length ∧ cs.length ≤ 100
  sd : s ≠ d
  sc : s ≠ c
  dc : d ≠ c
theorem Stk.far {s d c p : Addr} {H : Hp} {o : HO} (h : Stk s d c H) (n1 : p ≠ s) (n2 : p ≠ d) (n3 : p ≠ c) : Stk s d c (upd H p o) := by
  obtain ⟨ds, cs, sm, tn, a1, a2, a3, a4, a5⟩ := h.ex
  exact ⟨⟨ds, cs, sm, tn, by rw [upd_ne n1.symm]; exact a1, by rw [upd_ne n2.symm]; exact a2, a3, by rw [upd_ne n3.symm]; exact a4, a5⟩, h.sd, h.sc, h.dc⟩
theorem Stk.live {s d c : Addr} {H : Hp} (h : Stk s d c H) : H s ≠ none ∧ H d ≠ none ∧ H c ≠ none := by
  obtain ⟨ds, cs, sm, tn, a1, a2, a3, a4, a5⟩ := h.ex
  exact ⟨by rw [a1]; simp, by rw [a2]; simp, by rw [a4]; simp⟩
/-- cells that were free when the stock was there are none of its -/
theorem Stk.apart {s d c p : Addr} {H : Hp} (h : Stk s d c H) (hp : H p = none) : p ≠ s ∧ p ≠ d ∧ p ≠ c := by
  obtain ⟨l1, l2, l3⟩ := h.live
  refine ⟨?_, ?_, ?_⟩ <;> (intro z; subst z; contradiction)
theorem Stk.add {s d c p : Addr} {H H' : Hp} {o : HO} (h : Stk s d c H) (h' : Stk s d c H') (hp : H p = none) : Stk s d c (upd H' p o) := by
  obtain ⟨a, b, e⟩ := h.apart hp
  exact h'.far a b e
theorem cut_to {xs : List V} (k : Nat) : cutV xs none (some (k : Int)) = xs.take k := by
  unfold cutV
  rw [HT.sIx_none, HT.sIx_nat, List.drop_zero, Nat.sub_zero]
  by_cases c : k ≤ xs.length
  · rw [Nat.min_eq_left c]
  · rw [Nat.min_eq_right (by omega), List.take_of_length_le (Nat.le_refl _), List.take_of_length_le (by omega)]
theorem seq_at {i n : Nat} (h : i < n) : seqIndex? (i : Int) n = some i := by
  have e : ixN n (i : Int) = some i := by
    unfold ixN
    rw [if_pos (by omega), if_pos (by omega)]
    simp
  exact (ixN_seq e).1
section
variable {P : Program} {w : World} {K : PySem.W.Frag} {mg : Str → Option Value} {base : Heap} {f : Addr} {fd : FuncData}
abbrev Ints (ds : List PyData) : Prop := ∃ ms : List Int, ds = ms.map PyData.int
theorem Ints.snoc {ds : List PyData} (h : Ints ds) (i : Int) : Ints (ds ++ [.int i]) := by
  obtain ⟨ms, rfl⟩ := h
  exact ⟨ms ++ [i], by rw [List.map_append]; rfl⟩
def spStock (K : PySem.W.Frag) : Sp := fun vs H Q _ => ∃ (a : Addr) (ns : List Int), vs = [.ref a] ∧ SqL K H a (ns.map V.int) ∧ ns.length ≤ 63 ∧
  ∀ H' s d c, Fr [] H H' → Stk s d c H' → Q (.ref s) H'
theorem ok_stock (F : FnP K "_law_stock" s__law_stock f fd) (g_sum : mg "sum" = none) (g_len : mg "len" = none) : FnG P w K mg base CX0 1 f fd ["script"] (spStock K) := by
  refine okG0 F sc__law_stock (fun vs H Q E h => ?_) (fun cdv A outer s H vs Q E hS hr h => ?_)
  · obtain ⟨_, _, rfl, _⟩ := h
    rfl
  · obtain ⟨a, ns, rfl, ha, hl, q⟩ := h
    refine ⟨_, (pss_cons (ps_setLc (i := 1) (own := [("cell", 2)]) (g := (gName 2)) (tt := tYes) rfl sc__law_stock.nd rfl rfl (sw_true rfl rfl rfl (by decide +kernel)) (pi_list (pe_slice (slL K) (pv 0) po_none (po_some pe_int))) (blkOk_by (own := [("cell", 2)]) (N := N__law_stock) (sc := defScope s__law_stock) (by decide +kernel)) (fun _ _ _ _ _ => (pg_name (i := 2) sc__law_stock.nd rfl (Or.inl rfl))) (fun _ _ _ _ _ => pts_nil) (fun _ _ _ _ _ => (pe_ifExp (pt_cmpR op_ge (pv 2) pe_int (nomark _)) (pe_op op_mul pe_int (pv 2)) (pe_op op_sub (pe_op op_mul (pe_un un_neg pe_int) (pv 2)) pe_int))))
      (pss_one (ps_ret (pe_lst (pa_cons (pe_lc (own := [("cell", 2)]) (g := (gName 2)) rfl sc__law_stock.nd (pi_list (pv 1)) (blkOk_by (own := [("cell", 2)]) (N := N__law_stock) (sc := defScope s__law_stock) (by decide +kernel)) (fun _ _ _ _ _ => (pg_name (i := 2) sc__law_stock.nd rfl (Or.inl rfl))) (fun _ _ _ _ _ => (pts_one (pt_cmpR op_ge (pv 2) (pe_op op_pow pe_int pe_int) (nomark _)))) (fun _ _ _ _ _ => (pv 2))) (pa_cons (pe_op op_cat (pv 1) (pe_lst (pa_cons (pe_op op_add (pe_callB (lenK K) (by rfl) g_len (by decide +kernel) (pa_cons (pv 1) pa_nil)) pe_int) pa_nil))) (pa_cons (pe_callB (sumK K rfl) (by rfl) g_sum (by decide +kernel) (pa_cons (pv 1) pa_nil)) (pa_cons pe_int pa_nil)))))))), ?_⟩
    refine ⟨_, rfl, 63, rfl, a, _, rfl, ha, fun b hb => ?_⟩
    have eb : cutV (ns.map V.int) none (some 63) = (ns.take 63).map V.int := by
      rw [show (63 : Int) = ((63 : Nat) : Int) from rfl, cut_to, List.map_take]
    rw [eb]
    have f0 : Fr [] H (upd H b (.lst ((ns.take 63).map V.int))) := Fr.new hb
    refine ⟨b, rfl, ⟨_, SqL.of upd_same⟩, fun D hD => ?_⟩
    have C : LcC [] (fun _ => True) (upd H b (.lst ((ns.take 63).map V.int))) D := ⟨hD, List.not_mem_nil, fun _ _ h => h⟩
    refine lcl (M := fun i ds => Ints ds) C (SqL.of upd_same) List.not_mem_nil trivial ⟨[], rfl⟩ ?_ ?_
    · intro i x H2 zs ds ex L
      rw [List.getElem?_map] at ex
      obtain ⟨cell, ec, rfl⟩ := Option.map_eq_some_iff.mp ex
      have hi : i < 1000 := by
        have := (List.getElem?_eq_some_iff.mp ec).1
        rw [List.length_take] at this
        omega
      refine ⟨rfl, tyes ?_⟩
      refine ⟨_, rfl, _, _, rfl, rfl, _, rfl, ite2 (fun c => ?_) (fun c => ?_)⟩
      · exact ⟨_, rfl, _, _, rfl, rfl, .inl ⟨by decide, by decide⟩, L.put C (by omega) Fr.refl trivial (.int _) (L.m.snoc _)⟩
      · exact ⟨_, rfl, _, rfl, _, _, rfl, rfl, .inl ⟨by decide, by decide⟩, _, _, rfl, rfl, L.put C (by omega) Fr.refl trivial (.int _) (L.m.snoc _)⟩
    · intro H2 zs ds L
      obtain ⟨ms, rfl⟩ := L.m
      have ez := L.dat.ints_inv
      subst ez
      have hm : ms.length ≤ 63 := by
        have h1 := L.len
        rw [List.length_map, List.length_map, List.length_take] at h1
        omega
      have f2 : Fr [] H H2 := f0.trans L.fr
      have eD := L.at_
      refine ⟨.ref D, rfl, D, rfl, ⟨_, SqL.of eD⟩, fun D2 hD2 => ?_⟩
      have C2 : LcC [] (fun _ => True) H2 D2 := ⟨hD2, List.not_mem_nil, fun _ _ h => h⟩
      refine lcl (M := fun i ds => Ints ds) C2 (SqL.of eD) List.not_mem_nil trivial ⟨[], rfl⟩ ?_ ?_
      · intro i x H3 zs ds ex L3
        rw [List.getElem?_map] at ex
        obtain ⟨cell, ec, rfl⟩ := Option.map_eq_some_iff.mp ex
        have hi : i < 1000 := by
          have := (List.getElem?_eq_some_iff.mp ec).1
          omega
        refine ⟨rfl, _, rfl, _, _, rfl, rfl, ⟨by decide, by decide, by decide⟩, _, _, rfl, rfl, _, rfl, ite2 (fun c => ?_) (fun c => ?_)⟩
        · exact ⟨_, rfl, L3.put C2 (by omega) Fr.refl trivial (.int _) (L3.m.snoc _)⟩
        · exact L3.skip C2 Fr.refl trivial L3.m
      · intro H3 zs ds L3
        obtain ⟨ks, rfl⟩ := L3.m
        have ez := L3.dat.ints_inv
        subst ez
        have hk : ks.length ≤ 63 := by
          have h1 := L3.len
          rw [List.length_map, List.length_map] at h1
          omega
        have eD3 := L3.fr.keep _ _ eD List.not_mem_nil
        have eE3 := L3.at_
        -- flat + [len(flat) + ..]
        refine ⟨.ref D, rfl, .ref D, rfl, D, _, rfl, .inl (SqL.of eD3), _, _, rfl, rfl, szl (Nat.le_of_ble_eq_true rfl), fun e he => ?_⟩
        have eDe := at_add (o := .lst [.int ((ms.map V.int).length + 701)]) eD3 he
        refine ⟨D, e, _, _, rfl, rfl, eDe, upd_same, ?_, fun c hc => ?_⟩
        · rw [List.length_map]
          exact szl (by simp only [List.length_cons, List.length_nil]; omega)
        -- sum(flat)
        have eDc := at_add (o := .lst (ms.map V.int ++ [.int ((ms.map V.int).length + 701)])) eDe hc
        refine ⟨.ref D, rfl, D, ms, rfl, SqL.of eDc, szl (Nat.le_of_ble_eq_true rfl), fun s1 hs1 => ?_⟩
        have fe : Fr [] H3 _ := Fr.new (o := .lst [.int ((ms.map V.int).length + 701)]) he
        have fc := Fr.new (S := []) (o := .lst (ms.map V.int ++ [.int ((ms.map V.int).length + 701)])) hc
        have eEc := fc.keep _ _ (fe.keep _ _ eE3 List.not_mem_nil) List.not_mem_nil
        refine q _ s1 D2 c ((f2.trans L3.fr).trans ((fe.trans fc).add hs1)) ⟨⟨ks, ms ++ [((ms.map V.int).length : Int) + 701], ms.sum, 0, upd_same, at_add eEc hs1, hk, ?_, ?_, ?_⟩, ?_, ?_, ?_⟩
        · rw [upd_ne (ne_new upd_same hs1), upd_same, List.map_append]
          rfl
        · rw [List.length_append]
          exact Nat.lt_of_lt_of_le Nat.zero_lt_one (Nat.le_add_left _ _)
        · rw [List.length_append]
          show ms.length + 1 ≤ 100
          omega
        · exact (ne_new eEc hs1).symm
        · exact (ne_new upd_same hs1).symm
        · exact ne_new (fe.keep _ _ eE3 List.not_mem_nil) hc
def spDraw : Sp := fun vs H Q _ => ∃ (s d c : Addr) (m : Nat), vs = [.ref s, .int m] ∧ Stk s d c H ∧ 0 < m ∧ m < 1000000 ∧
  ∀ H' (r : Nat), r < m → Stk s d c H' → Fr [s, d] H H' → Q (.int r) H'
theorem mod_lt {x : Int} {m : Nat} (h : 0 < m) : ∃ r : Nat, r < m ∧ x % (m : Int) = (r : Int) := by
  have h1 := Int.emod_nonneg x (show (m : Int) ≠ 0 by omega)
  have h2 := Int.emod_lt_of_pos x (show (0 : Int) < m by omega)
  exact ⟨(x % (m : Int)).toNat, by omega, by omega⟩
theorem snoc_of {α : Type} (l : List α) : l = [] ∨ ∃ L z, l = L ++ [z] := by
  rcases List.eq_nil_or_concat l with h | ⟨L, z, h⟩
  · exact .inl h
  · exact .inr ⟨L, z, by rw [h, List.concat_eq_append]⟩
theorem eqv_nil : ∀ ds : List Int, PyData.eqv (.list (ds.map PyData.int)) (.list []) = ds.isEmpty
  | [] => rfl
  | _ :: _ => rfl
theorem sh_ints (ds : List Int) : SeqAt.shaped (.list (ds.map PyData.int)) = true := by
  have h1 : ∀ ds : List Int, PyData.canLayAll0 (ds.map PyData.int) = true := by
    intro ds
    induction ds with
    | nil => rfl
    | cons x xs ih =>
      show (PyData.canLay0 (.int x) && _) = true
      rw [ih]
      rfl
  have h2 : ∀ ds : List Int, PyData.depthAll (ds.map PyData.int) = 0 := by
    intro ds
    induction ds with
    | nil => rfl
    | cons x xs ih =>
      show max (PyData.depth (.int x)) _ = 0
      rw [ih]
      rfl
  unfold SeqAt.shaped
  rw [show (PyData.list (ds.map PyData.int)).canLay0 = true from h1 ds]
  have h3 : (PyData.list (ds.map PyData.int)).depth = 1 := by
    show PyData.depthAll _ + 1 = 1
    rw [h2]
  rw [h3]
  rfl
theorem ok_draw (F : FnP K "_law_draw" s__law_draw f fd) (g_int : mg "int" = none) (g_len : mg "len" = none) : FnG P w K mg base CX0 1 f fd ["stock", "size"] spDraw := by
  refine okG0 F sc__law_draw (fun vs H Q E h => ?_) (fun cdv A outer s H vs Q E hS hr h => ?_)
  · obtain ⟨_, _, _, _, rfl, _⟩ := h
    rfl
  · obtain ⟨a, d, c, m, rfl, hk, hm, hm2, q⟩ := h
    obtain ⟨ds, cs, sm, tn, a1, a2, a3, a4, a5, a6⟩ := hk.ex
    have nsd := hk.sd
    have nsc := hk.sc
    have ndc := hk.dc
    refine ⟨_, (pss_cons (ps_if (pt_cmpR (neK K hr.units) (pe_ix (ixL K) (pv 0) pe_int (fun _ _ => rfl)) (pe_lst pa_nil) (nomark _)) (pss_cons (ps_set (i := 2) sc__law_draw.nd rfl (Or.inl rfl) (pe_bm0 PySem.F.plainAttrs_list PySem.F.slot_list_pop PySem.F.type_list_pop mt_pop (pe_ix (ixL K) (pv 0) pe_int (fun _ _ => rfl))))
      (pss_cons (ps_if (pt_cmpR op_ge (pv 2) (pv 1) (nomark _)) (pss_one (ps_expr (pe_bm PySem.F.plainAttrs_list PySem.F.slot_list_append PySem.F.type_list_append mt_append (pe_ix (ixL K) (pv 0) pe_int (fun _ _ => rfl)) (pa_cons (pe_op op_fdivN (pv 2) (pv 1)) pa_nil)))) pss_nil)
      (pss_one (ps_ret (pe_op op_mod (pe_callTy call_int1 (by rfl) g_int (by decide +kernel) (pa_cons (pv 2) pa_nil)) (pv 1)))))) pss_nil)
      (pss_cons (ps_asg (pe_op op_add (pe_ix (ixL K) (pv 0) pe_int (fun _ _ => rfl)) pe_int) (pg_sub (pv 0) pe_int set_list))
      (pss_cons (ps_set (i := 3) sc__law_draw.nd rfl (Or.inl rfl) (pe_ix (ixL K) (pv 0) pe_int (fun _ _ => rfl)))
      (pss_cons (ps_set (i := 4) sc__law_draw.nd rfl (Or.inl rfl) (pe_op op_mod (pe_callTy call_int1 (by rfl) g_int (by decide +kernel) (pa_cons (pe_ix (ixL K) (pe_ix (ixL K) (pv 0) pe_int (fun _ _ => rfl)) (pe_op op_mod (pe_callTy call_int1 (by rfl) g_int (by decide +kernel) (pa_cons (pv 3) pa_nil)) (pe_callB (lenK K) (by rfl) g_len (by decide +kernel) (pa_cons (pe_ix (ixL K) (pv 0) pe_int (fun _ _ => rfl)) pa_nil))) (fun _ _ => rfl)) pa_nil)) pe_int))
      (pss_cons (ps_set (i := 5) sc__law_draw.nd rfl (Or.inl rfl) (pe_op op_mod (pe_callTy call_int1 (by rfl) g_int (by decide +kernel) (pa_cons (pe_op op_add (pe_op op_add (pe_op op_mul (pv 4) pe_int) (pe_op op_mul (pe_op op_mod (pe_callTy call_int1 (by rfl) g_int (by decide +kernel) (pa_cons (pe_ix (ixL K) (pv 0) pe_int (fun _ _ => rfl)) pa_nil)) pe_int) pe_int)) (pe_op op_mul (pv 3) pe_int)) pa_nil)) pe_int))
      (pss_cons (ps_set (i := 5) sc__law_draw.nd rfl (Or.inl rfl) (pe_op op_mod (pe_callTy call_int1 (by rfl) g_int (by decide +kernel) (pa_cons (pe_op op_add (pe_op op_add (pe_op op_mul (pv 5) (pv 5)) (pe_op op_mul (pv 3) pe_int)) (pv 4)) pa_nil)) pe_int))
      (pss_one (ps_ret (pe_op op_mod (pe_op op_fdivN (pe_op op_mod (pe_callTy call_int1 (by rfl) g_int (by decide +kernel) (pa_cons (pe_op op_add (pe_op op_mul (pv 5) pe_int) (pe_op op_mul (pv 3) pe_int)) pa_nil)) pe_int) pe_int) (pv 1)))))))))), ?_⟩
    refine ⟨_, rfl, a, _, 0, _, rfl, rfl, SqL.of a1, atI_nat (j := 0) rfl, szl (Nat.le_of_ble_eq_true rfl), fun e he => ?_⟩
    have f0 : Fr [a, d] H (upd H e (.lst [])) := Fr.new he
    have hk0 : Stk a d c (upd H e (.lst [])) := hk.add hk he
    obtain ⟨n1, n2, n3⟩ := hk.apart he
    have b1 := at_add (o := .lst []) a1 he
    have b2 := at_add (o := .lst []) a2 he
    have b4 := at_add (o := .lst []) a4 he
    refine ⟨.list (ds.map PyData.int), .list [], .lst (SqL.of b2) (Tps.ints ds).dp, .lst (SqL.of upd_same) .nil, sh_ints ds, rfl, _, rfl, ?_⟩
    rw [eqv_nil]
    rcases snoc_of ds with rfl | ⟨L, z, rfl⟩
    · refine iteF ?_
      -- the plain way
      refine ⟨_, rfl, a, _, 3, _, rfl, rfl, SqL.of b1, atI_nat (j := 3) rfl, _, _, rfl, rfl, ?_⟩
      refine ⟨_, rfl, a, _, 3, 3, rfl, rfl, b1, rfl, ?_⟩
      have g1 : upd (upd H e (.lst [])) a (.lst [.ref d, .ref c, .int sm, .int (tn + 1)]) a = some (.lst [.ref d, .ref c, .int sm, .int (tn + 1)]) := upd_same
      have g2 : upd (upd H e (.lst [])) a (.lst [.ref d, .ref c, .int sm, .int (tn + 1)]) d = some (.lst []) := by rw [upd_ne nsd.symm]; exact b2
      have g4 : upd (upd H e (.lst [])) a (.lst [.ref d, .ref c, .int sm, .int (tn + 1)]) c = some (.lst (cs.map V.int)) := by rw [upd_ne nsc.symm]; exact b4
      have f1 : Fr [a, d] H (upd (upd H e (.lst [])) a (.lst [.ref d, .ref c, .int sm, .int (tn + 1)])) := f0.set (.inr List.mem_cons_self) (fun xs z => by rw [b1] at z; cases z)
      have hk1 : Stk a d c (upd (upd H e (.lst [])) a (.lst [.ref d, .ref c, .int sm, .int (tn + 1)])) := ⟨⟨[], cs, sm, tn + 1, g1, g2, by decide, g4, a5, a6⟩, nsd, nsc, ndc⟩
      refine ⟨_, rfl, a, _, 3, _, rfl, rfl, SqL.of g1, atI_nat (j := 3) rfl, ?_⟩
      obtain ⟨k, hkl, ek⟩ := mod_lt (x := tn + 1) a5
      have ec : atI (cs.map V.int) ((tn + 1) % (((cs.map V.int).length : Nat) : Int)) = some (.int cs[k]) := by
        rw [List.length_map, ek]
        refine atI_nat ?_
        rw [List.getElem?_map, List.getElem?_eq_getElem hkl]
        rfl
      refine ⟨_, rfl, a, _, 1, _, rfl, rfl, SqL.of g1, atI_nat (j := 1) rfl, ?_⟩
      refine ⟨_, rfl, .inl ⟨_, rfl, ?_⟩⟩
      refine ⟨_, rfl, a, _, 1, _, rfl, rfl, SqL.of g1, atI_nat (j := 1) rfl, c, _, rfl, .inl (SqL.of g4), _, _, rfl, rfl, ?_, c, _, _, _, rfl, rfl, SqL.of g4, ec, ?_⟩
      · show (0 : Int) < (((cs.map V.int).length : Nat) : Int)
        rw [List.length_map]
        omega
      refine .inl ⟨_, rfl, _, _, rfl, rfl, (by show (0 : Int) < _; decide), ?_⟩
      refine ⟨_, rfl, _, _, rfl, rfl, .inr ⟨by decide, by decide⟩, _, rfl, a, _, 2, _, rfl, rfl, SqL.of g1, atI_nat (j := 2) rfl, ?_⟩
      refine .inl ⟨_, rfl, _, _, rfl, rfl, (by show (0 : Int) < _; decide), _, _, rfl, rfl, .inr ⟨by decide, by decide⟩, _, _, rfl, rfl, _, rfl, _, _, rfl, rfl, .inr ⟨by decide, by decide⟩, _, _, rfl, rfl, ?_⟩
      refine .inl ⟨_, rfl, _, _, rfl, rfl, (by show (0 : Int) < _; decide), ?_⟩
      obtain ⟨bl, hbl, ebl⟩ := mod_lt (m := 4294967291) (x := cs[k] % 1000000007 * 48271 + sm % 998244353 * 69621 + (tn + 1) * 2654435761) (by decide)
      have ebl : (cs[k] % 1000000007 * 48271 + sm % 998244353 * 69621 + (tn + 1) * 2654435761) % 4294967291 = (bl : Int) := ebl
      dsimp only
      rw [ebl]
      refine ⟨_, rfl, _, rfl, _, _, rfl, rfl, .inl ⟨by omega, by omega⟩, _, rfl, _, _, rfl, rfl, .inr ⟨by decide, by decide⟩, _, _, rfl, rfl, _, rfl, _, _, rfl, rfl, ?_⟩
      refine .inl ⟨_, rfl, _, _, rfl, rfl, (by show (0 : Int) < _; decide), ?_⟩
      refine ⟨_, rfl, _, _, rfl, rfl, .inr ⟨by decide, by decide⟩, _, rfl, _, _, rfl, rfl, .inr ⟨by decide, by decide⟩, _, _, rfl, rfl, ?_⟩
      refine .inl ⟨_, rfl, _, _, rfl, rfl, (by show (0 : Int) < _; decide), _, _, rfl, rfl, ⟨by decide, by decide⟩, _, rfl, _, _, rfl, rfl, (by show (0 : Int) < _; omega), ?_⟩
      obtain ⟨rr, hrr, err⟩ := mod_lt (m := m) (x := ((((bl : Int) * bl + (tn + 1) * 362437 + cs[k] % 1000000007) % 4294967279 * 40692 + (tn + 1) * 65537) % 4294967231).fdiv 4096) hm
      dsimp only
      rw [err]
      exact q _ _ hrr hk1 f1
    · rw [show (L ++ [z]).isEmpty = false by simp]
      refine Eq.mpr (if_pos rfl) ?_
      have hb2 : (L ++ [z]).map V.int = L.map V.int ++ [V.int z] := by rw [List.map_append]; rfl
      rw [hb2] at b2
      have e1 : (L.map V.int ++ [V.int z])[(L.map V.int ++ [V.int z]).length - 1]? = some (V.int z) := by simp
      refine ⟨_, rfl, a, _, 0, _, rfl, rfl, SqL.of b1, atI_nat (j := 0) rfl, .inl ⟨rfl, _, SqL.of b2⟩, d, _, _, rfl, rfl, b2, e1, ?_⟩
      rw [List.dropLast_concat]
      have hL : L.length ≤ 62 := by rw [List.length_append] at a3; simp only [List.length_cons, List.length_nil] at a3; omega
      have g1 : upd (upd H e (.lst [])) d (.lst (L.map V.int)) a = some (.lst [.ref d, .ref c, .int sm, .int tn]) := by rw [upd_ne nsd]; exact b1
      have g2 : upd (upd H e (.lst [])) d (.lst (L.map V.int)) d = some (.lst (L.map V.int)) := upd_same
      have g4 : upd (upd H e (.lst [])) d (.lst (L.map V.int)) c = some (.lst (cs.map V.int)) := by rw [upd_ne ndc.symm]; exact b4
      have f1 : Fr [a, d] H (upd (upd H e (.lst [])) d (.lst (L.map V.int))) := f0.set (.inr (List.mem_cons_of_mem _ List.mem_cons_self)) (fun xs z => by rw [b2] at z; cases z)
      obtain ⟨rr, hrr, err⟩ := mod_lt (m := m) (x := z) hm
      refine ⟨_, rfl, _, rfl, _, _, rfl, rfl, _, rfl, ite2 (fun c1 => ?_) (fun c1 => ?_)⟩
      · refine ⟨_, rfl, a, _, 0, _, rfl, rfl, SqL.of g1, atI_nat (j := 0) rfl, .inl ⟨rfl, _, SqL.of g2⟩, _, rfl, _, rfl, _, _, rfl, rfl, ⟨by omega, by omega⟩, d, _, _, rfl, rfl, g2, ?_, ?_⟩
        · rw [List.length_map]
          exact szlt (by omega)
        · refine ⟨_, rfl, .inl ⟨_, rfl, _, rfl, _, _, rfl, rfl, (by show (0 : Int) < _; omega), ?_⟩⟩
          dsimp only
          rw [err]
          refine q _ _ hrr ⟨⟨L ++ [z.fdiv m], cs, sm, tn, ?_, ?_, ?_, ?_, a5, a6⟩, nsd, nsc, ndc⟩ (f1.set (.inr (List.mem_cons_of_mem _ List.mem_cons_self)) (fun xs z => by rw [g2] at z; cases z))
          · rw [upd_ne nsd]
            exact g1
          · rw [upd_same, List.map_append]
            rfl
          · rw [List.length_append]
            show L.length + 1 ≤ 63
            omega
          · rw [upd_ne ndc.symm]
            exact g4
      · refine ⟨_, rfl, .inl ⟨_, rfl, _, rfl, _, _, rfl, rfl, (by show (0 : Int) < _; omega), ?_⟩⟩
        dsimp only
        rw [err]
        exact q _ _ hrr ⟨⟨L, cs, sm, tn, g1, g2, by omega, g4, a5, a6⟩, nsd, nsc, ndc⟩ f1
end
end Lt

set_option Elab.async false
set_option linter.all false
set_option maxRecDepth 100000
set_option maxHeartbeats 4000000
namespace Lt
open PySem PySem.Spec PyProof.Rows L2
section
variable {P : Program} {w : World} {K : PySem.W.Frag} {mg : Str → Option Value} {base : Heap} {f : Addr} {fd : FuncData}
theorem perm_move {α : Type} : ∀ {l m : List α} {r : Nat} {y : α}, l[r]? = some y → (l.eraseIdx r ++ (m ++ [y])).Perm (l ++ m)
  | [], _, _, _, h => by simp at h
  | x :: l, m, 0, y, h => by
    cases h
    show (l ++ (m ++ [x])).Perm (x :: (l ++ m))
    rw [← List.append_assoc]
    exact List.perm_append_singleton x (l ++ m)
  | x :: l, m, r + 1, y, h => by
    have h' : l[r]? = some y := h
    exact (perm_move (m := m) h').cons x
def spShuf : Sp := fun vs H Q _ => ∃ (s d c a : Addr) (xs : List V) (ds : List PyData), vs = [.ref s, .ref a] ∧ Stk s d c H ∧ H a = some (.lst xs) ∧ Tps H xs ds ∧ xs.length ≤ 1000 ∧ a ≠ s ∧ a ≠ d ∧
  ∀ H' p ys es, es.Perm ds → Fr [s, d] H H' → H p = none → Stk s d c H' → H' p = some (.lst ys) → Tps H' ys es → Q (.ref p) H'
theorem ok_shuffled (F : FnP K "_law_shuffled" s__law_shuffled f fd) (g_range : mg "range" = none) (g_list : mg "list" = none) (g_len : mg "len" = none) {f__law_draw : Addr} {fd__law_draw : FuncData} (F__law_draw : FnP K "_law_draw" s__law_draw f__law_draw fd__law_draw) (m__law_draw : mg "_law_draw" = some (.ref f__law_draw)) (G__law_draw : FnG P w K mg base CX0 1 f__law_draw fd__law_draw ["stock", "size"] spDraw) : FnG P w K mg base CX0 2 f fd ["stock", "row"] spShuf := by
  have b__law_draw : Binds K fd__law_draw ["stock", "size"] [] := F__law_draw.bindsN fun _ _ _ _ _ _ us hl => match us, hl with | [_, _], _ => rfl
  refine okG0 F sc__law_shuffled (fun vs H Q E h => ?_) (fun cdv A outer s H vs Q E hS hr h => ?_)
  · obtain ⟨_, _, _, _, _, _, rfl, _⟩ := h
    rfl
  · obtain ⟨s0, d, c, a, xs, ds, rfl, hk, ha, hx, hl, nas, nad, q⟩ := h
    refine ⟨_, (pss_cons (ps_par (i := 2) (j := 3) (by rfl) sc__law_shuffled.nd rfl rfl (by decide) rfl rfl (pa_cons (pe_callTy (lstOfK K) (by rfl) g_list (by decide +kernel) (pa_cons (pv 1) pa_nil)) (pa_cons (pe_lst pa_nil) pa_nil)) (by rfl))
      (pss_cons (ps_for PassesOwn.never rfl (pi_range1 rfl g_range (pa_cons (pe_callB (lenK K) (by rfl) g_len (by decide +kernel) (pa_cons (pv 1) pa_nil)) pa_nil)) (pg_name (i := 4) sc__law_shuffled.nd rfl (Or.inl rfl)) (pss_one (ps_expr (pe_bm PySem.F.plainAttrs_list PySem.F.slot_list_append PySem.F.type_list_append mt_append (pv 3) (pa_cons (pe_bm PySem.F.plainAttrs_list PySem.F.slot_list_pop PySem.F.type_list_pop mt_popAt (pv 2) (pa_cons (pe_callG G__law_draw hS (hr.mono (by decide)) (by rfl) m__law_draw F__law_draw.kp b__law_draw .nil pass0 (pa_cons (pv 0) (pa_cons (pe_callB (lenK K) (by rfl) g_len (by decide +kernel) (pa_cons (pv 2) pa_nil)) pa_nil))) pa_nil)) pa_nil)))))
      (pss_one (ps_ret (pv 3))))), ?_⟩
    -- rest, found = list(row), []
    refine ⟨_, rfl, a, xs, rfl, .inl (SqL.of ha), fun R hR => ⟨szl (Nat.zero_le _), fun D hD => ?_⟩⟩
    have hR0 : H R = none := hR
    have nRD : R ≠ D := ne_new upd_same hD
    have hD0 : H D = none := (Fr.new (S := []) (o := .lst xs) hR).free hD
    have fa : Fr [s0, d] H (upd (upd H R (.lst xs)) D (.lst [])) := (Fr.new hR).add hD
    refine ⟨_, _, rfl, ?_⟩
    -- for turn in range(len(row))
    have eA := fa.keep _ _ ha (by simp [nas, nad])
    refine ⟨_, rfl, a, xs, rfl, .inl (SqL.of eA), (xs.length : Nat), rfl, by omega, by omega, ?_⟩
    have kk : Stk s0 d c (upd (upd H R (.lst xs)) D (.lst [])) := (hk.add hk hR).add (hk.add hk hR) hD
    obtain ⟨r1, r2, r3⟩ := hk.apart hR0
    obtain ⟨q1, q2, q3⟩ := hk.apart hD0
    refine for_range (lo := 0) (n := xs.length) (fun i σ H' => ∃ y4 us ws ds1 ds2, σ = [some (.ref s0), some (.ref a), some (.ref R), some (.ref D), y4] ∧ Stk s0 d c H' ∧ Fr [s0, d] H H' ∧
      H' R = some (.lst us) ∧ Tps H' us ds1 ∧ H' D = some (.lst ws) ∧ Tps H' ws ds2 ∧ ds2.length = i ∧ (ds1 ++ ds2).Perm ds) ?_ ?_ ?_
    · exact ⟨none, xs, [], ds, [], rfl, kk, fa, by rw [upd_ne nRD, upd_same], hx.fr fa, upd_same, .nil, rfl, by rw [List.append_nil]⟩
    · rintro i σ H1 hi ⟨y4, us, ws, ds1, ds2, rfl, k1, f1, e1, t1, e2, t2, l2, pm⟩
      have lx := hx.length
      have lu := t1.length
      have lw := t2.length
      have lp := pm.length_eq
      rw [List.length_append] at lp
      have hu : 0 < us.length := by omega
      -- found.append(rest.pop(draw(stock, len(rest))))
      refine ⟨_, rfl, .inl ⟨rfl, _, SqL.of e2⟩, _, rfl, .inl ⟨rfl, _, SqL.of e1⟩, _, rfl, _, rfl, R, us, rfl, .inl (SqL.of e1), ?_⟩
      refine ⟨s0, d, c, us.length, rfl, k1, hu, by omega, fun H2 r hr2 k2 f2 => ?_⟩
      have eR := f2.keep _ _ e1 (by simp [r1, r2])
      have eD := f2.keep _ _ e2 (by simp [q1, q2])
      have t1' := t1.fr f2
      have t2' := t2.fr f2
      obtain ⟨y, ey⟩ : ∃ y, us[r]? = some y := ⟨us[r], List.getElem?_eq_getElem hr2⟩
      obtain ⟨dy, edy, ty⟩ := t1'.at ey
      refine ⟨R, us, r, r, y, rfl, rfl, eR, by omega, by omega, seq_at hr2, ey, ?_⟩
      have f3 : Fr [s0, d] H (upd H2 R (.lst (us.eraseIdx r))) := (f1.trans f2).set (.inl hR0) (fun xs z => by rw [eR] at z; cases z)
      have g3 : Fr [R] H2 (upd H2 R (.lst (us.eraseIdx r))) := Fr.refl.set (.inr List.mem_cons_self) (fun xs z => by rw [eR] at z; cases z)
      have eD3 : upd H2 R (.lst (us.eraseIdx r)) D = some (.lst ws) := by rw [upd_ne nRD.symm]; exact eD
      refine ⟨D, ws, y, rfl, rfl, eD3, szlt (by omega), ?_⟩
      have f4 : Fr [s0, d] H (upd (upd H2 R (.lst (us.eraseIdx r))) D (.lst (ws ++ [y]))) := f3.set (.inl hD0) (fun xs z => by rw [eD3] at z; cases z)
      have g4 : Fr [D] (upd H2 R (.lst (us.eraseIdx r))) (upd (upd H2 R (.lst (us.eraseIdx r))) D (.lst (ws ++ [y]))) := Fr.refl.set (.inr List.mem_cons_self) (fun xs z => by rw [eD3] at z; cases z)
      refine ⟨_, us.eraseIdx r, ws ++ [y], ds1.eraseIdx r, ds2 ++ [dy], rfl, hk.add (hk.add k2 hR0) hD0, f4, ?_, ((t1'.erase r).fr g3).fr g4, upd_same, ((t2'.fr g3).fr g4).app (Tps.one ((ty.fr g3).fr g4)), ?_, ?_⟩
      · rw [upd_ne nRD, upd_same]
      · rw [List.length_append, l2]
        rfl
      · refine List.Perm.trans ?_ pm
        exact perm_move edy
    · rintro σ H1 ⟨y4, us, ws, ds1, ds2, rfl, k1, f1, e1, t1, e2, t2, l2, pm⟩
      have lp := pm.length_eq
      rw [List.length_append] at lp
      have lx := hx.length
      have ld : ds1 = [] := List.eq_nil_of_length_eq_zero (by omega)
      subst ld
      exact ⟨_, rfl, q H1 D ws ds2 pm f1 hD0 k1 e2 t2⟩
end
end Lt

set_option Elab.async false
set_option linter.all false
set_option maxRecDepth 100000
set_option maxHeartbeats 4000000
namespace Lt
open PySem PySem.Spec PyProof.Rows L2
section
variable {P : Program} {w : World} {K : PySem.W.Frag} {mg : Str → Option Value} {base : Heap} {f : Addr} {fd : FuncData}
theorem ok_law_pairs (F : FnP K "_law_pairs" s__law_pairs f fd) (g_range : mg "range" = none) : FnG P w K mg base CX0 1 f fd ["many"] spPairs := by
  refine okG0 F sc__law_pairs (fun vs H Q E h => ?_) (fun cdv A outer s H vs Q E hS hr h => ?_)
  · obtain ⟨_, rfl, _⟩ := h
    rfl
  · obtain ⟨n, rfl, hn, q⟩ := h
    refine ⟨_, (pss_cons (ps_set (i := 1) sc__law_pairs.nd rfl (Or.inl rfl) (pe_lst pa_nil))
      (pss_cons (ps_for PassesOwn.never rfl (pi_range1 rfl g_range (pa_cons (pv 0) pa_nil)) (pg_name (i := 2) sc__law_pairs.nd rfl (Or.inr rfl)) (pss_one (ps_set (i := 1) sc__law_pairs.nd rfl (Or.inl rfl) (pe_op op_cat (pv 1) (pe_lc (own := [("b", 3)]) (g := (gName 3)) (tt := tYes) rfl sc__law_pairs.nd (pi_range2 rfl g_range (pa_cons (pe_op op_add (pv 2) pe_int) (pa_cons (pv 0) pa_nil))) (blkOk_by (own := [("b", 3)]) (N := N__law_pairs) (sc := defScope s__law_pairs) (by decide +kernel)) (fun _ _ _ _ _ => (pg_name (i := 3) sc__law_pairs.nd rfl (Or.inl rfl))) (fun _ _ _ _ _ => pts_nil) (fun _ _ _ _ _ => (pe_tup (pa_cons (pv 2) (pa_cons (pv 3) pa_nil)))))))))
      (pss_one (ps_ret (pv 1))))), ?_⟩
    refine ⟨szl (Nat.zero_le _), fun R hR => ?_⟩
    refine ⟨_, rfl, n, rfl, by omega, by omega, ?_⟩
    refine for_range (lo := 0) (n := n) (fun i σ H' => ∃ p ys y2, σ = [some (.int n), some (.ref p), y2, none] ∧ Fr [] H H' ∧ H p = none ∧ H' p = some (.lst ys) ∧ Tps H' ys (dPs (pairsTo n i))) ?_ ?_ ?_
    · exact ⟨R, [], none, rfl, Fr.new hR, hR, upd_same, .nil⟩
    · rintro i σ H1 hi ⟨p, ys, y2, rfl, f1, np, e1, t1⟩
      refine ⟨_, rfl, _, rfl, _, _, rfl, rfl, _, rfl, ((0 : Int) + i) + 1, n, rfl, ⟨by omega, by omega, by omega, by omega⟩, fun D hD => ?_⟩
      have hm : ((n : Int) - (((0 : Int) + i) + 1)).toNat = n - (i + 1) := by omega
      have C : LcC [] (fun _ => True) H1 D := ⟨hD, List.not_mem_nil, fun _ _ h => h⟩
      refine lcr (M := fun k ds => ds = made (List.range (n - (i + 1))) (fun j => some (i, i + 1 + j)) dP k) C trivial rfl ?_ ?_
      · intro j H2 zs ds hj L
        rw [hm] at hj
        have ej := range_at hj
        refine ⟨rfl, tyes ?_⟩
        refine ⟨_, rfl, _, rfl, szl (Nat.le_of_ble_eq_true rfl), fun p2 hp2 => ?_⟩
        refine L.put C (d := dP (i, i + 1 + j)) (by omega) (Fr.new hp2) trivial (Tp.pr (p := (i, i + 1 + j)) (by rw [upd_same]; simp only [Option.some.injEq, HO.tup.injEq, List.cons.injEq, V.int.injEq, and_true]; omega)) ?_
        rw [L.m]
        exact (made_some (f := fun j => some (i, i + 1 + j)) (en := dP) ej rfl).symm
      · intro H2 zs ds L
        have em := L.m
        rw [hm, made_all (by rw [List.length_range]; exact Nat.le_refl _), filterMap_one] at em
        have td := L.dat
        rw [em] at td
        have e2 := L.fr.keep _ _ e1 List.not_mem_nil
        have lz := td.length
        have ly := t1.length
        rw [List.length_map, List.length_map, List.length_range] at lz
        rw [List.length_map] at ly
        have lp := pairsTo_len n i
        have : i * n ≤ 20 * 20 := Nat.mul_le_mul (by omega) hn
        refine ⟨p, D, ys, zs, rfl, rfl, e2, L.at_, szl (by omega), fun p3 hp3 => ?_⟩
        have f3 : Fr [] H2 (upd H2 p3 (.lst (ys ++ zs))) := Fr.new hp3
        refine ⟨p3, ys ++ zs, some (.int (0 + i)), rfl, (f1.trans L.fr).trans f3, (f1.trans L.fr).free hp3, upd_same, ?_⟩
        rw [pairsTo_succ, dPs_app]
        exact ((t1.fr L.fr).fr f3).app (td.fr f3)
    · rintro σ H1 ⟨p, ys, y2, rfl, f1, np, e1, t1⟩
      exact ⟨_, rfl, q H1 p ys f1 np e1 t1⟩
end
end Lt

set_option Elab.async false
set_option linter.all false
set_option maxRecDepth 100000
set_option maxHeartbeats 2000000
namespace Lt
open PySem PySem.Spec PyProof.Rows L2
/-! ## opposites, counted -/
theorem pair_of_two {n i j : Nat} (hi : i < n) (hj : j < n) : (min i j, max i j) ∈ pairsOf n ↔ i ≠ j := by
  rw [mem_pairsOf]
  show min i j < max i j ∧ max i j < n ↔ i ≠ j
  omega
theorem tied_self {n : Nat} {ps : List Pr} (w : WebOk n ps) {i : Nat} : tied ps i i = false := by
  refine decide_eq_false fun h => ?_
  have := mem_pairsOf.mp (w.ins _ h)
  simp only at this
  omega
theorem tied_opp {n : Nat} {ps : List Pr} (w : WebOk n ps) {i j : Nat} (hi : i < n) (hj : j < n) : tied (opp n ps) i j = (!decide (j = i) && !tied ps i j) := by
  unfold tied
  have h := pair_of_two hi hj
  have hm := mem_opp (n := n) (ps := ps) (p := (min i j, max i j))
  by_cases e : j = i
  · subst e
    rw [decide_eq_true rfl, decide_eq_false (fun z => (h.mp (hm.mp z).1) rfl)]
    rfl
  · rw [decide_eq_false e]
    by_cases c : (min i j, max i j) ∈ ps
    · rw [decide_eq_true c, decide_eq_false (fun z => (hm.mp z).2 c)]
      rfl
    · rw [decide_eq_false c, decide_eq_true (hm.mpr ⟨h.mpr (fun z => e z.symm), c⟩)]
      rfl
theorem filter_congr' {α : Type} {p q : α → Bool} {l : List α} (h : ∀ x ∈ l, p x = q x) : l.filter p = l.filter q := List.filter_congr h
theorem nbs_opp {n : Nat} {ps : List Pr} (w : WebOk n ps) {i : Nat} (hi : i < n) : nbs n (opp n ps) i = (List.range n).filter fun j => !decide (j = i) && !tied ps i j :=
  filter_congr' fun j m => tied_opp w hi (List.mem_range.mp m)
theorem count3 {t : Nat → Bool} {i : Nat} (hs : t i = false) : ∀ n, ((List.range n).filter t).length + ((List.range n).filter fun j => !decide (j = i) && !t j).length + (if i < n then 1 else 0) = n
  | 0 => by simp
  | n + 1 => by
    have ih := count3 hs n
    rw [List.range_succ, List.filter_append, List.filter_append, List.length_append, List.length_append]
    by_cases e : n = i
    · subst e
      have h1 : ([n].filter t) = [] := by simp [hs]
      have h2 : ([n].filter fun j => !decide (j = n) && !t j) = [] := by simp
      rw [h1, h2]
      simp only [List.length_nil, Nat.lt_irrefl, if_false, Nat.lt_succ_self, if_true] at ih ⊢
      omega
    · have h3 : (if i < n + 1 then 1 else 0) = (if i < n then 1 else 0 : Nat) := by
        by_cases c : i < n
        · rw [if_pos c, if_pos (by omega)]
        · rw [if_neg c, if_neg (by omega)]
      rw [h3]
      cases c : t n with
      | true =>
        have h1 : ([n].filter t) = [n] := by simp [c]
        have h2 : ([n].filter fun j => !decide (j = i) && !t j) = [] := by simp [c]
        rw [h1, h2]
        simp only [List.length_cons, List.length_nil]
        omega
      | false =>
        have h1 : ([n].filter t) = [] := by simp [c]
        have h2 : ([n].filter fun j => !decide (j = i) && !t j) = [n] := by simp [c, e]
        rw [h1, h2]
        simp only [List.length_cons, List.length_nil]
        omega
theorem nbs_opp_len {n : Nat} {ps : List Pr} (w : WebOk n ps) {i : Nat} (hi : i < n) : (nbs n ps i).length + (nbs n (opp n ps) i).length + 1 = n := by
  rw [nbs_opp w hi]
  have h := count3 (t := fun j => tied ps i j) (i := i) (tied_self w) n
  rw [if_pos hi] at h
  exact h
theorem nums_opp {n : Nat} {ps : List Pr} (w : WebOk n ps) : nums n (opp n ps) = (nums n ps).map fun k => n - 1 - k := by
  unfold nums
  rw [List.map_map]
  refine List.map_congr_left fun i m => ?_
  have := nbs_opp_len w (List.mem_range.mp m)
  show _ = n - 1 - (nbs n ps i).length
  omega
theorem nums_lt {n : Nat} {ps : List Pr} (w : WebOk n ps) {k : Nat} (h : k ∈ nums n ps) : k + 1 ≤ n := by
  unfold nums at h
  obtain ⟨i, m, rfl⟩ := List.mem_map.mp h
  have := nbs_opp_len w (List.mem_range.mp m)
  omega
theorem mem_odds {n : Nat} {ps : List Pr} {i : Nat} : i ∈ odds n ps ↔ i < n ∧ (nbs n ps i).length % 2 = 1 := by
  unfold odds
  rw [List.mem_filter, List.mem_range, beq_iff_eq]
theorem odds_opp_odd {n : Nat} {ps : List Pr} (w : WebOk n ps) (h : n % 2 = 1) : odds n (opp n ps) = odds n ps := by
  unfold odds
  refine filter_congr' fun i m => ?_
  have := nbs_opp_len w (List.mem_range.mp m)
  rw [Bool.eq_iff_iff, beq_iff_eq, beq_iff_eq]
  omega
theorem odds_opp_even {n : Nat} {ps : List Pr} (w : WebOk n ps) (h : n % 2 = 0) : odds n (opp n ps) = (List.range n).filter fun i => !decide (i ∈ odds n ps) := by
  unfold odds
  refine filter_congr' fun i m => ?_
  have := nbs_opp_len w (List.mem_range.mp m)
  have hm := mem_odds (n := n) (ps := ps) (i := i)
  have hi := List.mem_range.mp m
  rw [Bool.eq_iff_iff, beq_iff_eq, Bool.not_eq_true', decide_eq_false_iff_not]
  show _ ↔ ¬ i ∈ odds n ps
  rw [hm]
  omega
theorem opp_len {n : Nat} {ps : List Pr} (w : WebOk n ps) : ps.length + (opp n ps).length = (pairsOf n).length := by
  have h : ∀ l : List Pr, (l.filter fun p => decide (p ∈ ps)).length + (l.filter fun p => !decide (p ∈ ps)).length = l.length := by
    intro l
    induction l with
    | nil => rfl
    | cons x xs ih =>
      rw [List.filter_cons, List.filter_cons]
      by_cases c : x ∈ ps
      · simp only [c, decide_true, if_true, Bool.not_true, Bool.false_eq_true, if_false, List.length_cons]
        omega
      · simp only [c, decide_false, Bool.false_eq_true, if_false, Bool.not_false, if_true, List.length_cons]
        omega
  have := h (pairsOf n)
  rw [w.eq] at this
  exact this
theorem row_opp {n : Nat} {ps : List Pr} : rowOf n (opp n ps) = (rowOf n ps).map fun k => 1 - k := by
  unfold rowOf
  rw [List.map_map]
  refine List.map_congr_left fun p m => ?_
  show (if p ∈ opp n ps then 1 else 0) = 1 - (if p ∈ ps then 1 else 0)
  have := mem_opp (n := n) (ps := ps) (p := p)
  by_cases c : p ∈ ps
  · rw [if_pos c, if_neg (fun z => (this.mp z).2 c)]
  · rw [if_neg c, if_pos (this.mpr ⟨m, c⟩)]
theorem row_le {n : Nat} {ps : List Pr} {k : Nat} (h : k ∈ rowOf n ps) : k ≤ 1 := by
  unfold rowOf at h
  obtain ⟨p, m, rfl⟩ := List.mem_map.mp h
  split <;> omega
theorem row_len (n : Nat) (ps : List Pr) : (rowOf n ps).length = (pairsOf n).length := List.length_map ..
theorem opp_inj {n : Nat} {ps qs : List Pr} (w : WebOk n ps) (w' : WebOk n qs) (h : opp n ps = opp n qs) : ps = qs := by
  rw [← w.opp2, h, w'.opp2]
/-- a dP-web's equality -/
theorem dW_inj {n m : Nat} {ps qs : List Pr} (h : dW n ps = dW m qs) : n = m ∧ ps = qs := by
  simp only [dW, PyData.tuple.injEq, List.cons.injEq, PyData.int.injEq, and_true] at h
  exact ⟨by omega, dPs_inj h.2⟩
theorem cln_dW (n : Nat) (ps : List Pr) : cln (dW n ps) = true := by
  show (true && (clnAll (dPs ps) && true)) = true
  rw [cln_dPs]
  rfl
theorem eqv_dW {n m : Nat} {ps qs : List Pr} : PyData.eqv (dW n ps) (dW m qs) = decide (n = m ∧ ps = qs) := by
  rw [Bool.eq_iff_iff, eqv_iff (cln_dW _ _) (cln_dW _ _), decide_eq_true_iff]
  constructor
  · exact dW_inj
  · rintro ⟨rfl, rfl⟩
    rfl
end Lt

set_option Elab.async false
set_option linter.all false
set_option maxRecDepth 100000
set_option maxHeartbeats 4000000
namespace Lt
open PySem PySem.Spec PyProof.Rows L2
/-! ## zip(l, t), l a list, t a tuple -/
/-- the list at a and the tuple at b as they stand at each turn, the items in new pairs -/
def ItzM (K : PySem.W.Frag) (a b : Addr) : It :=
  ⟨fun i H => ∃ (xs ys : List V) (x y : V), SqL K H a xs ∧ SqT K H b ys ∧ xs[i]? = some x ∧ ys[i]? = some y,
    fun i H v H' => ∃ T x y, v = .ref T ∧ H T = none ∧ H' = upd H T (.tup [x, y]) ∧ (∀ xs, SqL K H a xs → xs[i]? = some x) ∧ ∀ ys, SqT K H b ys → ys[i]? = some y,
    fun i H => ∃ xs ys : List V, SqL K H a xs ∧ SqT K H b ys ∧ xs.length = i ∧ ys.length = i⟩
theorem sep_of {z TI TO i1 i2 a b : Addr} (D : ZipApart z TI TO i1 i2 a b) : ZipSep2 z TI TO i1 i2 [i1, a] [i2, b] where
  TIz := D.TIz
  TOz := D.TOz
  TITO := D.TITO
  TIi1 := D.TIi1
  mem1 := by simp
  zf1 := by simp [D.i1z.symm, D.l1z.symm]
  Tf1 := by simp [D.TOi1, D.l1TO.symm]
  TIi2 := D.TIi2
  mem2 := by simp
  zf2 := by simp [D.i2z.symm, D.l2z.symm]
  Tf2 := by simp [D.TOi2, D.l2TO.symm]
  sep1_2 := by simp [D.i12, D.l2i1.symm]
  sep2_1 := by simp [D.i12.symm, D.l1i2.symm]
theorem turn_zipM {P : Program} {w : World} {K : PySem.W.Frag} {elts : List Expr} {kk : Nat} {tpos : Pos} {a b z TI TO i1 i2 : Addr} (D : ZipApart z TI TO i1 i2 a b) :
    Turn P w K (.Tuple elts kk tpos) (ItzM K a b) [z, TI, TO, i1, i2] z (fun i h => IsZip h z TI TO .none ∧ IsTupOf2 h TI (.ref i1) (.ref i2) ∧ (∃ x y, IsTupOf2 h TO x y) ∧ h.IsListIter i1 a i ∧ h.IsTupleIter i2 b i) where
  mem := by simp
  obj := fun i h st c hc => by
    obtain ⟨hz, hTI, ⟨x, y, hTO⟩, ⟨o1, e1, _, d1⟩, ⟨o2, e2, _, d2⟩⟩ := st
    have e' : c = z ∨ c = TI ∨ c = TO ∨ c = i1 ∨ c = i2 := by simpa using hc
    rcases e' with q | q | q | q | q
    · rw [q]; exact ⟨_, hz, fun v q => nomatch q⟩
    · rw [q]; exact ⟨_, hTI, fun v q => nomatch q⟩
    · rw [q]; exact ⟨_, hTO, fun v q => nomatch q⟩
    · rw [q]; exact ⟨o1, e1, fun v q => by rw [d1] at q; cases q⟩
    · rw [q]; exact ⟨o2, e2, fun v q => by rw [d2] at q; cases q⟩
  keep := fun i h h' st k => by
    obtain ⟨hz, hTI, ⟨x, y, hTO⟩, h1, h2⟩ := st
    exact ⟨k z (by simp) _ hz, k TI (by simp) _ hTI, ⟨x, y, k TO (by simp) _ hTO⟩, h1.at fun o q => k i1 (by simp) o q, h2.at fun o q => k i2 (by simp) o q⟩
  item := by
    intro X hP hw hK hc i pins s σ H E I hf st hg
    subst hP hw hK
    obtain ⟨hz, hTI, ⟨x0, y0, hTO⟩, h1, h2⟩ := st
    obtain ⟨xs, ys, x, y, hqx, hqy, hx, hy⟩ := hg
    obtain ⟨its, rv, p, _⟩ := I.list hqx
    obtain ⟨its2, rv2, p2, _⟩ := I.tuple hqy
    obtain ⟨u, hu, ru⟩ := rv.get hx
    obtain ⟨u2, hu2, ru2⟩ := rv2.get hy
    have hzl : z < s.heap.objs.size := Heap.lt_size hz
    have D1 := Draws.list (prog := X.prog) (w := X.w) (A := X.A.in1) (I.ok.hd hc) i1 a D.l1i1 its.toArray
    have D2 := Draws.tuple (prog := X.prog) (w := X.w) (A := X.A.in1) (I.ok.hd hc) i2 b D.l2i2 its2.toArray
    have hlt1 : i < its.toArray.size := by
      have := (List.getElem?_eq_some_iff.mp hu).1
      simpa using this
    have hlt2 : i < its2.toArray.size := by
      have := (List.getElem?_eq_some_iff.mp hu2).1
      simpa using this
    refine wpAny_pyNext_zipD2_item (sep_of D) D1 D2 hz hTI hTO ⟨h1, p.isList⟩ ⟨h2, p2⟩ hlt1 hlt2 fun v1 v2 h' tk hv1 hv2 z' TO' st1' st2' hT hsz hk => ?_
    have e1 : v1 = u := by
      have hy' : its[i]? = some v1 := by simpa using hv1
      rw [hu] at hy'
      exact (Option.some.inj hy').symm
    have e2 : v2 = u2 := by
      have hy' : its2[i]? = some v2 := by simpa using hv2
      rw [hu2] at hy'
      exact (Option.some.inj hy').symm
    subst e1 e2
    refine ⟨_, rfl, wpAny_letOwnedTupleGo_zip (s := { s with heap := h', toks := tk }) z' fun h'' z'' sb => ?_⟩
    have hT2 : h''.get? s.heap.objs.size = some { cls := .type "tuple", data := .seq #[v1, v2] } := (sb.2 _ (Nat.ne_of_gt hzl)).trans hT
    have new : ObjOk X.prog X.w (upd H s.heap.objs.size (.tup [x, y])) h'' s.heap.objs.size (.tup [x, y]) :=
      ⟨by show 2 ≤ sizeLine; decide, [v1, v2], .cons ru (.cons ru2 .nil), ⟨_, hT2, rfl, _, rfl⟩⟩
    have I1 : Inv X pins σ (upd H s.heap.objs.size (.tup [x, y])) { s with heap := h'', toks := tk } :=
      I.turnedNew (t' := tk) (ch := [z, TI, TO, i1, i2]) (fun c o hb q => (sb.2 c (fun q' => hb (by simp [q']))).trans (hk c o (fun q' => hb (by simp [q'])) (fun q' => hb (by simp [q'])) (fun q' => hb (by simp [q'])) (fun q' => hb (by simp [q'])) q)) hf (Nat.le_refl _) new
    refine ⟨.ref s.heap.objs.size, _, I1, rfl, ⟨_, x, y, rfl, I.hok.fresh (Nat.le_refl _), rfl, fun l hl => by rw [I.list_inj hl hqx]; exact hx, fun l hl => by rw [I.tuple_inj hl hqy]; exact hy⟩, ⟨z'', ?_, ⟨v1, v2, ?_⟩, ?_, ?_⟩, fun c hcm => ?_⟩
    · exact (sb.2 _ D.TIz).trans (hk _ _ D.TIz D.TITO D.TIi1 D.TIi2 hTI)
    · exact (sb.2 _ D.TOz).trans TO'
    · exact st1'.1.at fun o q => (sb.2 _ D.i1z).trans q
    · exact st2'.1.at fun o q => (sb.2 _ D.i2z).trans q
    · have hlt : c < s.heap.objs.size := by
        have e' : c = z ∨ c = TI ∨ c = TO ∨ c = i1 ∨ c = i2 := by simpa using hcm
        rcases e' with q | q | q | q | q
        · rw [q]; exact hzl
        · rw [q]; exact Heap.lt_size hTI
        · rw [q]; exact Heap.lt_size hTO
        · rw [q]; obtain ⟨_, e1, _⟩ := h1; exact Heap.lt_size e1
        · rw [q]; obtain ⟨_, e2, _⟩ := h2; exact Heap.lt_size e2
      rw [upd_ne (Nat.ne_of_lt hlt)]
      exact (hf c hcm).1
  done := by
    intro X hP hw hK hc i pins s σ H E I hf st hg
    subst hP hw hK
    obtain ⟨hz, hTI, ⟨x0, y0, hTO⟩, h1, h2⟩ := st
    obtain ⟨xs, ys, hqx, hqy, ex, ey⟩ := hg
    obtain ⟨its, rv, p, _⟩ := I.list hqx
    obtain ⟨its2, rv2, p2, _⟩ := I.tuple hqy
    have l1 := rv.length
    have l2 := rv2.length
    have D1 := Draws.list (prog := X.prog) (w := X.w) (A := X.A.in1) (I.ok.hd hc) i1 a D.l1i1 its.toArray
    have D2 := Draws.tuple (prog := X.prog) (w := X.w) (A := X.A.in1) (I.ok.hd hc) i2 b D.l2i2 its2.toArray
    refine wpAny_pyNext_zipD2_end (sep_of D) D1 D2 hz hTI hTO ⟨h1, p.isList⟩ ⟨h2, p2⟩ (by simp; omega) (by simp; omega) (.inl (by simp; omega)) fun h' tk hk => ⟨rfl, I.turnedL (t' := tk) (ch := [z, TI, TO, i1, i2]) (fun c o hb q =>
      hk c o (fun q' => hb (by simp [q'])) (fun q' => hb (by simp [q'])) (fun q' => hb (by simp [q'])) (fun q' => hb (by simp [q'])) q) hf⟩
  self := fun A i s Q E st h => wpAny_pyIter_zip st.1 h
def iZipM (K : PySem.W.Frag) (ta : TA) : TI := fun σ H R => ta σ H fun vs H1 => ∃ a b xs ys, vs = [.ref a, .ref b] ∧ SqL K H1 a xs ∧ SqT K H1 b ys ∧ R (ItzM K a b) H1
theorem pi_zipM {X : Cx} {e e2 : Expr} {ta : TA} {p pos tpos : Pos} {elts : List Expr} {kk : Nat} (hg : Gl X "zip") (hm : X.mg "zip" = none) (ha : PA X [e, e2] ta)
    (hs : starEach [e, e2] X.env = (false, eval e X.env) :: starEach [e2] X.env := by rfl) (hpl : (backTo pos (starEach [e2] X.env)).any (·.1) = false := by rfl) :
    PI X (.Tuple elts kk tpos) (.Call (.Name "zip" p) [e, e2] [] pos) (iZipM X.K ta) := by
  refine ⟨fun pins s σ H R I h => ?_⟩
  refine Call_ (ld_blt I hg hm PyProof.Rows.boot_zip (PyProof.Rows.callWith_type1 (thn (ha.run pos pins s σ H _ I h) fun us s1 ⟨vs, H1, I1, r1, q1⟩ => ?_) hs hpl))
  obtain ⟨a, b, xs, ys, ex, hqx, hqy, q⟩ := q1
  subst ex
  cases r1 with
  | cons r rr =>
    cases rr with
    | cons r' rr =>
      cases rr
      cases r
      cases r'
      have fresh5 : ∀ c, c ∈ [s1.heap.objs.size + 4, s1.heap.objs.size + 2, s1.heap.objs.size + 3, s1.heap.objs.size, s1.heap.objs.size + 1] → FpOk X pins H1 c := fun c hcm => by
        have e' : c = s1.heap.objs.size + 4 ∨ c = s1.heap.objs.size + 2 ∨ c = s1.heap.objs.size + 3 ∨ c = s1.heap.objs.size ∨ c = s1.heap.objs.size + 1 := by simpa using hcm
        have hle : s1.heap.objs.size ≤ c := by
          rcases e' with z | z | z | z | z
          · rw [z]; exact Nat.le_add_right _ _
          · rw [z]; exact Nat.le_add_right _ _
          · rw [z]; exact Nat.le_add_right _ _
          · rw [z]; exact Nat.le_refl _
          · rw [z]; exact Nat.le_add_right _ _
        exact I1.fpOk hle (I1.hok.fresh hle)
      obtain ⟨its, rv, p1, _⟩ := I1.list hqx
      obtain ⟨its2, rv2, p2, _⟩ := I1.tuple hqy
      obtain ⟨o2, ho2, _⟩ := id p2
      refine zip_begins2 (begins_list a its.toArray) (begins_tuple b its2.toArray) p1.isList p2 fun h' hz hTI hTO h1 h2 hsz hk => wpAny_pyIter_zip hz ?_
      have I2 : Inv X pins σ H1 { s1 with heap := h' } := I1.kept (t' := s1.toks) hk
      exact ⟨s1.heap.objs.size + 4, [s1.heap.objs.size + 4, s1.heap.objs.size + 2, s1.heap.objs.size + 3, s1.heap.objs.size, s1.heap.objs.size + 1], _, _, H1, rfl, I2, turn_zipM (PySem.W.ktu_apart s1.heap.objs.size a b p1.lt (Heap.lt_size ho2)),
        ⟨hz, hTI, ⟨_, _, hTO⟩, ⟨_, h1, rfl, rfl⟩, ⟨_, h2, rfl, rfl⟩⟩, fresh5, q⟩
/-- its turns -/
theorem walk_z {K : PySem.W.Frag} {Hs : Hp} {Qd : Hp → Prop} {T : V → Hp → (Hp → Prop) → Prop} {a b : Addr} {xs ys : List V} (Pv : Nat → Hp → Prop) (h0 : Pv 0 Hs) (hl : ∀ i H, i ≤ xs.length → Pv i H → SqL K H a xs ∧ H b = some (.tup ys)) (hxy : xs.length = ys.length)
    (hs : ∀ (i : Nat) x y H p, xs[i]? = some x → ys[i]? = some y → Pv i H → H p = none → T (.ref p) (upd H p (.tup [x, y])) (Pv (i + 1))) (hd : ∀ H, Pv xs.length H → Qd H) : WalkGoal (ItzM K a b) Hs Qd T := by
  refine ⟨fun i m H => m + i = xs.length ∧ Pv i H, ⟨xs.length, by omega, h0⟩, ?_⟩
  rintro i m H ⟨e, p⟩
  obtain ⟨q1, q2⟩ := hl i H (by omega) p
  have q2 := SqT.of (K := K) q2
  by_cases c : i < xs.length
  · refine .inr ⟨⟨xs, ys, xs[i], ys[i], q1, q2, List.getElem?_eq_getElem c, List.getElem?_eq_getElem (by omega)⟩, Pv (i + 1), fun H' p' => ⟨m - 1, by omega, by omega, p'⟩, ?_⟩
    rintro x H' ⟨t, y, z, rfl, nt, rfl, ey, ez⟩
    exact hs i y z H t (ey xs q1) (ez ys q2) p nt
  · obtain rfl : i = xs.length := by omega
    exact .inl ⟨⟨xs, ys, q1, q2, rfl, hxy.symm⟩, hd H p⟩
/-- a comprehension over zip(l, t) -/
theorem lcz {K : PySem.W.Frag} {S : List Addr} {J : Hp → Prop} {M : Nat → List PyData → Prop} {g : TG} {tt : TT} {te : TE} {vs : List Nat} {σ : Slots} {H1 : Hp} {D a b : Addr} {Qd : Hp → Prop} {xs ys : List V}
    (C : LcC S J H1 D) (ha : SqL K H1 a xs) (na : a ∉ S) (hb : H1 b = some (.tup ys)) (hxy : xs.length = ys.length) (j0 : J H1) (m0 : M 0 [])
    (turn : ∀ i x y p H zs ds, xs[i]? = some x → ys[i]? = some y → LcS S J M H1 D i H zs ds → H p = none → TurnGoal S J M g tt te vs σ H1 D i (.ref p) (upd H p (.tup [x, y])))
    (done : ∀ H zs ds, LcS S J M H1 D xs.length H zs ds → Qd H) : LcGoal (ItzM K a b) g tt te vs σ H1 D Qd :=
  walk_z (K := K) (a := a) (b := b) (xs := xs) (ys := ys) (LcAny S J M H1 D) (C.zero j0 m0) (fun i H _ ⟨zs, ds, L⟩ => ⟨L.fr.seqL na ha, L.fr.tups _ _ hb⟩) hxy (fun i x y H p hx hy ⟨zs, ds, L⟩ hp => turn i x y p H zs ds hx hy L hp) (fun H ⟨zs, ds, L⟩ => done H zs ds L)
/-! ## sum of a tuple of ints -/
def rSumT (K : PySem.W.Frag) : List V → Hp → VK → Prop := fun vs H Q => ∃ (a : Addr) (ns : List Int), vs = [V.ref a] ∧ SqT K H a (ns.map V.int) ∧ Q (.int ns.sum) H
theorem cr_sumT {X : Cx} (hc : X.calm = true) : CallR X (.builtin "sum") (rSumT X.K) := by
  intro pins s σ H vs us Q I r h
  obtain ⟨a, ns, rfl, hs, q⟩ := h
  obtain ⟨its, rv, hl, _⟩ := I.tuple hs
  rw [Vals.ref1 r]
  have hi := rv.ints
  obtain ⟨xs, e⟩ := hi.allInts.items
  have hn : numsOf (intItems xs).toList = ns := by rw [← e]; exact hi.numsOf
  rw [nums_intItems] at hn
  have hl : s.heap.IsTuple a its.toArray := hl
  rw [e] at hl
  refine PySem.W.ktm_sumG (I.ok.hd hc) hl fun h' tk t' hk => ?_
  rw [preSum_eq, List.take_of_length_le (by simp), hn]
  exact ⟨.int _, H, I.kept hk, ⟨_, rfl⟩, q⟩
theorem sumTK {X : Cx} (K : PySem.W.Frag) (hc : X.calm = true) (h : X.K = K := by rfl) : CallR X (.builtin "sum") (rSumT K) := h ▸ cr_sumT hc
end Lt

set_option Elab.async false
set_option linter.all false
set_option maxRecDepth 100000
set_option maxHeartbeats 4000000
namespace Lt
open PySem PySem.Spec PyProof.Rows L2
/-! ## tables: lists of lists of bools -/
abbrev rowV (n : Nat) (g : Nat → Bool) : List V := (List.range n).map fun j => V.bl (g j)
/-- the table at a: its n rows of n bools each -/
structure Tab (H : Hp) (a : Addr) (rows : List Addr) (n : Nat) (f : Nat → Nat → Bool) : Prop where
  at_ : H a = some (.lst (rows.map V.ref))
  len : rows.length = n
  nd : rows.Nodup
  off : a ∉ rows
  row : ∀ i b, rows[i]? = some b → H b = some (.lst (rowV n (f i)))
theorem rowV_at {n j : Nat} {g : Nat → Bool} (h : j < n) : (rowV n g)[j]? = some (.bl (g j)) := by
  unfold rowV
  rw [List.getElem?_map, List.getElem?_range h]
  rfl
theorem rowV_len (n : Nat) (g : Nat → Bool) : (rowV n g).length = n := by
  unfold rowV
  rw [List.length_map, List.length_range]
theorem rowV_set {n j : Nat} {g : Nat → Bool} {x : Bool} : (rowV n g).set j (.bl x) = rowV n (fun k => if k = j then x else g k) := by
  apply List.ext_getElem?
  intro k
  rw [List.getElem?_set]
  unfold rowV
  rw [List.getElem?_map, List.getElem?_map]
  by_cases hk : k < n
  · rw [List.getElem?_range hk]
    by_cases e : j = k
    · subst e
      simp [hk]
    · simp [e, Ne.symm e]
  · rw [List.getElem?_eq_none (by rw [List.length_range]; omega)]
    by_cases e : j = k
    · subst e
      simp [hk]
    · simp [e]
theorem rowV_congr {n : Nat} {g g' : Nat → Bool} (h : ∀ j, j < n → g j = g' j) : rowV n g = rowV n g' := by
  unfold rowV
  exact List.map_congr_left fun j m => by rw [h j (List.mem_range.mp m)]
section
variable {H H' : Hp} {a b : Addr} {rows : List Addr} {n : Nat} {f g : Nat → Nat → Bool} {S : List Addr}
theorem Tab.fr (t : Tab H a rows n f) (h : Fr S H H') (ha : a ∉ S) (hr : ∀ b ∈ rows, b ∉ S) : Tab H' a rows n f :=
  ⟨h.keep _ _ t.at_ ha, t.len, t.nd, t.off, fun i b e => h.keep _ _ (t.row i b e) (hr b (List.mem_of_getElem? e))⟩
theorem Tab.fr0 (t : Tab H a rows n f) (h : Fr [] H H') : Tab H' a rows n f := t.fr h List.not_mem_nil fun _ _ => List.not_mem_nil
theorem Tab.ext (t : Tab H a rows n f) (h : ∀ i j, i < n → j < n → f i j = g i j) : Tab H a rows n g :=
  ⟨t.at_, t.len, t.nd, t.off, fun i b e => by
    have hi : i < n := by
      have := (List.getElem?_eq_some_iff.mp e).1
      have := t.len
      omega
    rw [← rowV_congr (h i · hi)]
    exact t.row i b e⟩
theorem Tab.get (t : Tab H a rows n f) {i : Nat} (hi : i < n) : ∃ b, rows[i]? = some b ∧ (rows.map V.ref)[i]? = some (V.ref b) ∧ H b = some (.lst (rowV n (f i))) := by
  have hl : i < rows.length := by rw [t.len]; exact hi
  refine ⟨rows[i], List.getElem?_eq_getElem hl, ?_, t.row i _ (List.getElem?_eq_getElem hl)⟩
  rw [List.getElem?_map, List.getElem?_eq_getElem hl]
  rfl
def setF (f : Nat → Nat → Bool) (i j : Nat) (x : Bool) : Nat → Nat → Bool := fun p q => if p = i ∧ q = j then x else f p q
theorem Tab.put (t : Tab H a rows n f) {i j : Nat} {x : Bool} (hb : rows[i]? = some b) : Tab (upd H b (.lst ((rowV n (f i)).set j (.bl x)))) a rows n (setF f i j x) := by
  have mb := List.mem_of_getElem? hb
  have na : a ≠ b := fun z => t.off (z ▸ mb)
  refine ⟨by rw [upd_ne na]; exact t.at_, t.len, t.nd, t.off, fun k c e => ?_⟩
  by_cases hk : k = i
  · subst hk
    rw [hb] at e
    cases e
    rw [upd_same, rowV_set]
    congr 2
    refine rowV_congr fun q _ => ?_
    unfold setF
    simp
  · have ne : c ≠ b := by
      intro z
      subst z
      have h1 := (List.getElem?_eq_some_iff.mp e)
      have h2 := (List.getElem?_eq_some_iff.mp hb)
      exact hk ((List.getElem_inj t.nd).mp (h1.2.trans h2.2.symm))
    rw [upd_ne ne, t.row k c e]
    congr 2
    refine rowV_congr fun q _ => ?_
    unfold setF
    simp [hk]
theorem Tab.putFr (t : Tab H a rows n f) {i j : Nat} {x : Bool} (hb : rows[i]? = some b) : Fr rows H (upd H b (.lst ((rowV n (f i)).set j (.bl x)))) :=
  Fr.refl.set (.inr (List.mem_of_getElem? hb)) (fun xs z => by rw [t.row i b hb] at z; cases z)
theorem ix_of {n : Nat} {g : Nat → Bool} {j : Nat} (h : j < n) : ixN (rowV n g).length (j : Int) = some j := by
  rw [rowV_len]
  unfold ixN
  rw [if_pos (by omega), if_pos (by omega)]
  simp
/-- what stood ahead is as it was, if only new cells were changed -/
theorem Fr.drop {H0 H1 H2 : Hp} (h1 : Fr [] H0 H1) (h2 : Fr S H1 H2) (n : ∀ b ∈ S, H0 b = none) : Fr [] H0 H2 :=
  ⟨fun b o e _ => h2.keep b o (h1.keep b o e List.not_mem_nil) fun m => (by rw [n b m] at e; cases e), fun b xs e => h2.tups b xs (h1.tups b xs e), fun b e => h2.live b (h1.live b e)⟩
end
/-! ## what stands in the tables -/
theorem tied_snoc {ps : List Pr} {p : Pr} (hp : p.1 < p.2) (i j : Nat) : setF (setF (tied ps) p.1 p.2 true) p.2 p.1 true i j = tied (ps ++ [p]) i j := by
  unfold setF tied
  obtain ⟨a, b⟩ := p
  simp only at hp
  by_cases c1 : i = b ∧ j = a
  · simp only [c1, and_self, if_true]
    symm
    rw [decide_eq_true_iff, List.mem_append]
    right
    rw [List.mem_singleton]
    simp only [Prod.mk.injEq]
    omega
  · rw [if_neg c1]
    by_cases c2 : i = a ∧ j = b
    · simp only [c2, and_self, if_true]
      symm
      rw [decide_eq_true_iff, List.mem_append]
      right
      rw [List.mem_singleton]
      simp only [Prod.mk.injEq]
      omega
    · rw [if_neg c2]
      congr 1
      apply propext
      rw [List.mem_append, List.mem_singleton]
      constructor
      · exact fun h => .inl h
      · rintro (h | h)
        · exact h
        · simp only [Prod.mk.injEq] at h
          omega
def fromT (n : Nat) (f : Nat → Nat → Bool) : List Pr := (pairsOf n).filter fun p => f p.1 p.2
theorem fromT_tied {n : Nat} {ps : List Pr} (w : WebOk n ps) : fromT n (tied ps) = ps := by
  unfold fromT
  refine Eq.trans (filter_congr' fun p m => ?_) w.eq
  unfold tied
  have := mem_pairsOf.mp m
  have e : (min p.1 p.2, max p.1 p.2) = p := by
    obtain ⟨a, b⟩ := p
    simp only at this
    simp only [Prod.mk.injEq]
    omega
  rw [e]
theorem fromT_ok {n : Nat} (f : Nat → Nat → Bool) (h1 : 1 ≤ n) (h2 : n ≤ 12) : WebOk n (fromT n f) :=
  ⟨h1, h2, (pairsTo_up n n).sublist List.filter_sublist, fun p m => (List.mem_filter.mp m).1⟩
/-- whether p tells i and j apart in a table -/
def tellB (f : Nat → Nat → Bool) (p i j : Nat) : Bool := !decide (p = i ∨ p = j) && (f p i != f p j)
/-- what a deed's four changes do -/
def flipP (f : Nat → Nat → Bool) (s p : Nat) : Nat → Nat → Bool := setF (setF f s p (!f s p)) p s (!f s p)
def outF (f : Nat → Nat → Bool) (S Ps : List Nat) : Nat → Nat → Bool := S.foldl (fun f s => Ps.foldl (fun f p => flipP f s p) f) f
def handF (f : Nat → Nat → Bool) (a d b c : Nat) : Nat → Nat → Bool := outF f [a, d] [b, c]
end Lt

set_option Elab.async false
set_option linter.all false
set_option maxRecDepth 100000
set_option maxHeartbeats 4000000
namespace Lt
open PySem PySem.Spec PyProof.Rows L2
/-! ## the other ends of the ties of a place -/
abbrev endF (i : Nat) : Pr → Option Nat := fun p => if i = p.1 ∨ i = p.2 then some (p.1 + p.2 - i) else none
def ends (ps : List Pr) (i : Nat) : List Nat := ps.filterMap (endF i)
theorem mem_ends {n : Nat} {ps : List Pr} (w : WebOk n ps) {i j : Nat} (hi : i < n) : j ∈ ends ps i ↔ j ∈ nbs n ps i := by
  unfold ends nbs
  rw [List.mem_filterMap, List.mem_filter, List.mem_range]
  unfold tied
  rw [decide_eq_true_iff]
  constructor
  · rintro ⟨p, m, e⟩
    have hp := mem_pairsOf.mp (w.ins p m)
    by_cases c : i = p.1 ∨ i = p.2
    · simp only [endF, c, if_true, Option.some.injEq] at e
      refine ⟨by omega, ?_⟩
      have : (min i j, max i j) = p := by
        obtain ⟨a, b⟩ := p
        simp only at hp c e
        simp only [Prod.mk.injEq]
        omega
      rw [this]
      exact m
    · simp only [endF, c, if_false] at e
      cases e
  · rintro ⟨hj, m⟩
    have hp := mem_pairsOf.mp (w.ins _ m)
    simp only at hp
    refine ⟨_, m, ?_⟩
    have c : i = min i j ∨ i = max i j := by omega
    simp only [endF, c, if_true, Option.some.injEq]
    omega
theorem ends_nodup {n : Nat} {ps : List Pr} (w : WebOk n ps) (i : Nat) : (ends ps i).Nodup := by
  unfold ends
  refine List.pairwise_filterMap.mpr ((up_nodup w.up).imp_of_mem ?_)
  intro p q mp mq hne x hx y hy e
  subst e
  have hp := mem_pairsOf.mp (w.ins p mp)
  have hq := mem_pairsOf.mp (w.ins q mq)
  apply hne
  obtain ⟨a, b⟩ := p
  obtain ⟨c, d⟩ := q
  simp only at hp hq
  simp only [endF] at hx hy
  split at hx
  · split at hy
    · simp only [Option.some.injEq] at hx hy
      simp only [Prod.mk.injEq]
      omega
    · cases hy
  · cases hx
theorem ends_perm {n : Nat} {ps : List Pr} (w : WebOk n ps) {i : Nat} (hi : i < n) : (ends ps i).Perm (nbs n ps i) :=
  (List.perm_ext_iff_of_nodup (ends_nodup w i) ((List.nodup_range).sublist List.filter_sublist)).mpr fun _ => mem_ends w hi
theorem nbs_sorted (n : Nat) (ps : List Pr) (i : Nat) : (nbs n ps i).Pairwise (· ≤ ·) := (List.pairwise_le_range).sublist List.filter_sublist
theorem sorted_nats {ns' : List Int} {l m : List Nat} (h : ns'.Perm (l.map fun i => ((i : Nat) : Int))) (hs : ns'.Pairwise (· ≤ ·)) (p : l.Perm m) (hm : m.Pairwise (· ≤ ·)) : ns' = m.map fun i => ((i : Nat) : Int) :=
  List.Perm.eq_of_pairwise (fun _ _ _ _ a b => Int.le_antisymm a b) hs (List.pairwise_map.mpr (hm.imp fun h => by omega)) (h.trans (p.map _))
/-! ## each tie has two ends -/
theorem sum_ends (a b : Nat) (h : a < b) : ∀ n, ((List.range n).map fun i => if i = a ∨ i = b then 1 else 0).sum = (if a < n then 1 else 0) + (if b < n then 1 else 0)
  | 0 => by simp
  | n + 1 => by
    rw [List.range_succ, List.map_append, List.sum_append, sum_ends a b h n]
    simp only [List.map_cons, List.map_nil, List.sum_cons, List.sum_nil]
    split <;> split <;> split <;> split <;> split <;> omega
theorem sum_add {α : Type} (f g : α → Nat) : ∀ l : List α, (l.map fun x => f x + g x).sum = (l.map f).sum + (l.map g).sum
  | [] => rfl
  | x :: l => by
    simp only [List.map_cons, List.sum_cons]
    rw [sum_add f g l]
    omega
theorem ends_sum (n : Nat) : ∀ ps : List Pr, (∀ p ∈ ps, p.1 < p.2 ∧ p.2 < n) → ((List.range n).map fun i => (ends ps i).length).sum = 2 * ps.length
  | [], _ => by
    have : ∀ l : List Nat, (l.map fun i => (ends [] i).length).sum = 0 := by
      intro l
      induction l with
      | nil => rfl
      | cons x l ih => rw [List.map_cons, List.sum_cons, ih]; rfl
    rw [this]
    rfl
  | p :: ps, h => by
    have hp := h p List.mem_cons_self
    have ih := ends_sum n ps fun q m => h q (List.mem_cons_of_mem _ m)
    have e : ∀ i : Nat, (ends (p :: ps) i).length = (if i = p.1 ∨ i = p.2 then 1 else 0) + (ends ps i).length := fun i => by
      unfold ends
      rw [List.filterMap_cons]
      by_cases c : i = p.1 ∨ i = p.2
      · simp only [endF, c, if_true, List.length_cons]
        omega
      · simp only [endF, c, if_false]
        omega
    rw [List.map_congr_left fun i _ => e i, sum_add, ih, sum_ends p.1 p.2 hp.1, List.length_cons, if_pos hp.2, if_pos (by omega)]
    omega
theorem nums_sum {n : Nat} {ps : List Pr} (w : WebOk n ps) : (nums n ps).sum = 2 * ps.length := by
  rw [← ends_sum n ps fun p m => mem_pairsOf.mp (w.ins p m)]
  unfold nums
  congr 1
  exact List.map_congr_left fun i m => (ends_perm w (List.mem_range.mp m)).length_eq.symm
theorem odd_count (f : Nat → Nat) : ∀ l : List Nat, (l.filter fun i => f i % 2 == 1).length % 2 = (l.map f).sum % 2
  | [] => rfl
  | x :: l => by
    have ih := odd_count f l
    rw [List.filter_cons, List.map_cons, List.sum_cons]
    by_cases c : f x % 2 = 1
    · rw [if_pos (by rw [c]; rfl), List.length_cons]
      omega
    · rw [if_neg (by simpa using c)]
      omega
theorem odds_even {n : Nat} {ps : List Pr} (w : WebOk n ps) : (odds n ps).length % 2 = 0 := by
  have h := odd_count (fun i => (nbs n ps i).length) (List.range n)
  have s := nums_sum w
  unfold nums at s
  unfold odds
  rw [h, s]
  omega
end Lt

set_option Elab.async false
set_option linter.all false
set_option maxRecDepth 100000
set_option maxHeartbeats 4000000
namespace Lt
open PySem PySem.Spec PyProof.Rows L2
/-! ## what deeds keep -/
def at2 (s p i j : Nat) : Bool := decide ((i = s ∧ j = p) ∨ (i = p ∧ j = s))
def xorP (f : Nat → Nat → Bool) (s p : Nat) : Nat → Nat → Bool := fun i j => f i j != at2 s p i j
def Sym (f : Nat → Nat → Bool) : Prop := ∀ i j, f i j = f j i
theorem tied_sym (ps : List Pr) : Sym (tied ps) := fun i j => by
  unfold tied
  rw [Nat.min_comm, Nat.max_comm]
theorem at2_sym (s p i j : Nat) : at2 s p i j = at2 s p j i := by
  unfold at2
  congr 1
  apply propext
  omega
theorem Sym.xorP {f : Nat → Nat → Bool} (h : Sym f) (s p : Nat) : Sym (xorP f s p) := fun i j => by
  unfold Lt.xorP
  rw [h i j, at2_sym]
theorem flip_xor {f : Nat → Nat → Bool} (h : Sym f) (s p : Nat) : flipP f s p = xorP f s p := by
  funext i j
  unfold flipP setF xorP at2
  by_cases c1 : i = p ∧ j = s
  · rw [if_pos c1, decide_eq_true (.inr c1), c1.1, c1.2, h p s]
    cases f s p <;> rfl
  · rw [if_neg c1]
    by_cases c2 : i = s ∧ j = p
    · rw [if_pos c2, decide_eq_true (.inl c2), c2.1, c2.2]
      cases f s p <;> rfl
    · rw [if_neg c2, decide_eq_false (by rintro (z | z); exact c2 z; exact c1 z)]
      cases f i j <;> rfl
theorem hand_xor {f : Nat → Nat → Bool} (h : Sym f) (a d b c : Nat) : handF f a d b c = xorP (xorP (xorP (xorP f a b) a c) d b) d c := by
  show flipP (flipP (flipP (flipP f a b) a c) d b) d c = _
  rw [flip_xor h, flip_xor (h.xorP _ _), flip_xor ((h.xorP _ _).xorP _ _), flip_xor (((h.xorP _ _).xorP _ _).xorP _ _)]
/-- how many there are of a row -/
def cnt (n : Nat) (g : Nat → Bool) : Nat := ((List.range n).filter g).length
theorem cnt_succ (n : Nat) (g : Nat → Bool) : cnt (n + 1) g = cnt n g + (if g n then 1 else 0) := by
  unfold cnt
  rw [List.range_succ, List.filter_append, List.length_append]
  cases e : g n <;> simp [e]
abbrev sg (x : Bool) : Int := if x then -1 else 1
theorem cnt_flip (g g' : Nat → Bool) (k : Nat) (hk : g' k = !g k) (ho : ∀ j, j ≠ k → g' j = g j) : ∀ n, (cnt n g' : Int) = cnt n g + (if k < n then sg (g k) else 0)
  | 0 => by simp [cnt]
  | n + 1 => by
    have ih := cnt_flip g g' k hk ho n
    rw [cnt_succ, cnt_succ]
    by_cases e : n = k
    · subst e
      rw [if_neg (Nat.lt_irrefl _)] at ih
      rw [if_pos (Nat.lt_succ_self _), hk]
      unfold sg
      cases g n <;> simp <;> omega
    · rw [ho n e]
      have hc : (if k < n + 1 then sg (g k) else 0) = (if k < n then sg (g k) else 0) := by
        by_cases c : k < n
        · rw [if_pos c, if_pos (by omega)]
        · rw [if_neg c, if_neg (by omega)]
      rw [hc]
      omega
def dl (f : Nat → Nat → Bool) (s p i : Nat) : Int := if i = s then sg (f s p) else if i = p then sg (f s p) else 0
theorem cnt_xor {f : Nat → Nat → Bool} (h : Sym f) {s p n : Nat} (hs : s < n) (hp : p < n) (hne : s ≠ p) (i : Nat) : (cnt n (xorP f s p i) : Int) = cnt n (f i) + dl f s p i := by
  unfold dl
  by_cases c1 : i = s
  · subst c1
    rw [if_pos rfl]
    have := cnt_flip (f i) (xorP f i p i) p (by unfold xorP at2; cases f i p <;> simp) (fun j hj => by unfold xorP at2; rw [decide_eq_false (by omega)]; cases f i j <;> rfl) n
    rw [if_pos hp] at this
    exact this
  · rw [if_neg c1]
    by_cases c2 : i = p
    · subst c2
      rw [if_pos rfl]
      have := cnt_flip (f i) (xorP f s i i) s (by unfold xorP at2; cases f i s <;> simp) (fun j hj => by unfold xorP at2; rw [decide_eq_false (by omega)]; cases f i j <;> rfl) n
      rw [if_pos hs, h i s] at this
      exact this
    · rw [if_neg c2]
      have : xorP f s p i = f i := by
        funext j
        unfold xorP at2
        rw [decide_eq_false (by omega)]
        cases f i j <;> rfl
      rw [this]
      omega
theorem xor_at {f : Nat → Nat → Bool} {s p i j : Nat} (h : ¬ ((i = s ∧ j = p) ∨ (i = p ∧ j = s))) : xorP f s p i j = f i j := by
  unfold xorP at2
  rw [decide_eq_false h]
  cases f i j <;> rfl
structure Apart4 (a d b c : Nat) : Prop where
  ad : a ≠ d
  ab : a ≠ b
  ac : a ≠ c
  db : d ≠ b
  dc : d ≠ c
  bc : b ≠ c
theorem cnt_hand {f : Nat → Nat → Bool} (h : Sym f) {a d b c n : Nat} (A : Apart4 a d b c) (ha : a < n) (hd : d < n) (hb : b < n) (hc : c < n) (i : Nat) :
    (cnt n (handF f a d b c i) : Int) = cnt n (f i) + ((((if i = a then sg (f a b) else if i = b then sg (f a b) else 0) + (if i = a then sg (f a c) else if i = c then sg (f a c) else 0)) + (if i = d then sg (f d b) else if i = b then sg (f d b) else 0)) + (if i = d then sg (f d c) else if i = c then sg (f d c) else 0)) := by
  obtain ⟨n1, n2, n3, n4, n5, n6⟩ := A
  rw [hand_xor h, cnt_xor (((h.xorP _ _).xorP _ _).xorP _ _) hd hc n5, cnt_xor ((h.xorP _ _).xorP _ _) hd hb n4, cnt_xor (h.xorP _ _) ha hc n3, cnt_xor h ha hb n2]
  unfold dl
  have e1 : xorP f a b a c = f a c := xor_at (by omega)
  have e2 : xorP (xorP f a b) a c d b = f d b := (xor_at (by omega)).trans (xor_at (by omega))
  have e3 : xorP (xorP (xorP f a b) a c) d b d c = f d c := ((xor_at (by omega)).trans (xor_at (by omega))).trans (xor_at (by omega))
  rw [e1, e2, e3]
  omega
/-- how each place's number changes -/
def dueOf (f : Nat → Nat → Bool) (a d b c i : Nat) : Int := if f b a == f c a then (if i = a then (if f b a then -2 else 2) else if i = d then (if f b a then 2 else -2) else 0) else 0
theorem cnt_due {f : Nat → Nat → Bool} (h : Sym f) {a d b c n : Nat} (A : Apart4 a d b c) (ha : a < n) (hd : d < n) (hb : b < n) (hc : c < n) (t1 : f b a ≠ f b d) (t2 : f c a ≠ f c d) (i : Nat) :
    (cnt n (handF f a d b c i) : Int) = cnt n (f i) + dueOf f a d b c i := by
  rw [cnt_hand h A ha hd hb hc, h a b, h a c, h d b, h d c]
  obtain ⟨n1, n2, n3, n4, n5, n6⟩ := A
  unfold dueOf sg
  congr 1
  generalize f b a = x1 at *
  generalize f b d = x2 at *
  generalize f c a = x3 at *
  generalize f c d = x4 at *
  by_cases i1 : i = a
  · have : i ≠ d := by omega
    have : i ≠ b := by omega
    have : i ≠ c := by omega
    cases x1 <;> cases x2 <;> cases x3 <;> cases x4 <;> simp_all
  · by_cases i2 : i = d
    · have : i ≠ b := by omega
      have : i ≠ c := by omega
      cases x1 <;> cases x2 <;> cases x3 <;> cases x4 <;> simp_all
    · by_cases i3 : i = b
      · have : i ≠ c := by omega
        cases x1 <;> cases x2 <;> cases x3 <;> cases x4 <;> simp_all
      · by_cases i4 : i = c
        · cases x1 <;> cases x2 <;> cases x3 <;> cases x4 <;> simp_all
        · simp [i1, i2, i3, i4]
end Lt

set_option Elab.async false
set_option linter.all false
set_option maxRecDepth 100000
set_option maxHeartbeats 4000000
namespace Lt
open PySem PySem.Spec PyProof.Rows L2
/-! ## sorted(t), t a tuple of pairs of ints -/
theorem sorted_tup {prog : Program} {w : World} {A : Around} {E : Value → Shared → Prop} {s : Shared} {l : Addr} {vs : List Value} {k : Value → Int × Int} {Q : Value → Shared → Prop} (hl : s.heap.IsTuple l vs.toArray) (hz : vs.length ≤ sizeLine) (hp : ∀ v ∈ vs, Srt.IsPair s.heap v (k v).1 (k v).2)
    (h : ∀ (h' : Heap) (d : Addr) (out : List Value), SrtO.Srtd (fun v u => SrtO.lexB (k v) (k u)) out → SrtO.Stb (fun v u => SrtO.lexB (k v) (k u)) out vs → (∀ b o, s.heap.get? b = some o → h'.get? b = some o) → (∃ hm : Heap, (∀ b o, s.heap.get? b = some o → hm.get? b = some o) ∧ hm.objs.size = d) → (∃ n, h'.get? d = some (seqObj "list" out.toArray n)) → Q (.ref d) { s with heap := h' }) :
    wpAny (model prog w) A (call (.builtin "sorted") [.ref l]) Q E s := by
  obtain ⟨ol, hol, hc, nl, hd⟩ := id hl
  refine Calls.call_function_entry kind_sorted plain_sorted entry_sorted (args_sorted1 _) ?_
  unfold Builtin.«sorted»
  refine wpAny_bind (m := checkCount "sorted" 1 1 _) (wpAny_pure ?_)
  refine wpAny_bind (wpAny_collect_seq l (T := "tuple") (.inr rfl) hol hc hd (fun h1 k1 => ?_) (by rw [List.size_toArray]; exact hz))
  refine wpAny_bind (wpAny_newList ?_ hz)
  have hoL : (h1.push (seqObj "list" vs.toArray 0)).get? h1.objs.size = some (seqObj "list" vs.toArray 0) := Heap.get?_push_size _ rfl
  have kp : ∀ b o, s.heap.get? b = some o → b ≠ h1.objs.size ∧ (h1.push (seqObj "list" vs.toArray 0)).get? b = some o := fun b o q =>
    ⟨Nat.ne_of_lt (Heap.lt_size (k1 b o q)), Heap.get?_push_of_some _ (k1 b o q)⟩
  show wpAny _ _ _ _ _ { s with heap := h1.push (seqObj "list" vs.toArray 0) }
  refine wpAny_bind (wpAny_holding (wpAny_call_entry slot_list_sort ⟨_, hoL, rfl⟩ entry_list_sort (SrtO.list_sort_ord (SrtO.swo_lex k) hoL hz (fun h2 => ?_) fun out hs hb => ⟨_, rfl, ?_⟩) (args_list_sort _)))
  · refine SrtO.pairs_sortableO (s := { s with heap := h1.push (seqObj "list" vs.toArray 0) }) (by omega) (fun v hm => (hp v hm).keeps fun b o e _ => (kp b o e).2) fun o e => ?_
    have e' : some o = some (seqObj "list" vs.toArray 0) := e.symm.trans hoL
    cases e'
    intro c
    exact absurd (Value.type.inj c) (by decide)
  · refine wpAny_pure ⟨_, rfl, h _ h1.objs.size out hs hb (fun b o q => ?_) ⟨h1, k1, rfl⟩ (sortedHeap_at hoL)⟩
    obtain ⟨a1, a2⟩ := kp b o q
    rw [sortedHeap_old a1 (Heap.lt_size a2)]
    exact a2
/-- sorted(t), t a tuple of pairs of ints -/
def rSortedTP (K : PySem.W.Frag) : List V → Hp → VK → Prop := fun vs H Q => ∃ (a : Addr) (xs : List V) (k : V → Int × Int), vs = [V.ref a] ∧ SqT K H a xs ∧ (∀ x ∈ xs, ∃ t, x = V.ref t ∧ H t = some (.tup [.int (k x).1, .int (k x).2])) ∧
  ∀ ys p, SrtO.Srtd (ltP k) ys → SrtO.Stb (ltP k) ys xs → H p = none → Q (.ref p) (upd H p (.lst ys))
theorem cr_sortedTP {X : Cx} : CallR X (.builtin "sorted") (rSortedTP X.K) := by
  intro pins s σ H vs us Q I r h
  obtain ⟨a, xs, k, rfl, hs, hx, q⟩ := h
  obtain ⟨its, rv, hl, hz⟩ := I.tuple hs
  have hl : s.heap.IsTuple a its.toArray := hl
  obtain ⟨u, rfl, ru⟩ := vals1 r
  obtain rfl : u = Value.ref a := ru
  obtain ⟨e1, e2⟩ := refs_back rv fun x m => by
    obtain ⟨t, e, _⟩ := hx x m
    exact ⟨t, e⟩
  refine sorted_tup (k := fun u => k (backV u)) hl (by rw [← rv.length]; exact hz) (fun v hv => ?_) fun h' d out h1 h2 kp hd hn => ?_
  · obtain ⟨t, rfl⟩ := e2 v hv
    have hm : V.ref t ∈ xs := by rw [e1]; exact List.mem_map.mpr ⟨_, hv, rfl⟩
    obtain ⟨t', e, ht⟩ := hx _ hm
    cases e
    obtain ⟨_, its2, r2, o, ho, hc, n, hd⟩ := I.hok _ _ ht
    obtain ⟨u1, u2, rfl, ri, rj⟩ := vals2 r2
    obtain ⟨t1, rfl⟩ := ri
    obtain ⟨t2, rfl⟩ := rj
    exact ⟨t, o, t1, t2, n, rfl, ho, hc, hd⟩
  · have h3 : ∀ u ∈ out, ∃ a, u = Value.ref a := fun u hu => e2 u (h2.perm.mem_iff.mp hu)
    obtain ⟨n, hn⟩ := hn
    obtain ⟨hm, km, em⟩ := hd
    have hb : SrtO.Stb (ltP k) (out.map backV) xs := by
      rw [e1]
      exact SrtO.Stb.map (ltP_swo k) backV h2
    have nd : H d = none := (I.hok.kept km).fresh (Nat.le_of_eq em)
    have nh : s.heap.get? d = none := by
      cases c : s.heap.get? d with
      | none => rfl
      | some o =>
        have := Heap.lt_size (km _ _ c)
        rw [em] at this
        exact absurd this (Nat.lt_irrefl _)
    refine ⟨.ref d, upd H d (.lst (out.map backV)), I.laidN (t' := s.toks) kp nh nd ⟨?_, out, n, vals_back h3, hn⟩, rfl, q _ d (SrtO.srtd_map h1) hb nd⟩
    rw [hb.len]
    exact hz
theorem sortedTPK {X : Cx} (K : PySem.W.Frag) (h : X.K = K := by rfl) : CallR X (.builtin "sorted") (rSortedTP K) := h ▸ cr_sortedTP
end Lt

set_option Elab.async false
set_option linter.all false
set_option maxRecDepth 100000
set_option maxHeartbeats 4000000
namespace Lt
open PySem PySem.Spec PyProof.Rows L2
/-! ## ties gone and come -/
abbrev nm (i j : Nat) : Pr := (min i j, max i j)
abbrev X4 (a d b c : Nat) : List Pr := [nm a b, nm a c, nm d b, nm d c]
theorem sym_nm {h : Nat → Nat → Bool} (s : Sym h) (i j : Nat) : h (min i j) (max i j) = h i j := by
  by_cases c : i ≤ j
  · rw [Nat.min_eq_left c, Nat.max_eq_right c]
  · rw [Nat.min_eq_right (by omega), Nat.max_eq_left (by omega)]
    exact s j i
theorem hand_sym {f : Nat → Nat → Bool} (h : Sym f) (a d b c : Nat) : Sym (handF f a d b c) := by
  rw [hand_xor h]
  exact (((h.xorP _ _).xorP _ _).xorP _ _).xorP _ _
theorem xor_self (f : Nat → Nat → Bool) (s p : Nat) : xorP f s p s p = !f s p := by
  unfold xorP at2
  cases f s p <;> simp
theorem hand_in4 {f : Nat → Nat → Bool} (h : Sym f) {a d b c : Nat} (A : Apart4 a d b c) : handF f a d b c a b = !f a b ∧ handF f a d b c a c = !f a c ∧ handF f a d b c d b = !f d b ∧ handF f a d b c d c = !f d c := by
  obtain ⟨n1, n2, n3, n4, n5, n6⟩ := A
  rw [hand_xor h]
  refine ⟨?_, ?_, ?_, ?_⟩
  · rw [xor_at (by omega), xor_at (by omega), xor_at (by omega), xor_self]
  · rw [xor_at (by omega), xor_at (by omega), xor_self, xor_at (by omega)]
  · rw [xor_at (by omega), xor_self, xor_at (by omega), xor_at (by omega)]
  · rw [xor_self, xor_at (by omega), xor_at (by omega), xor_at (by omega)]
theorem hand_out {f : Nat → Nat → Bool} (h : Sym f) {a d b c : Nat} {p : Pr} (hp : p.1 < p.2) (hx : p ∉ X4 a d b c) : handF f a d b c p.1 p.2 = f p.1 p.2 := by
  obtain ⟨x, y⟩ := p
  simp only [List.mem_cons, List.not_mem_nil, or_false, not_or, Prod.mk.injEq] at hx
  simp only at hp
  rw [hand_xor h, xor_at (by omega), xor_at (by omega), xor_at (by omega), xor_at (by omega)]
theorem tied_nm (ps : List Pr) (i j : Nat) : tied ps i j = decide (nm i j ∈ ps) := rfl
theorem mem_from {n : Nat} {g : Nat → Nat → Bool} {p : Pr} : p ∈ fromT n g ↔ (p.1 < p.2 ∧ p.2 < n) ∧ g p.1 p.2 = true := by
  unfold fromT
  rw [List.mem_filter, mem_pairsOf]
theorem tied_from {n : Nat} {g : Nat → Nat → Bool} (s : Sym g) {i j : Nat} (hi : i < n) (hj : j < n) (hne : i ≠ j) : tied (fromT n g) i j = g i j := by
  rw [tied_nm, Bool.eq_iff_iff, decide_eq_true_iff, mem_from, sym_nm s]
  exact ⟨fun z => z.2, fun z => ⟨by simp only; omega, z⟩⟩
theorem mem_tied {n : Nat} {ps : List Pr} (w : WebOk n ps) {p : Pr} : p ∈ ps ↔ (p.1 < p.2 ∧ p.2 < n) ∧ tied ps p.1 p.2 = true := by
  have e := fromT_tied w
  constructor
  · intro m
    rw [← e] at m
    exact mem_from.mp m
  · intro m
    rw [← e]
    exact mem_from.mpr m
theorem x4_nodup {a d b c : Nat} (A : Apart4 a d b c) : (X4 a d b c).Nodup := by
  obtain ⟨n1, n2, n3, n4, n5, n6⟩ := A
  simp only [List.nodup_cons, List.mem_cons, List.not_mem_nil, or_false, not_or, Prod.mk.injEq, List.nodup_nil, and_true, not_false_eq_true]
  omega
section
variable {n : Nat} {ps : List Pr} {a d b c : Nat}
theorem x4_flip (w : WebOk n ps) (A : Apart4 a d b c) (ha : a < n) (hd : d < n) (hb : b < n) (hc : c < n) {p : Pr} (hp : p ∈ X4 a d b c) : (p.1 < p.2 ∧ p.2 < n) ∧ handF (tied ps) a d b c p.1 p.2 = !tied ps p.1 p.2 := by
  have s := tied_sym ps
  have hs := hand_sym s a d b c
  obtain ⟨h1, h2, h3, h4⟩ := hand_in4 s A
  obtain ⟨n1, n2, n3, n4, n5, n6⟩ := A
  simp only [List.mem_cons, List.not_mem_nil, or_false] at hp
  rcases hp with rfl | rfl | rfl | rfl
  · exact ⟨by simp only; omega, by rw [sym_nm hs, sym_nm s, h1]⟩
  · exact ⟨by simp only; omega, by rw [sym_nm hs, sym_nm s, h2]⟩
  · exact ⟨by simp only; omega, by rw [sym_nm hs, sym_nm s, h3]⟩
  · exact ⟨by simp only; omega, by rw [sym_nm hs, sym_nm s, h4]⟩
abbrev goneOf (ps qs : List Pr) : List Pr := ps.filter fun p => !decide (p ∈ qs)
theorem mem_gone (w : WebOk n ps) (A : Apart4 a d b c) (ha : a < n) (hd : d < n) (hb : b < n) (hc : c < n) {p : Pr} : p ∈ goneOf ps (fromT n (handF (tied ps) a d b c)) ↔ p ∈ X4 a d b c ∧ p ∈ ps := by
  rw [List.mem_filter, Bool.not_eq_true', decide_eq_false_iff_not, mem_from]
  constructor
  · rintro ⟨m, h⟩
    have m' := (mem_tied w).mp m
    refine ⟨Classical.byContradiction fun z => h ⟨m'.1, ?_⟩, m⟩
    rw [hand_out (tied_sym ps) m'.1.1 z]
    exact m'.2
  · rintro ⟨hx, m⟩
    have m' := (mem_tied w).mp m
    obtain ⟨_, e⟩ := x4_flip w A ha hd hb hc hx
    refine ⟨m, fun z => ?_⟩
    rw [e, m'.2] at z
    cases z.2
theorem mem_come (w : WebOk n ps) (A : Apart4 a d b c) (ha : a < n) (hd : d < n) (hb : b < n) (hc : c < n) {p : Pr} : p ∈ goneOf (fromT n (handF (tied ps) a d b c)) ps ↔ p ∈ X4 a d b c ∧ p ∉ ps := by
  rw [List.mem_filter, Bool.not_eq_true', decide_eq_false_iff_not, mem_from]
  constructor
  · rintro ⟨⟨h1, h2⟩, m⟩
    refine ⟨Classical.byContradiction fun z => m ((mem_tied w).mpr ⟨h1, ?_⟩), m⟩
    rw [← hand_out (tied_sym ps) h1.1 z]
    exact h2
  · rintro ⟨hx, m⟩
    obtain ⟨h1, e⟩ := x4_flip w A ha hd hb hc hx
    refine ⟨⟨h1, ?_⟩, m⟩
    rw [e]
    cases c : tied ps p.1 p.2 with
    | false => rfl
    | true => exact absurd ((mem_tied w).mpr ⟨h1, c⟩) m
theorem gone_len (w : WebOk n ps) (A : Apart4 a d b c) (ha : a < n) (hd : d < n) (hb : b < n) (hc : c < n) (t1 : tied ps b a ≠ tied ps b d) (t2 : tied ps c a ≠ tied ps c d) :
    (goneOf ps (fromT n (handF (tied ps) a d b c))).length = 2 ∧ (goneOf (fromT n (handF (tied ps) a d b c)) ps).length = 2 := by
  have nd := x4_nodup A
  have s := tied_sym ps
  rw [s b a, s b d] at t1
  rw [s c a, s c d] at t2
  have p1 : (goneOf ps (fromT n (handF (tied ps) a d b c))).Perm ((X4 a d b c).filter fun p => decide (p ∈ ps)) :=
    (List.perm_ext_iff_of_nodup ((up_nodup w.up).sublist List.filter_sublist) (nd.sublist List.filter_sublist)).mpr fun p => by
      rw [mem_gone w A ha hd hb hc, List.mem_filter, decide_eq_true_iff]
  have p2 : (goneOf (fromT n (handF (tied ps) a d b c)) ps).Perm ((X4 a d b c).filter fun p => !decide (p ∈ ps)) :=
    (List.perm_ext_iff_of_nodup ((up_nodup ((pairsTo_up n n).sublist List.filter_sublist)).sublist List.filter_sublist) (nd.sublist List.filter_sublist)).mpr fun p => by
      refine (mem_come w A ha hd hb hc).trans ?_
      rw [List.mem_filter, Bool.not_eq_true', decide_eq_false_iff_not]
  rw [p1.length_eq, p2.length_eq]
  simp only [X4, List.filter_cons, List.filter_nil]
  rw [← tied_nm ps a b, ← tied_nm ps a c, ← tied_nm ps d b, ← tied_nm ps d c]
  revert t1 t2
  cases tied ps a b <;> cases tied ps d b <;> cases tied ps a c <;> cases tied ps d c <;> simp
end
end Lt

set_option Elab.async false
set_option linter.all false
set_option maxRecDepth 100000
set_option maxHeartbeats 4000000
namespace Lt
open PySem PySem.Spec PyProof.Rows L2
/-! ## min of a list of tuples of ints, whose first item is a least one -/
abbrev dI (l : List Int) : PyData := .tuple (l.map PyData.int)
abbrev ltI (x y : List Int) : Bool := PySem.W.listLt x y
def rMinQ (K : PySem.W.Frag) : List V → Hp → VK → Prop := fun vs H Q => ∃ (a : Addr) (xs : List V) (t : List Int) (ts : List (List Int)), vs = [V.ref a] ∧ SqL K H a xs ∧ Tps H xs ((t :: ts).map dI) ∧ (∀ y ∈ ts, ltI y t = false) ∧ ∀ x, Tp H x (dI t) → Q x H
theorem min_first {t : List Int} : ∀ {ts : List (List Int)}, (∀ y ∈ ts, ltI y t = false) → PySem.W.minD (dI t) (ts.map dI) = dI t
  | [], _ => rfl
  | y :: ts, h => by
    have h1 : PySem.W.dataLt (dI y) (dI t) = false := by
      have e := PySem.W.DatumOrd.lt_eq (PySem.W.Tup.mk y) (PySem.W.Tup.mk t)
      exact e.trans (h y List.mem_cons_self)
    have ih := min_first (ts := ts) fun z m => h z (List.mem_cons_of_mem _ m)
    unfold PySem.W.minD at ih ⊢
    rw [List.map_cons, List.foldl_cons, h1]
    exact ih
theorem alike_dI (ls : List (List Int)) : PySem.W.AlikeAll (ls.map dI) := by
  constructor
  · intro x hx y hy
    obtain ⟨a, _, rfl⟩ := List.mem_map.mp hx
    obtain ⟨b, _, rfl⟩ := List.mem_map.mp hy
    exact PySem.W.DatumOrd.alike (PySem.W.Tup.mk a) (PySem.W.Tup.mk b)
  · intro x hx e
    obtain ⟨a, _, rfl⟩ := List.mem_map.mp hx
    cases e
theorem lay_dI (l : List Int) : (dI l).canLay0 = true := by
  show PyData.canLayAll0 (l.map PyData.int) = true
  induction l with
  | nil => rfl
  | cons x l ih => exact ih
theorem dep_ints : ∀ l : List Int, PyData.depthAll (l.map PyData.int) = 0
  | [] => rfl
  | x :: l => by
    rw [List.map_cons]
    unfold PyData.depthAll
    rw [dep_ints l]
    rfl
theorem dep_dIs : ∀ ls : List (List Int), PyData.depthAll (ls.map dI) ≤ 1
  | [] => Nat.zero_le _
  | l :: ls => by
    rw [List.map_cons]
    unfold PyData.depthAll
    have h1 := dep_dIs ls
    have h2 : (dI l).depth = 1 := by
      unfold PyData.depth
      rw [dep_ints]
    omega
theorem vals_at {H : Hp} : ∀ {xs : List V} {us : List Value} {i : Nat} {u : Value}, Vals xs us → us[i]? = some u → ∃ x, xs[i]? = some x ∧ RelV x u
  | _, _, 0, _, .cons a _, e => by
    cases e
    exact ⟨_, rfl, a⟩
  | _, _, i + 1, _, .cons _ t, e => vals_at (H := H) (i := i) t e
theorem cr_minQ {X : Cx} (hc : X.calm = true) (hu : X.A.units + 80 < cLine) : CallR X (.builtin "min") (rMinQ X.K) := by
  intro pins s σ H vs us Q I r h
  obtain ⟨a, xs, t, ts, rfl, hs, tp, hm, q⟩ := h
  obtain ⟨its, rv, hl, _⟩ := I.list hs
  rw [Vals.ref1 r]
  obtain ⟨as, ra⟩ := Dp.readsAll I _ xs its tp.dp rv
  refine PySem.W.min_list_data (x := dI t) (xs := ts.map dI) (I.ok.hd hc) hl.isList (by simpa using ra) (alike_dI (t :: ts)) ?_ ?_
  · have := dep_dIs (t :: ts)
    rw [List.map_cons] at this
    omega
  · intro i v h' tk bs hv hr hk
    obtain ⟨x, ex, rx⟩ := vals_at (H := H) rv (by simpa using hv)
    obtain ⟨d, ed, td⟩ := tp.at ex
    obtain ⟨cs, r2⟩ := Dp.reads I d x v td.dp rx
    rw [min_first hm] at hr
    have r3 := PyProof.Rows.Reads.keeps hk r2
    have e := PySem.SeqAt.Reads.unique _ _ _ _ _ (lay_dI t) hr r3
    rw [← e] at td
    exact ⟨x, H, I.kept hk, rx, q x td⟩
theorem minQK {X : Cx} (K : PySem.W.Frag) (hc : X.calm = true) (hu : X.A.units + 80 < cLine) (h : X.K = K := by rfl) : CallR X (.builtin "min") (rMinQ K) := h ▸ cr_minQ hc hu
theorem ltTK {X : Cx} (K : PySem.W.Frag) (hu : X.A.units + 80 < cLine) (h : X.K = K := by rfl) : OpR X (compareOp .Lt) (rLtT K) := h ▸ op_ltT (by omega)
theorem leTK {X : Cx} (K : PySem.W.Frag) (hu : X.A.units + 80 < cLine) (h : X.K = K := by rfl) : OpR X (compareOp .LtE) (rLeT K) := h ▸ op_leT (by omega)
theorem pi_listK {X : Cx} (K : PySem.W.Frag) {tg l : Expr} {tl : TE} (hl : PE X l tl) (h : X.K = K := by rfl) : PI X tg l (iList K tl) := h ▸ pi_list hl
theorem pi_tupK {X : Cx} (K : PySem.W.Frag) {tg l : Expr} {tl : TE} (hl : PE X l tl) (h : X.K = K := by rfl) : PI X tg l (iTup K tl) := h ▸ pi_tup hl
theorem ixSK {X : Cx} (K : PySem.W.Frag) (h : X.K = K := by rfl) : IxR X (rIx K) := h ▸ ix_seq
theorem isiK {X : Cx} (K : PySem.W.Frag) (h : X.K = K := by rfl) : CallR X (.builtin "isinstance") (rIsi K) := h ▸ call_isi
end Lt

set_option Elab.async false
set_option linter.all false
set_option maxRecDepth 100000
set_option maxHeartbeats 4000000
namespace Lt
open PySem PySem.Spec PyProof.Rows L2
/-- three names at once, plain locals: the last one is stored first -/
def tPar3 (i j l : Nat) (ta : TA) : TS := fun D σ H => ta σ H fun vs H1 => ∃ p q r, vs = [p, q, r] ∧ D.nx (((σ.set l (some r)).set j (some q)).set i (some p)) H1
theorem three_vals {vs : List V} {us : List Value} {p q r : V} (h : Vals vs us) (e : vs = [p, q, r]) : ∃ a b c, us = [a, b, c] ∧ RelV p a ∧ RelV q b ∧ RelV r c := by
  subst e
  cases h with
  | cons h1 t => cases t with
    | cons h2 t => cases t with
      | cons h3 t =>
        cases t
        exact ⟨_, _, _, rfl, h1, h2, h3⟩
section
variable {X : Cx} {i j l : Nat} {x y z : Str} {a b c : Expr} {ta : TA} {px py pz pt pt2 pos : Pos} {kt k2 : Nat}
theorem ps_par3 (calm : X.calm = true) (nod : X.N.Nodup) (ni : X.N[i]? = some x) (nj : X.N[j]? = some y) (nl : X.N[l]? = some z)
    (lx : X.env.scope.names.lookup x = some .local) (ly : X.env.scope.names.lookup y = some .local) (lz : X.env.scope.names.lookup z = some .local) (args : PA X [a, b, c] ta)
    (sw : swappedStores [.Tuple [.Name x px, .Name y py, .Name z pz] kt pt] (.Tuple [a, b, c] k2 pt2) X.env = pure (some [x, y, z]))
    (so : swapsWithSole [.Tuple [.Name x px, .Name y py, .Name z pz] kt pt] (.Tuple [a, b, c] k2 pt2) pos.line X.env = pure false := by rfl) :
    PS X (.Assign [.Tuple [.Name x px, .Name y py, .Name z pz] kt pt] (.Tuple [a, b, c] k2 pt2) pos) (tPar3 i j l ta) := by
  constructor
  intro pins st σ H D I h
  rw [exec_Assign_arm]
  refine wpAny_bind (wpAny_standAt ?_)
  rw [so]
  refine wpAny_bind (wpAny_pure ?_)
  rw [if_neg (by decide)]
  refine wpAny_bind (Tuple_ (thn (args.run _ pins st σ H _ I h) fun us t1 ⟨vs, H1, J, rel, fin⟩ => ?_))
  obtain ⟨p, q, r, e1, fin⟩ := fin
  obtain ⟨ua, ub, uc, rfl, ra, rb, rc⟩ := three_vals rel e1
  refine wpAny_newObj_type ?_ (by show 3 ≤ sizeLine; decide)
  have J2 : Inv X pins σ H1 { t1 with heap := t1.heap.push { cls := .type "tuple", data := .seq [ua, ub, uc].toArray } } := J.kept (t' := t1.toks) fun m o em => Heap.get?_push_of_some _ em
  rw [sw]
  refine wpAny_bind (wpAny_pure ?_)
  show wpAny (model X.prog X.w) X.A (do
    rule "assign.swapped-stores"
    let its ← unpackItems (.ref t1.heap.objs.size) 3 none
    assignInOrder [fun m => bindName X.env z m, fun m => bindName X.env y m, fun m => bindName X.env x m] its.reverse
    pure Flow.next) _ _ _
  refine wpAny_bind (wpAny_rule (wpAny_bind (unpackItems_tuple (items := #[ua, ub, uc]) (J.ok.hd calm) (IsTup.new t1.heap _) fun h2 keep => ?_)))
  have J3 := J2.kept (h' := h2) (t' := t1.toks) fun m o em => keep m o (Nat.ne_of_lt (Heap.lt_size em)) em
  show wpAny _ _ (assignInOrder [fun m => bindName X.env z m, fun m => bindName X.env y m, fun m => bindName X.env x m] [uc, ub, ua] >>= fun _ => pure Flow.next) _ _ _
  refine wpAny_bind (assignInOrder_cons (wpAny_bindName (store_ok J3 nod nl (.inl lz) rc (fun t4 J4 => ?_) (.inr lz))))
  refine assignInOrder_cons (wpAny_bindName (store_ok J4 nod nj (.inl ly) rb (fun t5 J5 => ?_) (.inr ly)))
  refine assignInOrder_cons (wpAny_bindName (store_ok J5 nod ni (.inl lx) ra (fun t6 J6 => assignInOrder_nil (wpAny_pure ?_)) (.inr lx)))
  exact ⟨_, H1, J6, fin⟩
end
end Lt

set_option Elab.async false
set_option linter.all false
set_option maxRecDepth 100000
set_option maxHeartbeats 4000000
namespace Lt
open PySem PySem.Spec PyProof.Rows L2
/-! ## sorted of a list of tuples of pairs -/
abbrev srt (bs : List (List Pr)) : List (List Pr) := bs.mergeSort (PySem.W.dataLe false (fun b => dT b))
def rSortedD (K : PySem.W.Frag) : List V → Hp → VK → Prop := fun vs H Q => ∃ (a : Addr) (xs : List V) (bs : List (List Pr)), vs = [V.ref a] ∧ SqL K H a xs ∧ Tps H xs (bs.map dT) ∧ (∀ b ∈ bs, b ≠ []) ∧ bs.length ≤ 100000 ∧
  ∀ ys p, H p = none → Tps H ys ((srt bs).map dT) → Q (.ref p) (upd H p (.lst ys))
abbrev prI (p : Pr) : Int × Int := ((p.1 : Int), (p.2 : Int))
theorem dT_datum (b : List Pr) : dT b = PySem.W.Datum.toD (PySem.W.Tup.mk (b.map prI)) := by
  show PyData.tuple (b.map dP) = PyData.tuple ((b.map prI).map PySem.W.Datum.toD)
  rw [List.map_map]
  rfl
theorem dT_alike (b c : List Pr) : PySem.W.alike (dT b) (dT c) = true := by
  rw [dT_datum, dT_datum]
  exact PySem.W.DatumOrd.alike _ _
theorem dep_dPs : ∀ b : List Pr, PyData.depthAll (dPs b) ≤ 1
  | [] => Nat.zero_le _
  | p :: b => by
    have h1 := dep_dPs b
    show PyData.depthAll (dP p :: dPs b) ≤ 1
    unfold PyData.depthAll
    have h2 : (dP p).depth = 1 := by
      unfold dP PyData.depth
      rw [show ([PyData.int p.1, PyData.int p.2] : List PyData) = [(p.1 : Int), (p.2 : Int)].map PyData.int from rfl, dep_ints]
    omega
theorem dep_dT (b : List Pr) : (dT b).depth ≤ 2 := by
  have := dep_dPs b
  unfold PyData.depth
  omega
theorem each_of {H : Hp} : ∀ {xs : List V} {us : List Value} {bs : List (List Pr)}, Vals xs us → Tps H xs (bs.map dT) → PySem.W.EachIs (fun u b => ∃ x, RelV x u ∧ Tp H x (dT b)) us bs
  | _, _, [], r, .nil => by
    cases r
    exact .nil
  | _, _, b :: bs, r, .cons t ts => by
    cases r with
    | cons r1 rs => exact .cons ⟨_, r1, t⟩ (each_of rs ts)
theorem back_of {H : Hp} : ∀ {us : List Value} {bs : List (List Pr)}, PySem.W.EachIs (fun u b => ∃ x, RelV x u ∧ Tp H x (dT b)) us bs → ∃ ys, Vals ys us ∧ Tps H ys (bs.map dT)
  | _, _, .nil => ⟨[], .nil, .nil⟩
  | _, _, .cons ⟨x, r, t⟩ e => by
    obtain ⟨ys, a, b⟩ := back_of e
    exact ⟨x :: ys, .cons r a, .cons t b⟩
theorem cr_sortedD {X : Cx} (hu : X.A.units + 80 < cLine) : CallR X (.builtin "sorted") (rSortedD X.K) := by
  intro pins s σ H vs us Q I r h
  obtain ⟨a, xs, bs, rfl, hs, tx, hne, hlen, q⟩ := h
  obtain ⟨its, rv, hl, hz⟩ := I.list hs
  rw [Vals.ref1 r]
  have e := each_of rv tx
  have er : PySem.W.EachIs (fun v b => ∃ as, PySem.Reads s.heap v (dT b) as) its bs := e.mono fun u b ⟨x, rx, t⟩ => Dp.reads I _ x u t.dp rx
  refine PySem.W.sorted_data (enc := dT) hl.isList e er (PySem.W.AllAlike.of dT_alike) (.inl fun d m => ?_) (szl hlen) (fun b _ => by have := dep_dT b; omega) fun out ho eo => ?_
  · obtain ⟨b, mb, rfl⟩ := List.mem_map.mp m
    cases b with
    | nil => exact absurd rfl (hne _ mb)
    | cons p b => exact ⟨_, _, rfl⟩
  · obtain ⟨ys, ry, ty⟩ := back_of eo
    obtain ⟨ep, he'⟩ := PyProof.Rows.sortedAll_at s.heap its out.toArray
    have hl2 : ys.length ≤ sizeLine := by
      rw [ry.length, ho]
      exact szl hlen
    exact ⟨.ref _, upd H (s.heap.objs.size + 1) (.lst ys), I.laid (t' := s.toks) (fun _ _ => PyProof.Rows.sortedAll_old) (Nat.le_succ _) ⟨hl2, out, ep, ry, he'⟩, rfl, q _ _ (I.hok.fresh (Nat.le_succ _)) ty⟩
theorem sortedDK {X : Cx} (K : PySem.W.Frag) (hu : X.A.units + 80 < cLine) (h : X.K = K := by rfl) : CallR X (.builtin "sorted") (rSortedD K) := h ▸ cr_sortedD hu
/-! ## what is walked, a list or a tuple -/
def iSeq (K : PySem.W.Frag) (tl : TE) : TI := fun σ H R => tl σ H fun x H1 => ∃ a, x = .ref a ∧ (((∃ xs, SqL K H1 a xs) ∧ R (Itl K a) H1) ∨ ((∃ xs, SqT K H1 a xs) ∧ R (L2.Itt K a) H1))
theorem pi_seq' {X : Cx} {tg l : Expr} {tl : TE} (hl : PE X l tl) : PI X tg l (iSeq X.K tl) := by
  constructor
  intro pins st σ H R I h
  refine thn (hl.run pins st σ H _ I h) fun u t1 ⟨x, H1, J, rel, fin⟩ => ?_
  obtain ⟨a, rfl, fin⟩ := fin
  cases rel
  rcases fin with ⟨⟨xs, hq⟩, fin⟩ | ⟨⟨xs, hq⟩, fin⟩
  · obtain ⟨its, rv, p, hz⟩ := J.list hq
    refine wpAny_pyIter_list p.isList ?_
    refine ⟨t1.heap.objs.size, [t1.heap.objs.size], _, _, H1, rfl, J.kept (t' := t1.toks) (fun m o em => Heap.get?_push_of_some _ em), turn_list a _, ⟨_, Heap.get?_push_size _ rfl, rfl, rfl⟩, fun m hm => ?_, fin⟩
    rw [List.mem_singleton.mp hm]
    exact J.fpOk (Nat.le_refl _) (J.hok.fresh (Nat.le_refl _))
  · obtain ⟨its, rv, p, hz⟩ := J.tuple hq
    refine wpAny_pyIter_tuple (show t1.heap.IsTuple a its.toArray from p) ?_
    refine ⟨t1.heap.objs.size, [t1.heap.objs.size], _, _, H1, rfl, J.kept (t' := t1.toks) (fun m o em => Heap.get?_push_of_some _ em), turn_tuple a _, ⟨_, Heap.get?_push_size _ rfl, rfl, rfl⟩, fun m hm => ?_, fin⟩
    rw [List.mem_singleton.mp hm]
    exact J.fpOk (Nat.le_refl _) (J.hok.fresh (Nat.le_refl _))
theorem pi_seqK {X : Cx} (K : PySem.W.Frag) {tg l : Expr} {tl : TE} (hl : PE X l tl) (h : X.K = K := by rfl) : PI X tg l (iSeq K tl) := h ▸ pi_seq' hl
/-- a comprehension over a list or a tuple -/
theorem lc_seq {K : PySem.W.Frag} {S : List Addr} {J : Hp → Prop} {M : Nat → List PyData → Prop} {g : TG} {tt : TT} {te : TE} {vs : List Nat} {σ : Slots} {H1 : Hp} {a : Addr} {Qd : Addr → Hp → Prop} {xs : List V}
    (ha : H1 a = some (.lst xs) ∨ H1 a = some (.tup xs)) (na : a ∉ S) (hC : ∀ D, H1 D = none → LcC S J H1 D) (j0 : J H1) (m0 : M 0 [])
    (turn : ∀ D, H1 D = none → ∀ i x H ys ds, xs[i]? = some x → LcS S J M H1 D i H ys ds → TurnGoal S J M g tt te vs σ H1 D i x H)
    (done : ∀ D, H1 D = none → ∀ H ys ds, LcS S J M H1 D xs.length H ys ds → Qd D H) :
    ((∃ xs, SqL K H1 a xs) ∧ ∀ D, H1 D = none → LcGoal (Itl K a) g tt te vs σ H1 D (Qd D)) ∨ ((∃ xs, SqT K H1 a xs) ∧ ∀ D, H1 D = none → LcGoal (L2.Itt K a) g tt te vs σ H1 D (Qd D)) := by
  rcases ha with ha | ha
  · exact .inl ⟨⟨_, SqL.of ha⟩, fun D hD => lcl (hC D hD) (SqL.of ha) na j0 m0 (turn D hD) (done D hD)⟩
  · exact .inr ⟨⟨_, SqT.of ha⟩, fun D hD => lct (hC D hD) ha j0 m0 (turn D hD) (done D hD)⟩
end Lt

set_option Elab.async false
set_option linter.all false
set_option maxRecDepth 100000
set_option maxHeartbeats 4000000
namespace Lt
open PySem PySem.Spec PyProof.Rows L2
/-! ## pairs put in order -/
def kOf (H : Hp) (x : V) : Int × Int := match x with
  | .ref t => (match H t with
    | some (.tup [.int i, .int j]) => (i, j)
    | _ => (0, 0))
  | _ => (0, 0)
def pOf (H : Hp) (x : V) : Pr := ((kOf H x).1.toNat, (kOf H x).2.toNat)
theorem kOf_pr {H : Hp} {x : V} {p : Pr} (h : Tp H x (dP p)) : kOf H x = ((p.1 : Int), (p.2 : Int)) := by
  obtain ⟨a, rfl, e⟩ := h.pr_inv
  simp only [kOf]
  rw [e]
theorem pOf_pr {H : Hp} {x : V} {p : Pr} (h : Tp H x (dP p)) : pOf H x = p := by
  unfold pOf
  rw [kOf_pr h]
  simp
theorem pOf_all {H : Hp} : ∀ {xs : List V} {ps : List Pr}, Tps H xs (dPs ps) → xs.map (pOf H) = ps
  | _, [], .nil => rfl
  | _, p :: ps, .cons a t => by
    rw [List.map_cons, pOf_pr a, pOf_all t]
theorem tps_of {H : Hp} {g : V → Pr} : ∀ {ys : List V}, (∀ y ∈ ys, Tp H y (dP (g y))) → Tps H ys (dPs (ys.map g))
  | [], _ => .nil
  | y :: ys, h => .cons (h y List.mem_cons_self) (tps_of fun z m => h z (List.mem_cons_of_mem _ m))
theorem tps_mem {H : Hp} : ∀ {xs : List V} {ps : List Pr}, Tps H xs (dPs ps) → ∀ x ∈ xs, ∃ p ∈ ps, Tp H x (dP p)
  | _, [], .nil, x, m => absurd m List.not_mem_nil
  | _, p :: ps, .cons a t, x, m => by
    rcases List.mem_cons.mp m with rfl | m
    · exact ⟨p, List.mem_cons_self, a⟩
    · obtain ⟨q, mq, hq⟩ := tps_mem t x m
      exact ⟨q, List.mem_cons_of_mem _ mq, hq⟩
/-- sorted(xs), xs a list of pairs -/
theorem sorted_prs {K : PySem.W.Frag} {H : Hp} {Q : VK} {a : Addr} {xs : List V} {ps : List Pr} (ha : H a = some (.lst xs)) (t : Tps H xs (dPs ps)) (hn : ps.Nodup)
    (q : ∀ ys p qs, qs.Perm ps → qs.Pairwise Up → H p = none → Tps H ys (dPs qs) → Q (.ref p) (upd H p (.lst ys))) : rSortedPO K [.ref a] H Q := by
  refine ⟨a, xs, kOf H, rfl, SqL.of ha, ?_, fun ys p hs hb hp => ?_⟩
  · intro x m
    obtain ⟨pr, _, tx⟩ := tps_mem t x m
    obtain ⟨b, rfl, e⟩ := tx.pr_inv
    rw [kOf_pr tx]
    exact ⟨b, rfl, e⟩
  · have hm : ∀ y ∈ ys, ∃ pr, Tp H y (dP pr) := fun y m => by
      obtain ⟨pr, _, tx⟩ := tps_mem t y (hb.perm.mem_iff.mp m)
      exact ⟨pr, tx⟩
    have pm : (ys.map (pOf H)).Perm ps := by
      rw [← pOf_all t]
      exact hb.perm.map _
    refine q ys p (ys.map (pOf H)) pm ?_ hp (tps_of fun y m => ?_)
    · have nd : (ys.map (pOf H)).Nodup := pm.nodup_iff.mpr hn
      have nd2 := List.pairwise_map.mp nd
      refine List.pairwise_map.mpr ((List.Pairwise.and hs nd2).imp_of_mem ?_)
      intro x y mx my hxy
      obtain ⟨px, tx⟩ := hm x mx
      obtain ⟨py, ty⟩ := hm y my
      have h1 := SrtO.lexB_no.mp hxy.1
      have h2 := hxy.2
      rw [kOf_pr tx, kOf_pr ty] at h1
      rw [pOf_pr tx, pOf_pr ty] at h2 ⊢
      obtain ⟨a1, a2⟩ := px
      obtain ⟨b1, b2⟩ := py
      simp only [ne_eq, Prod.mk.injEq] at h1 h2 ⊢
      omega
    · obtain ⟨pr, tx⟩ := hm y m
      rw [pOf_pr tx]
      exact tx
section
variable {P : Program} {w : World} {K : PySem.W.Frag} {mg : Str → Option Value} {base : Heap} {f : Addr} {fd : FuncData}
def ren (nm : List Nat) (p : Pr) : Pr := (min (nm.getD p.1 0) (nm.getD p.2 0), max (nm.getD p.1 0) (nm.getD p.2 0))
def spNamed : Sp := fun vs H Q _ => ∃ (n : Nat) (t m : Addr) (xs : List V) (ps : List Pr) (nm : List Nat), vs = [.int n, .ref t, .ref m] ∧ (H t = some (.lst xs) ∨ H t = some (.tup xs)) ∧ Tps H xs (dPs ps) ∧ ps.length ≤ 1000 ∧
  H m = some (.lst (nm.map fun x => V.int (x : Nat))) ∧ (∀ p ∈ ps, p.1 < nm.length ∧ p.2 < nm.length) ∧ (ps.map (ren nm)).Nodup ∧
  ∀ H' r qs, Fr [] H H' → Tp H' r (dW n qs) → qs.Perm (ps.map (ren nm)) → qs.Pairwise Up → Q r H'
theorem ok_named (F : FnP K "_law_named" s__law_named f fd) (g_tuple : mg "tuple" = none) (g_sorted : mg "sorted" = none) (g_min : mg "min" = none) (g_max : mg "max" = none) : FnG P w K mg base CX0 1 f fd ["many", "ties", "names"] spNamed := by
  refine okG0 F sc__law_named (fun vs H Q E h => ?_) (fun cdv A outer s H vs Q E hS hr h => ?_)
  · obtain ⟨_, _, _, _, _, _, rfl, _⟩ := h
    rfl
  · obtain ⟨n, t, m, xs, ps, nm, rfl, ht, tx, hl, hm, hin, hnd, q⟩ := h
    refine ⟨_, (pss_one (ps_ret (pe_tup (pa_cons (pv 0) (pa_cons (pe_callTy (tupOfK K) (by rfl) g_tuple (by decide +kernel) (pa_cons (pe_callB (sortedPK K) (by rfl) g_sorted (by decide +kernel) (pa_cons (pe_lc (own := [("a", 3), ("b", 4)]) (tt := tYes) rfl sc__law_named.nd (pi_seqK K (pv 1)) (blkOk_by (own := [("a", 3), ("b", 4)]) (N := N__law_named) (sc := defScope s__law_named) (by decide +kernel)) (fun _ _ _ _ _ => (pg_tupK K (n := 2) (by rfl) (pgs_cons (pg_name (i := 3) sc__law_named.nd rfl (Or.inl rfl)) (pgs_cons (pg_name (i := 4) sc__law_named.nd rfl (Or.inl rfl)) pgs_nil)))) (fun _ _ _ _ _ => pts_nil) (fun _ _ _ _ _ => (pe_tup (pa_cons (pe_callB (call_min2 rfl) (by rfl) g_min (by decide +kernel) (pa_cons (pe_ix (ixL K) (pv 2) (pv 3) (fun _ _ => rfl)) (pa_cons (pe_ix (ixL K) (pv 2) (pv 4) (fun _ _ => rfl)) pa_nil))) (pa_cons (pe_callB (call_max2 rfl) (by rfl) g_max (by decide +kernel) (pa_cons (pe_ix (ixL K) (pv 2) (pv 3) (fun _ _ => rfl)) (pa_cons (pe_ix (ixL K) (pv 2) (pv 4) (fun _ _ => rfl)) pa_nil))) pa_nil))))) pa_nil)) pa_nil)) pa_nil))))), ?_⟩
    refine ⟨_, rfl, _, rfl, t, rfl, ?_⟩
    refine lc_seq (K := K) (S := []) (J := fun _ => True) (M := fun k ds => ds = made ps (fun p => some (ren nm p)) dP k) ht List.not_mem_nil (fun D hD => ⟨hD, List.not_mem_nil, fun _ _ h => h⟩) trivial rfl (fun D hD => ?_) (fun D hD => ?_)
    all_goals have C : LcC [] (fun _ => True) H D := ⟨hD, List.not_mem_nil, fun _ _ h => h⟩
    · intro i x H2 zs ds ex L
      obtain ⟨p, ep, tp⟩ := tx.pr_at ex
      have hi : i < 2000 := by
        have := (List.getElem?_eq_some_iff.mp ep).1
        omega
      have hb := hin p (List.mem_of_getElem? ep)
      obtain ⟨b, rfl, eb⟩ := (tp.fr L.fr).pr_inv
      have em := L.fr.keep _ _ hm List.not_mem_nil
      have g1 : (nm.map fun x => V.int (x : Nat))[p.1]? = some (.int (nm.getD p.1 0 : Nat)) := by
        rw [List.getElem?_map, List.getElem?_eq_getElem hb.1, List.getD_eq_getElem?_getD, List.getElem?_eq_getElem hb.1]
        rfl
      have g2 : (nm.map fun x => V.int (x : Nat))[p.2]? = some (.int (nm.getD p.2 0 : Nat)) := by
        rw [List.getElem?_map, List.getElem?_eq_getElem hb.2, List.getD_eq_getElem?_getD, List.getElem?_eq_getElem hb.2]
        rfl
      refine ⟨b, _, rfl, SqT.of eb, rfl, _, _, rfl, _, _, rfl, rfl, rfl, tyes ?_⟩
      refine ⟨_, rfl, _, rfl, m, _, p.1, _, rfl, rfl, SqL.of em, atI_nat g1, _, rfl, _, rfl, m, _, p.2, _, rfl, rfl, SqL.of em, atI_nat g2, _, _, rfl, ?_⟩
      refine ⟨_, rfl, _, rfl, m, _, p.1, _, rfl, rfl, SqL.of em, atI_nat g1, _, rfl, _, rfl, m, _, p.2, _, rfl, rfl, SqL.of em, atI_nat g2, _, _, rfl, szl (Nat.le_of_ble_eq_true rfl), fun p2 hp2 => ?_⟩
      refine L.put C (d := dP (ren nm p)) (by omega) (Fr.new hp2) trivial (Tp.pr ?_) ?_
      · rw [upd_same]
        have e1 : ∀ i j : Nat, (if (j : Int) < (i : Int) then (j : Int) else (i : Int)) = ((min i j : Nat) : Int) := fun i j => by split <;> omega
        have e2 : ∀ i j : Nat, (if (j : Int) > (i : Int) then (j : Int) else (i : Int)) = ((max i j : Nat) : Int) := fun i j => by split <;> omega
        rw [e1, e2]
        rfl
      · rw [L.m]
        exact (made_some (f := fun p => some (ren nm p)) (en := dP) ep rfl).symm
    · intro H2 zs ds L
      have em := L.m
      rw [made_all (by rw [tx.len]; exact Nat.le_refl _), filterMap_one] at em
      have td := L.dat
      rw [em] at td
      dsimp only [tNil]
      refine sorted_prs L.at_ td hnd fun ys p qs hq hu hp ty => ?_
      have f2 : Fr [] H2 (upd H2 p (.lst ys)) := Fr.new hp
      refine ⟨p, ys, rfl, .inl ⟨SqL.of upd_same, fun l hl2 => ⟨szl (Nat.le_of_ble_eq_true rfl), fun p2 hp2 => ?_⟩⟩⟩
      have f3 : Fr [] (upd H2 p (.lst ys)) (upd (upd (upd H2 p (.lst ys)) l (.tup ys)) p2 (.tup [.int n, .ref l])) := (Fr.new hl2).add hp2
      exact q _ _ qs ((L.fr.trans f2).trans f3) (Tp.web upd_same (at_add upd_same hp2) ((ty.fr f2).fr f3)) hq hu
end
end Lt

set_option Elab.async false
set_option linter.all false
set_option maxRecDepth 100000
set_option maxHeartbeats 8000000
namespace Lt
open PySem PySem.Spec PyProof.Rows L2
theorem cut {t u : TS} {D : Ends} {σ : Slots} {H : Hp} (I : Slots → Hp → Prop) (hu : ∀ σ H, I σ H → u D σ H) (ht : (∀ σ H, I σ H → u D σ H) → t { D with nx := u D } σ H) : tSeq t u D σ H := ht hu
/-! ## parts of all pairs -/
theorem sub_put {α : Type} {ps qs : List α} {i : Nat} {p : α} (e : ps[i]? = some p) (h : qs.Sublist (ps.take i)) : (qs ++ [p]).Sublist (ps.take (i + 1)) := by
  rw [List.take_add_one, e]
  exact h.append (List.Sublist.refl _)
theorem sub_skip {α : Type} {ps qs : List α} {i : Nat} (h : qs.Sublist (ps.take i)) : qs.Sublist (ps.take (i + 1)) := by
  rw [List.take_add_one]
  exact h.trans (List.sublist_append_left _ _)
abbrev SubM (ps : List Pr) (i : Nat) (ds : List PyData) : Prop := ∃ qs, ds = dPs qs ∧ qs.Sublist (ps.take i)
theorem SubM.put {ps : List Pr} {i : Nat} {ds : List PyData} {p : Pr} (h : SubM ps i ds) (e : ps[i]? = some p) : SubM ps (i + 1) (ds ++ [dP p]) := by
  obtain ⟨qs, rfl, s⟩ := h
  exact ⟨qs ++ [p], by rw [dPs_app]; rfl, sub_put e s⟩
theorem SubM.skip {ps : List Pr} {i : Nat} {ds : List PyData} (h : SubM ps i ds) : SubM ps (i + 1) ds := by
  obtain ⟨qs, rfl, s⟩ := h
  exact ⟨qs, rfl, sub_skip s⟩
theorem pairsOf_nodup (n : Nat) : (pairsOf n).Nodup := up_nodup (pairsTo_up n n)
/-- some pairs of n places, none twice -/
structure Good (n : Nat) (ps : List Pr) : Prop where
  ins : ∀ p ∈ ps, p ∈ pairsOf n
  nd : ps.Nodup
theorem Good.sub {n : Nat} {ps : List Pr} (h : ps.Sublist (pairsOf n)) : Good n ps := ⟨fun p m => h.subset m, (pairsOf_nodup n).sublist h⟩
theorem Good.nil (n : Nat) : Good n [] := ⟨fun p m => absurd m List.not_mem_nil, List.nodup_nil⟩
def twosOf (n : Nat) : List Pr := (List.range (n / 2)).map fun i => (2 * i, 2 * i + 1)
def pathOf (n : Nat) : List Pr := (List.range (n - 1)).map fun i => (i, i + 1)
theorem map_nodup {α β : Type} {f : α → β} {l : List α} (h : l.Nodup) (hf : ∀ x ∈ l, ∀ y ∈ l, f x = f y → x = y) : (l.map f).Nodup := by
  refine List.pairwise_map.mpr (h.imp_of_mem ?_)
  intro x y mx my hxy e
  exact hxy (hf x mx y my e)
theorem twos_good (n : Nat) : Good n (twosOf n) := by
  refine ⟨fun p m => ?_, ?_⟩
  · obtain ⟨i, mi, rfl⟩ := List.mem_map.mp m
    have := List.mem_range.mp mi
    exact mem_pairsOf.mpr ⟨by show 2 * i < 2 * i + 1; omega, by show 2 * i + 1 < n; omega⟩
  · refine map_nodup List.nodup_range fun x _ y _ e => ?_
    have := congrArg Prod.fst e
    simp only at this
    omega
theorem path_good (n : Nat) : Good n (pathOf n) := by
  refine ⟨fun p m => ?_, ?_⟩
  · obtain ⟨i, mi, rfl⟩ := List.mem_map.mp m
    have := List.mem_range.mp mi
    exact mem_pairsOf.mpr ⟨by show i < i + 1; omega, by show i + 1 < n; omega⟩
  · refine map_nodup List.nodup_range fun x _ y _ e => ?_
    exact congrArg Prod.fst e
theorem ring_good {n : Nat} (h : 2 < n) : Good n (pathOf n ++ [(0, n - 1)]) := by
  have g := path_good n
  refine ⟨fun p m => ?_, ?_⟩
  · rcases List.mem_append.mp m with m | m
    · exact g.ins p m
    · rw [List.mem_singleton.mp m]
      exact mem_pairsOf.mpr ⟨by show 0 < n - 1; omega, by show n - 1 < n; omega⟩
  · refine List.nodup_append.mpr ⟨g.nd, by simp, ?_⟩
    intro x mx y my e
    subst e
    rw [List.mem_singleton.mp my] at mx
    obtain ⟨i, mi, e⟩ := List.mem_map.mp mx
    simp only [Prod.mk.injEq] at e
    omega
theorem len_sub {α : Type} [BEq α] [LawfulBEq α] : ∀ {l m : List α}, l.Nodup → (∀ x ∈ l, x ∈ m) → l.length ≤ m.length
  | [], _, _, _ => Nat.zero_le _
  | x :: l, m, h, hs => by
    have h' := List.nodup_cons.mp h
    have hx := hs x List.mem_cons_self
    have ih := len_sub (m := m.erase x) h'.2 fun y my => (List.mem_erase_of_ne (fun e : y = x => h'.1 (by rw [← e]; exact my))).mpr (hs y (List.mem_cons_of_mem _ my))
    rw [List.length_erase_of_mem hx] at ih
    have : 0 < m.length := List.length_pos_of_mem hx
    rw [List.length_cons]
    omega
theorem Good.len {n : Nat} {ps : List Pr} (g : Good n ps) (h : n ≤ 20) : ps.length ≤ 400 := by
  have h1 : ps.length ≤ (pairsOf n).length := len_sub g.nd g.ins
  exact Nat.le_trans h1 (pairsOf_len h)
/-! ## places called otherwise -/
theorem getD_inj {nm : List Nat} (h : nm.Nodup) {i j : Nat} (hi : i < nm.length) (hj : j < nm.length) (e : nm.getD i 0 = nm.getD j 0) : i = j := by
  rw [List.getD_eq_getElem?_getD, List.getD_eq_getElem?_getD, List.getElem?_eq_getElem hi, List.getElem?_eq_getElem hj] at e
  exact (List.getElem_inj h).mp e
theorem getD_lt {nm : List Nat} {n : Nat} (h : ∀ x ∈ nm, x < n) {i : Nat} (hi : i < nm.length) : nm.getD i 0 < n := by
  rw [List.getD_eq_getElem?_getD, List.getElem?_eq_getElem hi]
  exact h _ (List.getElem_mem hi)
theorem ren_good {n : Nat} {nm : List Nat} {ps : List Pr} (hp : nm.Perm (List.range n)) (g : Good n ps) : (ps.map (ren nm)).Nodup ∧ ∀ p ∈ ps.map (ren nm), p ∈ pairsOf n := by
  have hl : nm.length = n := by rw [hp.length_eq, List.length_range]
  have hnd : nm.Nodup := hp.nodup_iff.mpr List.nodup_range
  have hlt : ∀ x ∈ nm, x < n := fun x m => List.mem_range.mp (hp.mem_iff.mp m)
  constructor
  · refine map_nodup g.nd fun p mp q mq e => ?_
    have bp := mem_pairsOf.mp (g.ins p mp)
    have bq := mem_pairsOf.mp (g.ins q mq)
    have e1 : min (nm.getD p.1 0) (nm.getD p.2 0) = min (nm.getD q.1 0) (nm.getD q.2 0) := congrArg Prod.fst e
    have e2 : max (nm.getD p.1 0) (nm.getD p.2 0) = max (nm.getD q.1 0) (nm.getD q.2 0) := congrArg Prod.snd e
    have n1 : nm.getD p.1 0 ≠ nm.getD p.2 0 := fun z => by
      have := getD_inj hnd (by omega) (by omega) z
      omega
    have cases4 : (nm.getD p.1 0 = nm.getD q.1 0 ∧ nm.getD p.2 0 = nm.getD q.2 0) ∨ (nm.getD p.1 0 = nm.getD q.2 0 ∧ nm.getD p.2 0 = nm.getD q.1 0) := by omega
    rcases cases4 with ⟨a, b⟩ | ⟨a, b⟩
    · have a' := getD_inj hnd (by omega) (by omega) a
      have b' := getD_inj hnd (by omega) (by omega) b
      exact Prod.ext a' b'
    · have a' := getD_inj hnd (by omega) (by omega) a
      have b' := getD_inj hnd (by omega) (by omega) b
      omega
  · intro r mr
    obtain ⟨p, mp, rfl⟩ := List.mem_map.mp mr
    have bp := mem_pairsOf.mp (g.ins p mp)
    have n1 : nm.getD p.1 0 ≠ nm.getD p.2 0 := fun z => by
      have := getD_inj hnd (by omega) (by omega) z
      omega
    have l1 := getD_lt hlt (i := p.1) (by omega)
    have l2 := getD_lt hlt (i := p.2) (by omega)
    refine mem_pairsOf.mpr ⟨?_, ?_⟩
    · show min _ _ < max _ _
      omega
    · show max _ _ < n
      omega
theorem names_of {n : Nat} {es : List PyData} (h : es.Perm (dNs (List.range n))) : ∃ nm : List Nat, es = dNs nm ∧ nm.Perm (List.range n) := by
  let g : PyData → Nat := fun d => match d with
    | .int i => i.toNat
    | _ => 0
  have hg : ∀ i : Nat, g (dN i) = i := fun i => by
    show (i : Int).toNat = i
    simp
  refine ⟨es.map g, ?_, ?_⟩
  · rw [show dNs (es.map g) = es.map (fun d => dN (g d)) from List.map_map]
    have hid : ∀ d ∈ es, dN (g d) = d := fun d m => by
      obtain ⟨i, _, rfl⟩ := List.mem_map.mp (h.mem_iff.mp m)
      rw [hg]
    exact ((List.map_congr_left hid).trans (List.map_id' es)).symm
  · have := h.map g
    rw [show (dNs (List.range n)).map g = List.range n by
      rw [show (dNs (List.range n)).map g = (List.range n).map (fun i => g (dN i)) from List.map_map]
      exact List.map_id'' hg _] at this
    exact this
end Lt

set_option Elab.async false
set_option linter.all false
set_option maxRecDepth 100000
set_option maxHeartbeats 8000000
namespace Lt
open PySem PySem.Spec PyProof.Rows L2
/-! ## a range with a step -/
theorem walk_c {Hs : Hp} {Qd : Hp → Prop} {T : V → Hp → (Hp → Prop) → Prop} {lo c : Int} {n : Nat} (Pv : Nat → Hp → Prop) (h0 : Pv 0 Hs) (hs : ∀ (i : Nat) H, i < n → Pv i H → T (.int (lo + (i : Nat) * c)) H (Pv (i + 1))) (hd : ∀ H, Pv n H → Qd H) : WalkGoal (Itc lo c n) Hs Qd T := by
  refine ⟨fun i m H => m + i = n ∧ Pv i H, ⟨n, by omega, h0⟩, ?_⟩
  rintro i m H ⟨e, p⟩
  by_cases c : i < n
  · refine .inr ⟨c, Pv (i + 1), fun H' p' => ⟨m - 1, by omega, by omega, p'⟩, ?_⟩
    rintro x H' ⟨rfl, rfl⟩
    exact hs i H' c p
  · obtain rfl : i = n := by omega
    exact .inl ⟨Nat.le_refl _, hd H p⟩
theorem lcc {S : List Addr} {J : Hp → Prop} {M : Nat → List PyData → Prop} {g : TG} {tt : TT} {te : TE} {vs : List Nat} {σ : Slots} {H1 : Hp} {D : Addr} {Qd : Hp → Prop} {lo c : Int} {n : Nat} (C : LcC S J H1 D) (j0 : J H1) (m0 : M 0 [])
    (turn : ∀ (i : Nat) H ys ds, i < n → LcS S J M H1 D i H ys ds → TurnGoal S J M g tt te vs σ H1 D i (.int (lo + (i : Nat) * c)) H)
    (done : ∀ H ys ds, LcS S J M H1 D n H ys ds → Qd H) : LcGoal (Itc lo c n) g tt te vs σ H1 D Qd :=
  walk_c (lo := lo) (c := c) (n := n) (LcAny S J M H1 D) (C.zero j0 m0) (fun i H hi ⟨ys, ds, L⟩ => turn i H ys ds hi L) (fun H ⟨ys, ds, L⟩ => done H ys ds L)
theorem rg_two : ∀ n : Nat, n ≤ 12 → 1 ≤ n → (2 : Int) ≠ 0 ∧ (2 : Int).natAbs < 1073741824 ∧ Builtin.Range.small 0 ((n : Int) - 1) 2 = true ∧ Builtin.Range.rangeSize 0 ((n : Int) - 1) 2 = ((n / 2 : Nat) : Int) := by decide
section
variable {P : Program} {w : World} {K : PySem.W.Frag} {mg : Str → Option Value} {base : Heap} {f : Addr} {fd : FuncData}
/-- where the law's web stands: its places n, its way wy, all pairs in a list, its ties in a list -/
def WebSt (H0 : Hp) (s d c : Addr) (lo hi n wy : Nat) (σ : Slots) (H : Hp) : Prop := ∃ e es t ts ps y7,
  σ = [some (.ref s), some (.int lo), some (.int hi), some (.int n), some (.int wy), some (.ref e), some (.ref t), y7, none, none] ∧ Stk s d c H ∧ Fr [s, d] H0 H ∧
  H0 e = none ∧ H e = some (.lst es) ∧ Tps H es (dPs (pairsOf n)) ∧ H0 t = none ∧ H t = some (.lst ts) ∧ Tps H ts (dPs ps) ∧ Good n ps
def rd__law_web_1 (K : PySem.W.Frag) : TS := (tPar 3 4 (tCons (tOp rAddI (tVar 1) (tCall spDraw [] E0 (tCons (tVar 0) (tCons (tOp rAddI (tOp rSubI (tVar 2) (tVar 1)) (tC (.int 1))) tNil)))) (tCons (tCall spDraw [] E0 (tCons (tVar 0) (tCons (tC (.int 11)) tNil))) tNil)))
def rd__law_web_2 (K : PySem.W.Frag) : TS := (tAsg (tTup (tCons (tCall spPairs [] E0 (tCons (tVar 3) tNil)) (tCons (tLst tNil) tNil))) (gTup K 2 (gCons (gName 5) (gCons (gName 6) gNil))))
def rd__law_web_3 (K : PySem.W.Frag) : TS := (tIfS (tTest (tOp rEq (tVar 4) (tC (.int 0)))) (tAsg (tIf (tTest (tOp rEq (tCall spDraw [] E0 (tCons (tVar 0) (tCons (tC (.int 2)) tNil))) (tC (.int 0)))) (tVar 5) (tLst tNil)) (gName 6)) tNext)
def rd__law_web_4 (K : PySem.W.Frag) : TS := (tIfS (tTest (tOp rEq (tVar 4) (tC (.int 1)))) (tAsg (tLc (iRng3 (tCons (tC (.int 0)) (tCons (tOp rSubI (tVar 3) (tC (.int 1))) (tCons (tC (.int 2)) tNil)))) (gName 8) tYes (tTup (tCons (tVar 8) (tCons (tOp rAddI (tVar 8) (tC (.int 1))) tNil))) [8]) (gName 6)) tNext)
def rd__law_web_5 (K : PySem.W.Frag) : TS := (tIfS (tTest (tOp (rMem K) (tVar 4) (tTup (tCons (tC (.int 2)) (tCons (tC (.int 3)) tNil))))) (tAsg (tOp rCat (tLc (iRng1 (tCons (tOp rSubI (tVar 3) (tC (.int 1))) tNil)) (gName 8) tYes (tTup (tCons (tVar 8) (tCons (tOp rAddI (tVar 8) (tC (.int 1))) tNil))) [8]) (tOp rRep (tLst (tCons (tTup (tCons (tC (.int 0)) (tCons (tOp rSubI (tVar 3) (tC (.int 1))) tNil))) tNil)) (tCB cInt1 (tCons (tAndV (tOp rEq (tVar 4) (tC (.int 3))) (tOp rGtI (tVar 3) (tC (.int 2)))) tNil)))) (gName 6)) tNext)
def rd__law_web_6 (K : PySem.W.Frag) : TS := (tIfS (tTest (tOp rEq (tVar 4) (tC (.int 4)))) (tAsg (tLc (iList K (tVar 5)) (gName 9) (tTest (tOp rNe (tOp rModI (tOp (rIxT K) (tVar 9) (tC (.int 0))) (tC (.int 2))) (tOp rModI (tOp (rIxT K) (tVar 9) (tC (.int 1))) (tC (.int 2))))) (tVar 9) [9]) (gName 6)) tNext)
def rd__law_web_7 (K : PySem.W.Frag) : TS := (tIfS (tTest (tOp rGtI (tVar 4) (tC (.int 4)))) (tSeq (tAsg (tOp rAddI (tC (.int 1)) (tCall spDraw [] E0 (tCons (tVar 0) (tCons (tC (.int 3)) tNil)))) (gName 7)) (tAsg (tLc (iList K (tVar 5)) (gName 9) (tTest (tOp rLtI (tCall spDraw [] E0 (tCons (tVar 0) (tCons (tC (.int 4)) tNil))) (tVar 7))) (tVar 9) [9]) (gName 6))) tNext)
def rd__law_web_8 (K : PySem.W.Frag) : TS := (tIfS (tAnd (tTest (tOp rLtI (tVar 4) (tC (.int 5)))) (tTest (tOp rEq (tCall spDraw [] E0 (tCons (tVar 0) (tCons (tC (.int 3)) tNil))) (tC (.int 0))))) (tAsg (tLc (iList K (tVar 5)) (gName 9) (tTest (tOp (rNMem K) (tVar 9) (tVar 6))) (tVar 9) [9]) (gName 6)) tNext)
def rd__law_web_9 (K : PySem.W.Frag) : TS := (tRet (tCall spNamed [] E0 (tCons (tVar 3) (tCons (tVar 6) (tCons (tCall spShuf [] E0 (tCons (tVar 0) (tCons (tLstRg (tRg1 (tVar 3))) tNil))) tNil)))))
def rdS__law_web_9 (K : PySem.W.Frag) : TS := rd__law_web_9 K
def rdS__law_web_8 (K : PySem.W.Frag) : TS := tSeq (rd__law_web_8 K) (rdS__law_web_9 K)
def rdS__law_web_7 (K : PySem.W.Frag) : TS := tSeq (rd__law_web_7 K) (rdS__law_web_8 K)
def rdS__law_web_6 (K : PySem.W.Frag) : TS := tSeq (rd__law_web_6 K) (rdS__law_web_7 K)
def rdS__law_web_5 (K : PySem.W.Frag) : TS := tSeq (rd__law_web_5 K) (rdS__law_web_6 K)
def rdS__law_web_4 (K : PySem.W.Frag) : TS := tSeq (rd__law_web_4 K) (rdS__law_web_5 K)
def rdS__law_web_3 (K : PySem.W.Frag) : TS := tSeq (rd__law_web_3 K) (rdS__law_web_4 K)
def rdS__law_web_2 (K : PySem.W.Frag) : TS := tSeq (rd__law_web_2 K) (rdS__law_web_3 K)
def rdS__law_web_1 (K : PySem.W.Frag) : TS := tSeq (rd__law_web_1 K) (rdS__law_web_2 K)
def spWeb : Sp := fun vs H Q _ => ∃ (s d c : Addr) (lo hi : Nat), vs = [.ref s, .int lo, .int hi] ∧ Stk s d c H ∧ 1 ≤ lo ∧ lo ≤ hi ∧ hi ≤ 12 ∧
  ∀ H' r n ps, lo ≤ n → n ≤ hi → WebOk n ps → Fr [s, d] H H' → Stk s d c H' → Tp H' r (dW n ps) → Q r H'
variable {H0 : Hp} {s d c : Addr} {lo hi n wy : Nat} {D : Ends} {σ : Slots} {H : Hp}
theorem WebSt.off (L : WebSt H0 s d c lo hi n wy σ H) (h0 : Stk s d c H0) {x : Addr} (hx : H0 x = none) : x ∉ [s, d] := by
  obtain ⟨a, b, _⟩ := h0.apart hx
  simp [a, b]
theorem off_of (h0 : Stk s d c H0) {x : Addr} (hx : H0 x = none) : x ∉ [s, d] := by
  obtain ⟨a, b, _⟩ := h0.apart hx
  simp [a, b]
/-- the ties are another list now -/
theorem web_put {e t : Addr} {es ts : List V} {ps : List Pr} {y7 y6 : Option V} {H1 : Hp} (h0 : Stk s d c H0) (kk : Stk s d c H1) (ff : Fr [s, d] H0 H) (f1 : Fr [s, d] H H1) (ne : H0 e = none) (ee : H e = some (.lst es)) (te : Tps H es (dPs (pairsOf n)))
    (nt : H0 t = none) (et : H1 t = some (.lst ts)) (tt : Tps H1 ts (dPs ps)) (g : Good n ps) :
    WebSt H0 s d c lo hi n wy (([some (.ref s), some (.int lo), some (.int hi), some (.int n), some (.int wy), some (.ref e), y6, y7, none, none] : Slots).set 6 (some (.ref t))) H1 :=
  ⟨e, es, t, ts, ps, y7, rfl, kk, ff.trans f1, ne, f1.keep _ _ ee (off_of h0 ne), te.fr f1, nt, et, tt, g⟩
theorem web_0 (h0 : Stk s d c H0) (L : WebSt H0 s d c lo hi n wy σ H) (k : ∀ σ H, WebSt H0 s d c lo hi n wy σ H → D.nx σ H) : rd__law_web_3 K D σ H := by
  have L0 := L
  obtain ⟨e, es, t, ts, ps, y7, rfl, kk, ff, ne, ee, te, nt, et, tt, g⟩ := L
  refine ⟨_, rfl, rfl, _, rfl, ite2 (fun c1 => ?_) (fun c1 => k _ _ L0)⟩
  refine ⟨_, rfl, s, d, c, 2, rfl, kk, by decide, by decide, fun H4 r4 hr4 k4 f4 => ⟨rfl, _, rfl, ite2 (fun c2 => ?_) (fun c2 => ?_)⟩⟩
  · refine ⟨_, rfl, k _ _ (web_put h0 k4 ff f4 ne ee te ne (f4.keep _ _ ee (off_of h0 ne)) (te.fr f4) (Good.sub (List.Sublist.refl _)))⟩
  · refine ⟨szl (Nat.zero_le _), fun p hp => k _ _ ?_⟩
    exact web_put h0 (h0.add k4 ((ff.trans f4).free hp)) ff (f4.add hp) ne ee te ((ff.trans f4).free hp) upd_same .nil (Good.nil n)
theorem web_1 (h0 : Stk s d c H0) (hn : 1 ≤ n) (hn2 : n ≤ 12) (L : WebSt H0 s d c lo hi n wy σ H) (k : ∀ σ H, WebSt H0 s d c lo hi n wy σ H → D.nx σ H) : rd__law_web_4 K D σ H := by
  have L0 := L
  obtain ⟨e, es, t, ts, ps, y7, rfl, kk, ff, ne, ee, te, nt, et, tt, g⟩ := L
  refine ⟨_, rfl, rfl, _, rfl, ite2 (fun c1 => ?_) (fun c1 => k _ _ L0)⟩
  refine ⟨_, rfl, _, _, rfl, rfl, 0, (n : Int) - 1, 2, n / 2, rfl, rg_two n hn2 hn, fun D1 hD1 => ?_⟩
  have nD := ff.free hD1
  obtain ⟨a1, a2, a3⟩ := h0.apart nD
  have C : LcC [s, d] (Stk s d c) H D1 := ⟨hD1, off_of h0 nD, fun H o j => j.far a1 a2 a3⟩
  refine lcc (M := fun i ds => ds = made (List.range (n / 2)) (fun i => some (2 * i, 2 * i + 1)) dP i) C kk rfl ?_ ?_
  · intro i H2 zs ds hi2 L
    have ei := range_at hi2
    refine ⟨rfl, tyes ⟨_, rfl, _, rfl, _, _, rfl, rfl, szl (Nat.le_of_ble_eq_true rfl), fun p hp => ?_⟩⟩
    refine L.put C (d := dP (2 * i, 2 * i + 1)) (by omega) (Fr.new hp) (h0.add L.j ((ff.trans L.fr).free hp)) (Tp.pr (p := (2 * i, 2 * i + 1)) ?_) ?_
    · rw [upd_same]
      simp only [Option.some.injEq, HO.tup.injEq, List.cons.injEq, V.int.injEq, and_true]
      omega
    · rw [L.m]
      exact (made_some (f := fun i => some (2 * i, 2 * i + 1)) (en := dP) ei rfl).symm
  · intro H2 zs ds L
    have em := L.m
    rw [made_all (by rw [List.length_range]; exact Nat.le_refl _), filterMap_one] at em
    have td := L.dat
    rw [em] at td
    exact k _ _ (web_put h0 L.j ff L.fr ne ee te nD L.at_ td (twos_good n))
theorem web_4 (h0 : Stk s d c H0) (hn2 : n ≤ 12) (L : WebSt H0 s d c lo hi n wy σ H) (k : ∀ σ H, WebSt H0 s d c lo hi n wy σ H → D.nx σ H) : rd__law_web_6 K D σ H := by
  have L0 := L
  obtain ⟨e, es, t, ts, ps, y7, rfl, kk, ff, ne, ee, te, nt, et, tt, g⟩ := L
  refine ⟨_, rfl, rfl, _, rfl, ite2 (fun c1 => ?_) (fun c1 => k _ _ L0)⟩
  refine ⟨_, rfl, e, rfl, ⟨_, SqL.of ee⟩, fun D1 hD1 => ?_⟩
  have nD := ff.free hD1
  obtain ⟨a1, a2, a3⟩ := h0.apart nD
  have C : LcC [s, d] (Stk s d c) H D1 := ⟨hD1, off_of h0 nD, fun H o j => j.far a1 a2 a3⟩
  refine lcl (M := SubM (pairsOf n)) C (SqL.of ee) (off_of h0 ne) kk ⟨[], rfl, List.nil_sublist _⟩ ?_ ?_
  · intro i x H2 zs ds ex L
    obtain ⟨p, ep, tp⟩ := te.pr_at ex
    have hi : i < 1000 := by
      have := (List.getElem?_eq_some_iff.mp ep).1
      have := pairsOf_len (n := n) (by omega)
      omega
    have tp2 := tp.fr L.fr
    obtain ⟨b, rfl, eb⟩ := tp2.pr_inv
    refine ⟨rfl, _, rfl, b, _, 0, _, rfl, rfl, SqT.of eb, atI_nat (j := 0) rfl, _, _, rfl, rfl, (show (0 : Int) < 2 by decide), _, rfl, b, _, 1, _, rfl, rfl, SqT.of eb, atI_nat (j := 1) rfl, _, _, rfl, rfl, (show (0 : Int) < 2 by decide), rfl, _, rfl, ite2 (fun c2 => ?_) (fun c2 => ?_)⟩
    · exact ⟨_, rfl, L.put C (by omega) Fr.refl L.j tp2 (L.m.put ep)⟩
    · exact L.skip C Fr.refl L.j L.m.skip
  · intro H2 zs ds L
    obtain ⟨qs, rfl, sb⟩ := L.m
    exact k _ _ (web_put h0 L.j ff L.fr ne ee te nD L.at_ L.dat (Good.sub (sb.trans (List.take_sublist _ _))))
theorem web_5 (h0 : Stk s d c H0) (hn2 : n ≤ 12) (L : WebSt H0 s d c lo hi n wy σ H) (k : ∀ σ H, WebSt H0 s d c lo hi n wy σ H → D.nx σ H) : rd__law_web_7 K D σ H := by
  have L0 := L
  obtain ⟨e, es, t, ts, ps, y7, rfl, kk, ff, ne, ee, te, nt, et, tt, g⟩ := L
  refine ⟨_, rfl, _, _, rfl, rfl, _, rfl, ite2 (fun c1 => ?_) (fun c1 => k _ _ L0)⟩
  refine ⟨_, rfl, s, d, c, 3, rfl, kk, by decide, by decide, fun H4 r4 hr4 k4 f4 => ⟨_, _, rfl, rfl, ?_⟩⟩
  have ee4 := f4.keep _ _ ee (off_of h0 ne)
  have te4 := te.fr f4
  refine ⟨_, rfl, e, rfl, ⟨_, SqL.of ee4⟩, fun D1 hD1 => ?_⟩
  have ff4 := ff.trans f4
  have nD := ff4.free hD1
  obtain ⟨a1, a2, a3⟩ := h0.apart nD
  have C : LcC [s, d] (Stk s d c) H4 D1 := ⟨hD1, off_of h0 nD, fun H o j => j.far a1 a2 a3⟩
  refine lcl (M := SubM (pairsOf n)) C (SqL.of ee4) (off_of h0 ne) k4 ⟨[], rfl, List.nil_sublist _⟩ ?_ ?_
  · intro i x H2 zs ds ex L
    obtain ⟨p, ep, tp⟩ := te4.pr_at ex
    have hi : i < 1000 := by
      have := (List.getElem?_eq_some_iff.mp ep).1
      have := pairsOf_len (n := n) (by omega)
      omega
    refine ⟨rfl, _, rfl, s, d, c, 4, rfl, L.j, by decide, by decide, fun H5 r5 hr5 k5 f5 => ⟨_, rfl, _, _, rfl, rfl, _, rfl, ite2 (fun c2 => ?_) (fun c2 => ?_)⟩⟩
    · exact ⟨_, rfl, L.put C (by omega) f5 k5 ((tp.fr L.fr).fr f5) (L.m.put ep)⟩
    · exact L.skip C f5 k5 L.m.skip
  · intro H2 zs ds L
    obtain ⟨qs, rfl, sb⟩ := L.m
    exact k _ _ (web_put h0 L.j ff4 L.fr ne ee4 te4 nD L.at_ L.dat (Good.sub (sb.trans (List.take_sublist _ _))))
theorem web_6 (h0 : Stk s d c H0) (hn2 : n ≤ 12) (L : WebSt H0 s d c lo hi n wy σ H) (k : ∀ σ H, WebSt H0 s d c lo hi n wy σ H → D.nx σ H) : rd__law_web_8 K D σ H := by
  have L0 := L
  obtain ⟨e, es, t, ts, ps, y7, rfl, kk, ff, ne, ee, te, nt, et, tt, g⟩ := L
  refine ⟨_, rfl, _, _, rfl, rfl, _, rfl, ite2 (fun c1 => ?_) (fun c1 => iteF (k _ _ L0))⟩
  refine ⟨_, rfl, s, d, c, 3, rfl, kk, by decide, by decide, fun H4 r4 hr4 k4 f4 => ⟨rfl, _, rfl, ite2 (fun c2 => ?_) (fun c2 => ?_)⟩⟩
  · have ee4 := f4.keep _ _ ee (off_of h0 ne)
    have et4 := f4.keep _ _ et (off_of h0 nt)
    have te4 := te.fr f4
    have tt4 := tt.fr f4
    refine ⟨_, rfl, e, rfl, ⟨_, SqL.of ee4⟩, fun D1 hD1 => ?_⟩
    have ff4 := ff.trans f4
    have nD := ff4.free hD1
    obtain ⟨a1, a2, a3⟩ := h0.apart nD
    have C : LcC [s, d] (Stk s d c) H4 D1 := ⟨hD1, off_of h0 nD, fun H o j => j.far a1 a2 a3⟩
    have gb : Below 100 ps := fun p m => pairsOf_below (n := n) (by omega) p (g.ins p m)
    have gl := g.len (by omega)
    refine lcl (M := SubM (pairsOf n)) C (SqL.of ee4) (off_of h0 ne) k4 ⟨[], rfl, List.nil_sublist _⟩ ?_ ?_
    · intro i x H2 zs ds ex L
      obtain ⟨p, ep, tp⟩ := te4.pr_at ex
      have hi : i < 1000 := by
        have := (List.getElem?_eq_some_iff.mp ep).1
        have := pairsOf_len (n := n) (by omega)
        omega
      have tp2 := tp.fr L.fr
      refine ⟨rfl, _, rfl, _, rfl, nmem_lP tp2 (L.fr.keep _ _ et4 (off_of h0 nt)) (tt4.fr L.fr) (pairsOf_below (n := n) (by omega) p (List.mem_of_getElem? ep)) gb (by omega) ⟨_, rfl, ite2 (fun c2 => ?_) (fun c2 => ?_)⟩⟩
      · exact ⟨_, rfl, L.put C (by omega) Fr.refl L.j tp2 (L.m.put ep)⟩
      · exact L.skip C Fr.refl L.j L.m.skip
    · intro H2 zs ds L
      obtain ⟨qs, rfl, sb⟩ := L.m
      exact k _ _ (web_put h0 L.j ff4 L.fr ne ee4 te4 nD L.at_ L.dat (Good.sub (sb.trans (List.take_sublist _ _))))
  · exact k _ _ ⟨e, es, t, ts, ps, y7, rfl, k4, ff.trans f4, ne, f4.keep _ _ ee (off_of h0 ne), te.fr f4, nt, f4.keep _ _ et (off_of h0 nt), tt.fr f4, g⟩
end
end Lt

set_option Elab.async false
set_option linter.all false
set_option maxRecDepth 100000
set_option maxHeartbeats 8000000
namespace Lt
open PySem PySem.Spec PyProof.Rows L2
section
variable {P : Program} {w : World} {K : PySem.W.Frag} {mg : Str → Option Value} {base : Heap} {f : Addr} {fd : FuncData}
variable {H0 : Hp} {s d c : Addr} {lo hi n wy : Nat} {D : Ends} {σ : Slots} {H : Hp}
theorem web_23 (h0 : Stk s d c H0) (hn : 1 ≤ n) (hn2 : n ≤ 12) (L : WebSt H0 s d c lo hi n wy σ H) (k : ∀ σ H, WebSt H0 s d c lo hi n wy σ H → D.nx σ H) : rd__law_web_5 K D σ H := by
  have L0 := L
  obtain ⟨e, es, t, ts, ps, y7, rfl, kk, ff, ne, ee, te, nt, et, tt, g⟩ := L
  refine ⟨_, rfl, szl (Nat.le_of_ble_eq_true rfl), fun p0 hp0 => ?_⟩
  have fq : Fr [s, d] H (upd H p0 (.tup [.int 2, .int 3])) := Fr.new hp0
  have n0 := ff.free hp0
  have kq := h0.add kk (o := .tup [.int 2, .int 3]) n0
  have Lq : WebSt H0 s d c lo hi n wy [some (.ref s), some (.int lo), some (.int hi), some (.int n), some (.int wy), some (.ref e), some (.ref t), y7, none, none] (upd H p0 (.tup [.int 2, .int 3])) :=
    ⟨e, es, t, ts, ps, y7, rfl, kq, ff.trans fq, ne, at_add ee hp0, te.fr fq, nt, at_add et hp0, tt.fr fq, g⟩
  by_cases hw : wy < 1000
  rotate_left
  · refine .inl ⟨.int wy, [.int 2, .int 3], .int _, .tup (SqT.of upd_same) (.cons (.int _) (.cons (.int _) .nil)), rfl, rfl, _, rfl, ?_⟩
    have e1 : (PyData.eqv (.int 2) (.int wy)) = false := by
      show ((2 : Int) == (wy : Int)) = false
      exact beq_eq_false_iff_ne.mpr (by omega)
    have e2 : (PyData.eqv (.int 3) (.int wy)) = false := by
      show ((3 : Int) == (wy : Int)) = false
      exact beq_eq_false_iff_ne.mpr (by omega)
    simp only [List.any_cons, List.any_nil, e1, e2, Bool.or_false, Bool.or_self]
    exact iteF (k _ _ Lq)
  refine mem_tN (i := wy) (is := [2, 3]) upd_same (.cons (.int _) (.cons (.int _) .nil)) hw (by simp) (by decide) ⟨_, rfl, ite2 (fun c1 => ?_) (fun c1 => k _ _ Lq)⟩
  have ff1 := ff.trans fq
  have ee1 := at_add (o := .tup [.int 2, .int 3]) ee hp0
  have te1 := te.fr fq
  -- the path
  refine ⟨_, rfl, _, _, rfl, rfl, (n : Int) - 1, rfl, by omega, by omega, fun D1 hD1 => ?_⟩
  have hm : ((n : Int) - 1).toNat = n - 1 := by omega
  have nD := ff1.free hD1
  obtain ⟨a1, a2, a3⟩ := h0.apart nD
  have C : LcC [s, d] (Stk s d c) (upd H p0 (.tup [.int 2, .int 3])) D1 := ⟨hD1, off_of h0 nD, fun H o j => j.far a1 a2 a3⟩
  refine lcr (M := fun i ds => ds = made (List.range (n - 1)) (fun i => some (i, i + 1)) dP i) C kq rfl ?_ ?_
  · intro i H2 zs ds hi2 L
    rw [hm] at hi2
    have ei := range_at hi2
    refine ⟨rfl, tyes ⟨_, rfl, _, rfl, _, _, rfl, rfl, szl (Nat.le_of_ble_eq_true rfl), fun p hp => ?_⟩⟩
    refine L.put C (d := dP (i, i + 1)) (by omega) (Fr.new hp) (h0.add L.j ((ff1.trans L.fr).free hp)) (Tp.pr (p := (i, i + 1)) ?_) ?_
    · rw [upd_same]
      simp only [Option.some.injEq, HO.tup.injEq, List.cons.injEq, V.int.injEq, and_true]
      omega
    · rw [L.m]
      exact (made_some (f := fun i => some (i, i + 1)) (en := dP) ei rfl).symm
  · intro H2 zs ds L
    have em := L.m
    rw [hm, made_all (by rw [List.length_range]; exact Nat.le_refl _), filterMap_one] at em
    have td := L.dat
    rw [em] at td
    have ff2 := ff1.trans L.fr
    -- [(0, many - 1)]
    refine ⟨_, rfl, _, _, rfl, rfl, szl (Nat.le_of_ble_eq_true rfl), fun p1 hp1 => ⟨szl (Nat.le_of_ble_eq_true rfl), fun l1 hl1 => ?_⟩⟩
    have f1 : Fr [s, d] H2 (upd H2 p1 (.tup [.int 0, .int ((n : Int) - 1)])) := Fr.new hp1
    have f2 : Fr [s, d] H2 (upd (upd H2 p1 (.tup [.int 0, .int ((n : Int) - 1)])) l1 (.lst [.ref p1])) := f1.add hl1
    have k2 : Stk s d c (upd (upd H2 p1 (.tup [.int 0, .int ((n : Int) - 1)])) l1 (.lst [.ref p1])) := h0.add (h0.add L.j (ff2.free hp1)) ((ff2.trans f1).free hl1)
    have eD2 := f2.keep _ _ L.at_ (off_of h0 nD)
    have eP : upd (upd H2 p1 (.tup [.int 0, .int ((n : Int) - 1)])) l1 (.lst [.ref p1]) p1 = some (.tup [.int (0 : Nat), .int (n - 1 : Nat)]) := by
      rw [upd_ne (ne_new upd_same hl1), upd_same]
      simp only [Option.some.injEq, HO.tup.injEq, List.cons.injEq, V.int.injEq, and_true]
      omega
    have lz := td.length
    rw [List.length_map, List.length_map, List.length_range] at lz
    -- int(way == 3 and many > 2)
    have fin0 : ∀ {b : Bool}, (b = true → 2 < n) → ∀ (l2 : Addr), upd (upd H2 p1 (.tup [.int 0, .int ((n : Int) - 1)])) l1 (.lst [.ref p1]) l2 = none →
        WebSt H0 s d c lo hi n wy [some (.ref s), some (.int lo), some (.int hi), some (.int n), some (.int wy), some (.ref e), some (.ref t), y7, none, none]
          (upd (upd (upd H2 p1 (.tup [.int 0, .int ((n : Int) - 1)])) l1 (.lst [.ref p1])) l2 (.lst (if b then [.ref p1] else []))) ∧
        ∀ l3, upd (upd (upd H2 p1 (.tup [.int 0, .int ((n : Int) - 1)])) l1 (.lst [.ref p1])) l2 (.lst (if b then [.ref p1] else [])) l3 = none →
          WebSt H0 s d c lo hi n wy (([some (.ref s), some (.int lo), some (.int hi), some (.int n), some (.int wy), some (.ref e), some (.ref t), y7, none, none] : Slots).set 6 (some (.ref l3)))
            (upd (upd (upd (upd H2 p1 (.tup [.int 0, .int ((n : Int) - 1)])) l1 (.lst [.ref p1])) l2 (.lst (if b then [.ref p1] else []))) l3 (.lst (zs ++ if b then [.ref p1] else []))) := by
      intro b hb l2 hl2
      have f3 : Fr [s, d] H2 (upd (upd (upd H2 p1 (.tup [.int 0, .int ((n : Int) - 1)])) l1 (.lst [.ref p1])) l2 (.lst (if b then [.ref p1] else []))) := f2.add hl2
      have k3 := h0.add k2 (o := .lst (if b then [.ref p1] else [])) ((ff2.trans f2).free hl2)
      refine ⟨⟨e, es, t, ts, ps, y7, rfl, k3, ff2.trans f3, ne, ?_, ?_, nt, ?_, ?_, g⟩, fun l3 hl3 => ?_⟩
      · exact (L.fr.trans f3).keep _ _ ee1 (off_of h0 ne)
      · exact te1.fr (L.fr.trans f3)
      · exact (L.fr.trans f3).keep _ _ (at_add et hp0) (off_of h0 nt)
      · exact (tt.fr fq).fr (L.fr.trans f3)
      · have f4 : Fr [s, d] H2 _ := f3.add (o := .lst (zs ++ if b then [.ref p1] else [])) hl3
        have tz := td.fr f4
        cases b with
        | false =>
          refine web_put (ps := pathOf n) h0 (h0.add k3 ((ff2.trans f3).free hl3)) ff1 (L.fr.trans f4) ne ee1 te1 ((ff2.trans f3).free hl3) upd_same ?_ (path_good n)
          show Tps _ (zs ++ []) _
          rw [List.append_nil]
          exact tz
        | true =>
          refine web_put (ps := pathOf n ++ [(0, n - 1)]) h0 (h0.add k3 ((ff2.trans f3).free hl3)) ff1 (L.fr.trans f4) ne ee1 te1 ((ff2.trans f3).free hl3) upd_same ?_ (ring_good (hb rfl))
          rw [dPs_app]
          refine Tps.app tz (Tps.one (Tp.pr (p := (0, n - 1)) ?_))
          have g4 := f4.trans (Fr.refl (S := [s, d]))
          exact at_add (at_add eP hl2) hl3
    have fin : ∀ {b : Bool}, (b = true → 2 < n) → ∀ (Q : V → Hp → Prop), (∀ l3 H', WebSt H0 s d c lo hi n wy (([some (.ref s), some (.int lo), some (.int hi), some (.int n), some (.int wy), some (.ref e), some (.ref t), y7, none, none] : Slots).set 6 (some (.ref l3))) H' → Q (.ref l3) H') →
        rRep (.ref l1) (.int (if b then 1 else 0)) (upd (upd H2 p1 (.tup [.int 0, .int ((n : Int) - 1)])) l1 (.lst [.ref p1])) fun y H' => rCat (.ref D1) y H' Q := by
      intro b hb Q hQ
      refine ⟨l1, _, _, rfl, rfl, upd_same, by split <;> omega, by split <;> omega, szl ?_, fun l2 hl2 => ?_⟩
      · show 1 * _ ≤ 100000
        split <;> decide
      · have er : (List.replicate (if b = true then (1 : Int) else 0).toNat [V.ref p1]).flatten = if b then [.ref p1] else [] := by cases b <;> rfl
        rw [er]
        obtain ⟨_, w2⟩ := fin0 hb l2 hl2
        refine ⟨D1, l2, zs, _, rfl, rfl, at_add eD2 hl2, upd_same, szl ?_, fun l3 hl3 => hQ _ _ (w2 l3 hl3)⟩
        have : (if b = true then [V.ref p1] else ([] : List V)).length ≤ 1 := by cases b <;> simp
        omega
    refine ⟨_, rfl, rfl, _, rfl, ite2 (fun c2 => ?_) (fun c2 => ?_)⟩
    · refine ⟨_, rfl, _, _, rfl, rfl, .inr ⟨_, rfl, ?_⟩⟩
      exact fin (b := decide ((2 : Int) < n)) (fun z => by have := of_decide_eq_true z; omega) _ fun l3 H' w => k _ _ w
    · refine .inr ⟨_, rfl, ?_⟩
      exact fin (b := false) (fun z => by cases z) _ fun l3 H' w => k _ _ w
theorem web_end (h0 : Stk s d c H0) (hn : 1 ≤ n) (hn2 : n ≤ 12) (L : WebSt H0 s d c lo hi n wy σ H)
    (k : ∀ r ps H', WebOk n ps → Fr [s, d] H0 H' → Stk s d c H' → Tp H' r (dW n ps) → D.rt r H') : rd__law_web_9 K D σ H := by
  obtain ⟨e, es, t, ts, ps, y7, rfl, kk, ff, ne, ee, te, nt, et, tt, g⟩ := L
  refine ⟨_, rfl, _, rfl, _, rfl, _, rfl, n, rfl, RgOk.of_le (by decide) (by omega) (by decide) (by omega), fun q hq => ?_⟩
  have er : rgV 0 n = (List.range n).map fun i => V.int (i : Nat) := by
    unfold rgV
    rw [show ((n : Int) - 0).toNat = n by omega]
    refine List.map_congr_left fun i _ => ?_
    rw [Int.zero_add]
  rw [er]
  have nq := ff.free hq
  have fq : Fr [s, d] H (upd H q (.lst ((List.range n).map fun i => V.int (i : Nat)))) := Fr.new hq
  have kq := h0.add kk (o := .lst ((List.range n).map fun i => V.int (i : Nat))) nq
  obtain ⟨a1, a2, a3⟩ := h0.apart nq
  have tn : ∀ (H : Hp) (is : List Nat), Tps H (is.map fun i => V.int (i : Nat)) (dNs is) := fun H is => by
    induction is with
    | nil => exact .nil
    | cons x xs ih => exact .cons (.int _) ih
  refine ⟨s, d, c, q, _, _, rfl, kq, upd_same, tn _ _, by rw [List.length_map, List.length_range]; omega, a1, a2, fun H1 p ys es1 pm f1 np k1 ep tp => ?_⟩
  obtain ⟨nm, rfl, hnm⟩ := names_of pm
  have ey : ys = nm.map fun i => V.int (i : Nat) := by
    have : ∀ {ys : List V} {is : List Nat}, Tps H1 ys (dNs is) → ys = is.map fun i => V.int (i : Nat) := by
      intro ys is
      induction is generalizing ys with
      | nil => intro h; cases h; rfl
      | cons x xs ih =>
        intro h
        cases h with
        | cons a b =>
          cases a
          rw [ih b]
          rfl
    exact this tp
  subst ey
  have f2 := fq.trans f1
  obtain ⟨r1, r2⟩ := ren_good hnm g
  have hl : nm.length = n := by rw [hnm.length_eq, List.length_range]
  refine ⟨n, t, p, ts, ps, nm, rfl, .inl (f2.keep _ _ et (off_of h0 nt)), tt.fr f2, by have := g.len (by omega); omega, ep, fun pr m => ?_, r1, fun H2 r qs f3 tr hp hu => ?_⟩
  · have := mem_pairsOf.mp (g.ins pr m)
    omega
  · have k2 : Stk s d c H2 := by
      obtain ⟨ds, cs, sm, tn, b1, b2, b3, b4, b5⟩ := k1.ex
      exact ⟨⟨ds, cs, sm, tn, f3.keep _ _ b1 List.not_mem_nil, f3.keep _ _ b2 List.not_mem_nil, b3, f3.keep _ _ b4 List.not_mem_nil, b5⟩, h0.sd, h0.sc, h0.dc⟩
    exact k r qs H2 ⟨hn, hn2, hu, fun x m => r2 x (hp.mem_iff.mp m)⟩ ((ff.trans f2).trans f3.of0) k2 tr
theorem ok_web (F : FnP K "_law_web" s__law_web f fd) (g_list : mg "list" = none) (g_range : mg "range" = none) (g_int : mg "int" = none) {f__law_named : Addr} {fd__law_named : FuncData} (F__law_named : FnP K "_law_named" s__law_named f__law_named fd__law_named) (m__law_named : mg "_law_named" = some (.ref f__law_named)) {f__law_draw : Addr} {fd__law_draw : FuncData} (F__law_draw : FnP K "_law_draw" s__law_draw f__law_draw fd__law_draw) (m__law_draw : mg "_law_draw" = some (.ref f__law_draw)) {f__law_pairs : Addr} {fd__law_pairs : FuncData} (F__law_pairs : FnP K "_law_pairs" s__law_pairs f__law_pairs fd__law_pairs) (m__law_pairs : mg "_law_pairs" = some (.ref f__law_pairs)) {f__law_shuffled : Addr} {fd__law_shuffled : FuncData} (F__law_shuffled : FnP K "_law_shuffled" s__law_shuffled f__law_shuffled fd__law_shuffled) (m__law_shuffled : mg "_law_shuffled" = some (.ref f__law_shuffled)) (G__law_draw : FnG P w K mg base CX0 1 f__law_draw fd__law_draw ["stock", "size"] spDraw) (G__law_pairs : FnG P w K mg base CX0 1 f__law_pairs fd__law_pairs ["many"] spPairs)
    (G__law_named : FnG P w K mg base CX0 1 f__law_named fd__law_named ["many", "ties", "names"] spNamed) (G__law_shuffled : FnG P w K mg base CX0 2 f__law_shuffled fd__law_shuffled ["stock", "row"] spShuf) : FnG P w K mg base CX0 3 f fd ["stock", "least", "most"] spWeb := by
  have b__law_draw : Binds K fd__law_draw ["stock", "size"] [] := F__law_draw.bindsN fun _ _ _ _ _ _ us hl => match us, hl with | [_, _], _ => rfl
  have b__law_pairs : Binds K fd__law_pairs ["many"] [] := F__law_pairs.bindsN fun _ _ _ _ _ _ us hl => match us, hl with | [_], _ => rfl
  have b__law_named : Binds K fd__law_named ["many", "ties", "names"] [] := F__law_named.bindsN fun _ _ _ _ _ _ us hl => match us, hl with | [_, _, _], _ => rfl
  have b__law_shuffled : Binds K fd__law_shuffled ["stock", "row"] [] := F__law_shuffled.bindsN fun _ _ _ _ _ _ us hl => match us, hl with | [_, _], _ => rfl
  refine okG0 F sc__law_web (fun vs H Q E h => ?_) (fun cdv A outer s0 H vs Q E hS hr h => ?_)
  · obtain ⟨_, _, _, _, _, rfl, _⟩ := h
    rfl
  · obtain ⟨s, d, c, lo, hi, rfl, hk, h1, h2, h3, q⟩ := h
    refine ⟨rdS__law_web_1 K, (pss_cons (ps_par (i := 3) (j := 4) (by rfl) sc__law_web.nd rfl rfl (by decide) rfl rfl (pa_cons (pe_op op_add (pv 1) (pe_callG G__law_draw hS (hr.mono (by decide)) (by rfl) m__law_draw F__law_draw.kp b__law_draw .nil pass0 (pa_cons (pv 0) (pa_cons (pe_op op_add (pe_op op_sub (pv 2) (pv 1)) pe_int) pa_nil)))) (pa_cons (pe_callG G__law_draw hS (hr.mono (by decide)) (by rfl) m__law_draw F__law_draw.kp b__law_draw .nil pass0 (pa_cons (pv 0) (pa_cons pe_int pa_nil))) pa_nil)) (by rfl))
      (pss_cons (ps_asg (pe_tup (pa_cons (pe_callG G__law_pairs hS (hr.mono (by decide)) (by rfl) m__law_pairs F__law_pairs.kp b__law_pairs .nil pass0 (pa_cons (pv 3) pa_nil)) (pa_cons (pe_lst pa_nil) pa_nil))) (pg_tupK K (n := 2) (by rfl) (pgs_cons (pg_name (i := 5) sc__law_web.nd rfl (Or.inl rfl)) (pgs_cons (pg_name (i := 6) sc__law_web.nd rfl (Or.inr rfl)) pgs_nil))))
      (pss_cons (ps_if (pt_cmpR op_eq (pv 4) pe_int (nomark _)) (pss_one (ps_set (i := 6) sc__law_web.nd rfl (Or.inr rfl) (pe_ifExp (pt_cmpR op_eq (pe_callG G__law_draw hS (hr.mono (by decide)) (by rfl) m__law_draw F__law_draw.kp b__law_draw .nil pass0 (pa_cons (pv 0) (pa_cons pe_int pa_nil))) pe_int (nomark _)) (pv 5) (pe_lst pa_nil)))) pss_nil)
      (pss_cons (ps_if (pt_cmpR op_eq (pv 4) pe_int (nomark _)) (pss_one (ps_set (i := 6) sc__law_web.nd rfl (Or.inr rfl) (pe_lc (own := [("a", 8)]) (g := (gName 8)) (tt := tYes) rfl sc__law_web.nd (pi_range3 rfl g_range (pa_cons pe_int (pa_cons (pe_op op_sub (pv 3) pe_int) (pa_cons pe_int pa_nil)))) (blkOk_by (own := [("a", 8)]) (N := N__law_web) (sc := defScope s__law_web) (by decide +kernel)) (fun _ _ _ _ _ => (pg_name (i := 8) sc__law_web.nd rfl (Or.inl rfl))) (fun _ _ _ _ _ => pts_nil) (fun _ _ _ _ _ => (pe_tup (pa_cons (pv 8) (pa_cons (pe_op op_add (pv 8) pe_int) pa_nil))))))) pss_nil)
      (pss_cons (ps_if (pt_cmpR (memK K (hu80_of hr)) (pv 4) (pe_tup (pa_cons pe_int (pa_cons pe_int pa_nil))) rfl) (pss_one (ps_set (i := 6) sc__law_web.nd rfl (Or.inr rfl) (pe_op op_cat (pe_lc (own := [("a", 8)]) (g := (gName 8)) (tt := tYes) rfl sc__law_web.nd (pi_range1 rfl g_range (pa_cons (pe_op op_sub (pv 3) pe_int) pa_nil)) (blkOk_by (own := [("a", 8)]) (N := N__law_web) (sc := defScope s__law_web) (by decide +kernel)) (fun _ _ _ _ _ => (pg_name (i := 8) sc__law_web.nd rfl (Or.inl rfl))) (fun _ _ _ _ _ => pts_nil) (fun _ _ _ _ _ => (pe_tup (pa_cons (pv 8) (pa_cons (pe_op op_add (pv 8) pe_int) pa_nil))))) (pe_op op_rep (pe_lst (pa_cons (pe_tup (pa_cons pe_int (pa_cons (pe_op op_sub (pv 3) pe_int) pa_nil))) pa_nil)) (pe_callTy call_int1 (by rfl) g_int (by decide +kernel) (pa_cons (pe_and (pe_cmpR op_eq (pv 4) pe_int (nomark _)) (pe_one (pe_cmpR op_gt (pv 3) pe_int (nomark _)))) pa_nil)))))) pss_nil)
      (pss_cons (ps_if (pt_cmpR op_eq (pv 4) pe_int (nomark _)) (pss_one (ps_set (i := 6) sc__law_web.nd rfl (Or.inr rfl) (pe_lc (own := [("pair", 9)]) (g := (gName 9)) rfl sc__law_web.nd (pi_list (pv 5)) (blkOk_by (own := [("pair", 9)]) (N := N__law_web) (sc := defScope s__law_web) (by decide +kernel)) (fun _ _ _ _ _ => (pg_name (i := 9) sc__law_web.nd rfl (Or.inl rfl))) (fun _ _ _ _ _ => (pts_one (pt_cmpR op_ne (pe_op op_mod (pe_ix (ixT K) (pv 9) pe_int (fun _ _ => rfl)) pe_int) (pe_op op_mod (pe_ix (ixT K) (pv 9) pe_int (fun _ _ => rfl)) pe_int) (nomark _)))) (fun _ _ _ _ _ => (pv 9))))) pss_nil)
      (pss_cons (ps_if (pt_cmpR op_gt (pv 4) pe_int (nomark _)) (pss_cons (ps_set (i := 7) sc__law_web.nd rfl (Or.inr rfl) (pe_op op_add pe_int (pe_callG G__law_draw hS (hr.mono (by decide)) (by rfl) m__law_draw F__law_draw.kp b__law_draw .nil pass0 (pa_cons (pv 0) (pa_cons pe_int pa_nil)))))
      (pss_one (ps_set (i := 6) sc__law_web.nd rfl (Or.inr rfl) (pe_lc (own := [("pair", 9)]) (g := (gName 9)) rfl sc__law_web.nd (pi_list (pv 5)) (blkOk_by (own := [("pair", 9)]) (N := N__law_web) (sc := defScope s__law_web) (by decide +kernel)) (fun _ _ _ _ _ => (pg_name (i := 9) sc__law_web.nd rfl (Or.inl rfl))) (fun _ _ _ _ _ => (pts_one (pt_cmpR op_lt (pe_callG G__law_draw hS (hr.mono (by decide)) (by rfl) m__law_draw F__law_draw.kp b__law_draw .nil pass0 (pa_cons (pv 0) (pa_cons pe_int pa_nil))) (pv 7) (nomark _)))) (fun _ _ _ _ _ => (pv 9)))))) pss_nil)
      (pss_cons (ps_if (PW.pt (pw_and (pt_cmpR op_lt (pv 4) pe_int (nomark _)) (pw_and1 (pt_cmpR op_eq (pe_callG G__law_draw hS (hr.mono (by decide)) (by rfl) m__law_draw F__law_draw.kp b__law_draw .nil pass0 (pa_cons (pv 0) (pa_cons pe_int pa_nil))) pe_int (nomark _))))) (pss_one (ps_set (i := 6) sc__law_web.nd rfl (Or.inr rfl) (pe_lc (own := [("pair", 9)]) (g := (gName 9)) rfl sc__law_web.nd (pi_list (pv 5)) (blkOk_by (own := [("pair", 9)]) (N := N__law_web) (sc := defScope s__law_web) (by decide +kernel)) (fun _ _ _ _ _ => (pg_name (i := 9) sc__law_web.nd rfl (Or.inl rfl))) (fun _ _ _ _ _ => (pts_one (pt_cmpR (nmemK K (hu80_of hr)) (pv 9) (pv 6) rfl))) (fun _ _ _ _ _ => (pv 9))))) pss_nil)
      (pss_one (ps_ret (pe_callG G__law_named hS (hr.mono (by decide)) (by rfl) m__law_named F__law_named.kp b__law_named .nil pass0 (pa_cons (pv 3) (pa_cons (pv 6) (pa_cons (pe_callG G__law_shuffled hS (hr.mono (by decide)) (by rfl) m__law_shuffled F__law_shuffled.kp b__law_shuffled .nil pass0 (pa_cons (pv 0) (pa_cons (pe_listRg rfl (by rfl) g_list (prg_1 (by rfl) g_range (pv 3))) pa_nil))) pa_nil)))))))))))))), ?_⟩
    -- many, way
    refine ⟨_, rfl, _, rfl, _, rfl, _, rfl, _, _, rfl, rfl, _, _, rfl, rfl, ?_⟩
    refine ⟨s, d, c, hi - lo + 1, by show [V.ref s, V.int ((hi : Int) - lo + 1)] = _; rw [show ((hi : Int) - lo + 1) = ((hi - lo + 1 : Nat) : Int) by omega], hk, by omega, by omega, fun H1 r hr1 k1 f1 => ?_⟩
    refine ⟨_, _, rfl, rfl, _, rfl, s, d, c, 11, rfl, k1, by omega, by omega, fun H2 wy hw k2 f2 => ⟨_, _, rfl, ?_⟩⟩
    obtain ⟨n, hn⟩ : ∃ n : Nat, (lo : Int) + (r : Int) = (n : Int) := ⟨lo + r, by omega⟩
    dsimp only
    rw [hn]
    have n1 : lo ≤ n := by omega
    have n2 : n ≤ hi := by omega
    -- every, ties
    refine ⟨_, rfl, n, rfl, by omega, fun H3 e es f3 ne ee te => ⟨szl (Nat.zero_le _), fun t ht => ⟨szl (Nat.le_of_ble_eq_true rfl), fun p hp => ?_⟩⟩⟩
    refine ⟨p, _, rfl, SqT.of upd_same, rfl, _, _, rfl, _, _, rfl, rfl, ?_⟩
    have f03 : Fr [s, d] H H3 := (f1.trans f2).trans f3.of0
    have k3 : Stk s d c H3 := by
      obtain ⟨ds, cs, sm, tn, a1, a2, a3, a4, a5⟩ := k2.ex
      exact ⟨⟨ds, cs, sm, tn, f3.keep _ _ a1 List.not_mem_nil, f3.keep _ _ a2 List.not_mem_nil, a3, f3.keep _ _ a4 List.not_mem_nil, a5⟩, hk.sd, hk.sc, hk.dc⟩
    have nt := f03.free ht
    have fT : Fr [s, d] H3 (upd (upd H3 t (.lst [])) p (.tup [.ref e, .ref t])) := (Fr.new ht).add hp
    have kT : Stk s d c (upd (upd H3 t (.lst [])) p (.tup [.ref e, .ref t])) := (k3.add k3 ht).add (k3.add k3 ht) hp
    have st0 : WebSt H s d c lo hi n wy [some (.ref s), some (.int lo), some (.int hi), some (.int n), some (.int wy), some (.ref e), some (.ref t), none, none, none] (upd (upd H3 t (.lst [])) p (.tup [.ref e, .ref t])) :=
      ⟨e, es, t, [], [], none, rfl, kT, f03.trans fT, (f1.trans f2).free ne, at_add (at_add ee ht) hp, te.fr fT, nt, at_add upd_same hp, .nil, Good.nil n⟩
    exact web_0 (K := K) hk st0 fun σ H' L => web_1 (K := K) hk (by omega) (by omega) L fun σ H' L => web_23 (K := K) hk (by omega) (by omega) L fun σ H' L => web_4 (K := K) hk (by omega) L fun σ H' L =>
      web_5 (K := K) hk (by omega) L fun σ H' L => web_6 (K := K) hk (by omega) L fun σ H' L => web_end (K := K) hk (by omega) (by omega) L fun r ps H' ok f k t => q H' r n ps n1 n2 ok f k t
end
end Lt

set_option Elab.async false
set_option linter.all false
set_option maxRecDepth 100000
set_option maxHeartbeats 4000000
namespace Lt
open PySem PySem.Spec PyProof.Rows L2
/-! ## data with lists in it, none of which is one of S -/
mutual
inductive Dz (S : List Addr) (H : Hp) : V → PyData → Prop
  | non : Dz S H .non .none
  | bl (b : Bool) : Dz S H (.bl b) (.bool b)
  | int (i : Int) : Dz S H (.int i) (.int i)
  | str (x : Str) : Dz S H (.str x) (.str x)
  | tup {a : Addr} {xs : List V} {ds : List PyData} : H a = some (.tup xs) → DzA S H xs ds → Dz S H (.ref a) (.tuple ds)
  | lst {a : Addr} {xs : List V} {ds : List PyData} : H a = some (.lst xs) → a ∉ S → DzA S H xs ds → Dz S H (.ref a) (.list ds)
inductive DzA (S : List Addr) (H : Hp) : List V → List PyData → Prop
  | nil : DzA S H [] []
  | cons {v : V} {vs : List V} {d : PyData} {ds : List PyData} : Dz S H v d → DzA S H vs ds → DzA S H (v :: vs) (d :: ds)
end
section
variable {K : PySem.W.Frag} {S : List Addr} {H H1 : Hp}
mutual
theorem Dz.dp : ∀ {d : PyData} {v : V}, Dz S H v d → Dp K H v d
  | _, _, .non => .non
  | _, _, .bl b => .bl b
  | _, _, .int i => .int i
  | _, _, .str x => .str x
  | _, _, .tup h t => .tup (SqT.of h) (DzA.dp t)
  | _, _, .lst h _ t => .lst (SqL.of h) (DzA.dp t)
theorem DzA.dp : ∀ {ds : List PyData} {vs : List V}, DzA S H vs ds → DpAll K H vs ds
  | _, _, .nil => .nil
  | _, _, .cons a b => .cons (Dz.dp a) (DzA.dp b)
end
mutual
theorem Dz.fr (f : Fr S H H1) : ∀ {d : PyData} {v : V}, Dz S H v d → Dz S H1 v d
  | _, _, .non => .non
  | _, _, .bl b => .bl b
  | _, _, .int i => .int i
  | _, _, .str x => .str x
  | _, _, .tup h t => .tup (f.tups _ _ h) (DzA.fr f t)
  | _, _, .lst h n t => .lst (f.keep _ _ h n) n (DzA.fr f t)
theorem DzA.fr (f : Fr S H H1) : ∀ {ds : List PyData} {vs : List V}, DzA S H vs ds → DzA S H1 vs ds
  | _, _, .nil => .nil
  | _, _, .cons a b => .cons (Dz.fr f a) (DzA.fr f b)
end
mutual
theorem Dz.no : ∀ {d : PyData} {v : V}, Dz S H v d → Dz [] H v d
  | _, _, .non => .non
  | _, _, .bl b => .bl b
  | _, _, .int i => .int i
  | _, _, .str x => .str x
  | _, _, .tup h t => .tup h (DzA.no t)
  | _, _, .lst h n t => .lst h List.not_mem_nil (DzA.no t)
theorem DzA.no : ∀ {ds : List PyData} {vs : List V}, DzA S H vs ds → DzA [] H vs ds
  | _, _, .nil => .nil
  | _, _, .cons a b => .cons (Dz.no a) (DzA.no b)
end
mutual
theorem Tp.dz : ∀ {d : PyData} {v : V}, Tp H v d → Dz S H v d
  | _, _, .non => .non
  | _, _, .bl b => .bl b
  | _, _, .int i => .int i
  | _, _, .str x => .str x
  | _, _, .tup h t => .tup h (Tps.dz t)
theorem Tps.dz : ∀ {ds : List PyData} {vs : List V}, Tps H vs ds → DzA S H vs ds
  | _, _, .nil => .nil
  | _, _, .cons a b => .cons (Tp.dz a) (Tps.dz b)
end
theorem DzA.length : ∀ {vs : List V} {ds : List PyData}, DzA S H vs ds → vs.length = ds.length
  | _, _, .nil => rfl
  | _, _, .cons _ t => congrArg (· + 1) (DzA.length t)
theorem DzA.mem : ∀ {vs : List V} {ds : List PyData} {v : V}, DzA S H vs ds → v ∈ vs → ∃ d, Dz S H v d
  | _, _, _, .nil, m => absurd m List.not_mem_nil
  | _, _, _, .cons a t, m => by
    rcases List.mem_cons.mp m with rfl | m
    · exact ⟨_, a⟩
    · exact DzA.mem t m
end
/-! ## the kind of a value -/
inductive Ty1 (S : List Addr) (H : Hp) : V → String → Prop
  | non : Ty1 S H .non "NoneType"
  | bl (b : Bool) : Ty1 S H (.bl b) "bool"
  | int (i : Int) : Ty1 S H (.int i) "int"
  | str (x : Str) : Ty1 S H (.str x) "str"
  | tup {a : Addr} {xs : List V} : H a = some (.tup xs) → Ty1 S H (.ref a) "tuple"
  | lst {a : Addr} {xs : List V} : H a = some (.lst xs) → a ∉ S → Ty1 S H (.ref a) "list"
  | dK {a : Addr} {kvs : List (Key × V)} : H a = some (.dK kvs) → a ∉ S → Ty1 S H (.ref a) "dict"
section
variable {K : PySem.W.Frag} {S : List Addr} {H H1 : Hp} {v : V} {t : String} {d : PyData}
theorem Ty1.of (h : Ty1 S H v t) : TyX K H v (.type t) := by
  cases h with
  | non => exact .base .non
  | bl b => exact .base (.bl b)
  | int i => exact .base (.int i)
  | str x => exact .base (.str x)
  | tup e => exact .base (.tup e)
  | lst e _ => exact .base (.lst e)
  | dK e _ => exact .base (.dK e)
theorem Ty1.fr (f : Fr S H H1) (h : Ty1 S H v t) : Ty1 S H1 v t := by
  cases h with
  | non => exact .non
  | bl b => exact .bl b
  | int i => exact .int i
  | str x => exact .str x
  | tup e => exact .tup (f.tups _ _ e)
  | lst e n => exact .lst (f.keep _ _ e n) n
  | dK e n => exact .dK (f.keep _ _ e n) n
theorem Ty1.no (h : Ty1 S H v t) : Ty1 [] H v t := by
  cases h with
  | non => exact .non
  | bl b => exact .bl b
  | int i => exact .int i
  | str x => exact .str x
  | tup e => exact .tup e
  | lst e n => exact .lst e List.not_mem_nil
  | dK e n => exact .dK e List.not_mem_nil
theorem Dz.ty (h : Dz S H v d) : ∃ t, Ty1 S H v t := by
  cases h with
  | non => exact ⟨_, .non⟩
  | bl b => exact ⟨_, .bl b⟩
  | int i => exact ⟨_, .int i⟩
  | str x => exact ⟨_, .str x⟩
  | tup e _ => exact ⟨_, .tup e⟩
  | lst e n _ => exact ⟨_, .lst e n⟩
end
/-- type(x), of dicts, too -/
def zTyW (x : V) (H : Hp) : Option String := match x with
  | .ref p => (match H p with
    | some (.dK _) => some "dict"
    | _ => zTyV (.ref p) H)
  | y => zTyV y H
def kTypW (x : V) (H : Hp) (Q : VK) : Prop := ∃ n, zTyW x H = some n ∧ Q (.ty n) H
theorem Ty1.ty {S : List Addr} {H : Hp} {v : V} {t : String} (h : Ty1 S H v t) : zTyW v H = some t := by
  cases h with
  | non => rfl
  | bl b => rfl
  | int i => rfl
  | str x => rfl
  | tup e => simp only [zTyW, zTyV, e]
  | lst e n => simp only [zTyW, zTyV, e]
  | dK e n => simp only [zTyW, e]
section
variable {X : Cx}
theorem rl_typeW (pins : List (Addr × Obj)) (s : Shared) (σ : Slots) (H : Hp) (x : V) (v : Value) (Q : VK) (I : Inv X pins σ H s) (r : RelV x v) (h : kTypW x H Q) : wpAny (model X.prog X.w) X.A (call (.type "type") [v]) (EP X pins σ Q) X.xe s := by
  obtain ⟨n, e, q⟩ := h
  cases x with
  | ref p =>
    cases ho : H p with
    | none =>
      simp only [zTyW, ho] at e
      exact rl_type pins s σ H _ v Q I r ⟨n, e, q⟩
    | some o =>
      cases o with
      | dK kvs =>
        simp only [zTyW, ho] at e
        cases e
        cases (show v = Value.ref p from r)
        obtain ⟨_, _, _, _, ob, es, ep, g, ex, _⟩ := I.hok p _ ho
        exact call_type_of (Tx := "dict") ⟨ob, g, ex.1⟩ (by decide +kernel) ⟨.ty "dict", H, I, rfl, q⟩
      | _ =>
        simp only [zTyW, ho] at e
        exact rl_type pins s σ H _ v Q I r ⟨n, e, q⟩
  | _ => exact rl_type pins s σ H _ v Q I r ⟨n, e, q⟩
theorem pe_typeW {a : Expr} {ta : TE} {p pos : Pos} (hg : Gl X "type") (hm : X.mg "type" = none) (ha : PE X a ta) (na : starEach [a] X.env = (false, eval a X.env) :: starEach [] X.env := by rfl) :
    PE X (.Call (.Name "type" p) [a] [] pos) (tThenZ ta kTypW) := pe_callTy (call_r1 rl_typeW) hg hm (by decide +kernel) (pa_cons ha pa_nil na) (he := na)
/-! ## a list with a dict in it, shown -/
/-- a list display; the new list is not the table of modules -/
def tLstS (t : TA) : TE := fun σ H Q => t σ H fun xs H1 => xs.length ≤ sizeLine ∧ ∀ p, H1 p = none → p ≠ sysModules → Q (.ref p) (upd H1 p (.lst xs))
theorem pe_lstS {es : List Expr} {t : TA} {pos : Pos} (items : PA X es t) : PE X (.List es pos) (tLstS t) := by
  constructor
  intro pins s σ H Q inv want
  apply wpAny_List_spliced
  apply thn (items.run pos pins s σ H _ inv want)
  rintro us now ⟨xs, G, J, rel, room, go⟩
  have free : G now.heap.objs.size = none := J.hok.fresh (Nat.le_refl _)
  have big := Nat.ne_of_gt J.big
  have ok : ObjOk X.prog X.w (upd G now.heap.objs.size (.lst xs)) (now.heap.push { cls := .type "list", data := .seq us.toArray 0 }) now.heap.objs.size (.lst xs) := ⟨room, us, 0, rel, Heap.get?_push_size _ rfl⟩
  refine ⟨by rw [← rel.length]; exact room, .ref now.heap.objs.size, upd G now.heap.objs.size (.lst xs), ?_, rfl, go _ free big⟩
  exact J.laid (t' := now.toks) (fun _ _ old => Heap.get?_push_of_some _ old) (Nat.le_refl _) ok
mutual
/-- no list, no dict -/
def tupOnly : PyData → Bool
  | .none | .bool _ | .int _ | .str _ => true
  | .tuple xs => tupOnlyA xs
  | .list _ | .dict _ => false
def tupOnlyA : List PyData → Bool
  | [] => true
  | x :: xs => tupOnly x && tupOnlyA xs
end
mutual
theorem reads_nil {h : Heap} : ∀ {d : PyData} {v : Value} {as : List Addr}, tupOnly d = true → Reads h v d as → as = []
  | .none, _, _, _, .none => rfl
  | .bool _, _, _, _, .bool _ => rfl
  | .int _, _, _, _, .int _ _ => rfl
  | .str _, _, _, _, .str _ _ => rfl
  | .tuple ds, _, _, c, .tuple _ _ _ t => reads_nilA (by unfold tupOnly at c; exact c) t
theorem reads_nilA {h : Heap} : ∀ {ds : List PyData} {vs : List Value} {as : List Addr}, tupOnlyA ds = true → ReadsAll h vs ds as → as = []
  | [], _, _, _, .nil => rfl
  | d :: ds, _, _, c, .cons a t => by
    unfold tupOnlyA at c
    obtain ⟨c1, c2⟩ := Bool.and_eq_true_iff.mp c
    rw [reads_nil c1 a, reads_nilA c2 t]
    rfl
end
end

/-! ## sizes, with long numbers -/
structure Sy (d : PyData) : Prop where
  sh : d.showable = true
  ls : d.leavesShort 40 = true
  dep : d.depth ≤ 60
  wt : d.weight ≤ 100000
theorem Sy.shown {d : PyData} (h : Sy d) : d.shown.length ≤ sizeLine := by
  have h1 := PyData.shown_le 40 (by decide) d h.ls
  have h2 := h.wt
  rw [sizeLine_eq]
  omega
/-- a value: data with lists, or a dict of one number -/
def Vd (S : List Addr) (H : Hp) (v : V) (d : PyData) : Prop := Dz S H v d ∨ ∃ (D : Addr) (k x : Int), v = .ref D ∧ d = .dict [(.int k, .int x)] ∧ D ∉ S ∧ H D = some (.dK [(Sum.inl k, .int x)])
theorem Vd.fr {S : List Addr} {H H1 : Hp} {v : V} {d : PyData} (f : Fr S H H1) (h : Vd S H v d) : Vd S H1 v d := by
  rcases h with h | ⟨D, k, x, h1, h2, h3, h4⟩
  · exact .inl (h.fr f)
  · exact .inr ⟨D, k, x, h1, h2, h3, f.keep _ _ h4 h3⟩
theorem Vd.no {S : List Addr} {H : Hp} {v : V} {d : PyData} (h : Vd S H v d) : Vd [] H v d := by
  rcases h with h | ⟨D, k, x, h1, h2, h3, h4⟩
  · exact .inl h.no
  · exact .inr ⟨D, k, x, h1, h2, List.not_mem_nil, h4⟩
mutual
theorem Dz.nodict {S : List Addr} {H : Hp} : ∀ {d : PyData} {v : V}, Dz S H v d → d.hasDict = false
  | _, _, .non => rfl
  | _, _, .bl b => rfl
  | _, _, .int i => rfl
  | _, _, .str x => rfl
  | _, _, .tup h t => by
    unfold PyData.hasDict
    exact DzA.nodict t
  | _, _, .lst h _ t => by
    unfold PyData.hasDict
    exact DzA.nodict t
theorem DzA.nodict {S : List Addr} {H : Hp} : ∀ {ds : List PyData} {vs : List V}, DzA S H vs ds → PyData.hasDictAll ds = false
  | _, _, .nil => rfl
  | _, _, .cons a b => by
    unfold PyData.hasDictAll
    rw [Dz.nodict a, DzA.nodict b]
    rfl
end
/-- repr of a list of two, the first a tuple, the other one any value -/
def rReprY (K : PySem.W.Frag) : List V → Hp → VK → Prop := fun xs H Q => ∃ (L : Addr) (w v : V) (e d : PyData), xs = [.ref L] ∧ L ≠ sysModules ∧ H L = some (.lst [w, v]) ∧ Dz [] H w e ∧ tupOnly e = true ∧ Vd [] H v d ∧ Sy (.list [e, d]) ∧ Q (.str (txt (.list [e, d]))) H
section
variable {X : Cx}
theorem call_reprY (hg : Still X.A) (hu : X.A.units + 80 < cLine) : CallR X (.builtin "repr") (rReprY X.K) := by
  intro pins s σ H vs us Q I r h
  obtain ⟨L, w, v, e, d, rfl, hL, eL, hw, ht, hv, hy, q⟩ := h
  obtain ⟨u, rfl, ru⟩ := vals1 r
  cases (show u = Value.ref L from ru)
  rw [txt_eq] at q
  obtain ⟨its, rv, ⟨o, n, ho, hc, _, hd⟩, _⟩ := I.list (SqL.of eL)
  cases rv with
  | @cons _ u1 _ us1 r1 rv2 =>
  cases rv2 with
  | @cons _ u2 _ us2 r2 rv3 =>
  cases rv3
  obtain ⟨as1, d1⟩ := Dp.reads I e w u1 hw.dp r1
  have ea := reads_nil ht d1
  subst ea
  have hdep := hy.dep
  have fin : ∀ {as2 : List Addr}, Reads s.heap u2 d as2 → (d.hasDict = true → sysModules ∉ as2) → wpAny (model X.prog X.w) X.A (call (.builtin "repr") [.ref L]) (EP X pins σ Q) X.xe s := fun {as2} d2 hs => by
    refine repr_of_reads' (.list ho hc hd (.cons d1 (.cons d2 .nil))) hy.sh ?_ hg (by omega) (fun _ _ e => e) ?_ hy.shown
    · intro hh hm
      have hh2 : d.hasDict = true := by
        have e1 : e.hasDict = false := hw.nodict
        simpa [PyData.hasDict, PyData.hasDictAll, e1] using hh
      rcases List.mem_cons.mp hm with z | z
      · exact hL z.symm
      · rw [List.nil_append, List.append_nil] at z
        exact hs hh2 z
    · intro h' u tk hk
      exact ⟨.str _, H, I.kept hk, ⟨_, rfl⟩, q⟩
  rcases hv with hv | ⟨D, k, x, rfl, rfl, _, eD⟩
  · obtain ⟨as2, d2⟩ := Dp.reads I d v u2 hv.dp r2
    exact fin d2 (fun z => by rw [hv.nodict] at z; cases z)
  · cases (show u2 = Value.ref D from r2)
    obtain ⟨_, hD, vs, kv, ob, es, ep, g, ex, ed, _, pr, _⟩ := I.hok D _ eD
    cases kv with
    | @cons _ q1 _ qs h1 kt =>
    cases kt
    obtain ⟨h11, h12⟩ := h1
    obtain ⟨kk, uu⟩ := q1
    dsimp only at h11 h12
    subst h11
    obtain ⟨t2, rfl⟩ := (show ∃ t, uu = Value.int x t from h12)
    cases hes : es.toList with
    | nil =>
      rw [hes] at pr
      cases pr
    | cons en er =>
      rw [hes] at pr
      cases pr with
      | cons p1 p2 p3 =>
        cases p3
        have hk : ∃ t, en.key = Value.int k t := by
          rcases keyIs_shape (show keyIs (Sum.inl k) en.key = true from p1) with ⟨i, t, a1, a2⟩ | ⟨y, t, a1, a2⟩
          · cases a1
            exact ⟨t, a2⟩
          · cases a1
        obtain ⟨t1, hk⟩ := hk
        refine fin (as2 := D :: [] ++ []) (.dict g ex.1 ed ?_ ?_) (fun _ m => ?_)
        · rw [hes]
          show ReadsAll _ [en.key] [.int k] []
          rw [hk]
          exact .cons (.int k t1) .nil
        · rw [hes]
          show ReadsAll _ [en.val] [.int x] []
          rw [p2]
          exact .cons (.int x t2) .nil
        · have : sysModules = D := by simpa using m
          rw [← this] at hD
          simp at hD
theorem reprYK (hg : Still X.A) (hu : X.A.units + 80 < cLine) (K : PySem.W.Frag) (h : X.K = K := by rfl) : CallR X (.builtin "repr") (rReprY K) := h ▸ call_reprY hg hu
end
theorem FnG.alt {P : Program} {w : World} {K : PySem.W.Frag} {mg : Str → Option Value} {base : Heap} {CX : CXT} {k : Nat} {f : Addr} {fd : FuncData} {ps : List Str} {sp sq : Sp} (F : FnG P w K mg base CX k f fd ps sp) (G : FnG P w K mg base CX k f fd ps sq) :
    FnG P w K mg base CX k f fd ps (fun vs H Q E => sp vs H Q E ∨ sq vs H Q E) :=
  ⟨fun vs H Q E h => h.elim (F.arity vs H Q E) (G.arity vs H Q E), fun A outer s H args us vs Q E a b c d e h => h.elim (F.go A outer s H args us vs Q E a b c d e) (G.go A outer s H args us vs Q E a b c d e)⟩
abbrev cStrI : List V → Hp → VK → Prop := fun xs H Q => ∃ i, xs = [.int i] ∧ i.natAbs.log2 < 1920 ∧ Q (.str (toString i)) H

section
variable {S S' : List Addr} {H : Hp} {D : Addr}
mutual
theorem Dz.mono (h : ∀ a ∈ S', a ∈ S) : ∀ {d : PyData} {v : V}, Dz S H v d → Dz S' H v d
  | _, _, .non => .non
  | _, _, .bl b => .bl b
  | _, _, .int i => .int i
  | _, _, .str x => .str x
  | _, _, .tup e t => .tup e (DzA.mono h t)
  | _, _, .lst e n t => .lst e (fun m => n (h _ m)) (DzA.mono h t)
theorem DzA.mono (h : ∀ a ∈ S', a ∈ S) : ∀ {ds : List PyData} {vs : List V}, DzA S H vs ds → DzA S' H vs ds
  | _, _, .nil => .nil
  | _, _, .cons a b => .cons (Dz.mono h a) (DzA.mono h b)
end
mutual
theorem Dz.off (n0 : H D = none) : ∀ {d : PyData} {v : V}, Dz S H v d → Dz (D :: S) H v d
  | _, _, .non => .non
  | _, _, .bl b => .bl b
  | _, _, .int i => .int i
  | _, _, .str x => .str x
  | _, _, .tup e t => .tup e (DzA.off n0 t)
  | _, _, .lst e n t => .lst e (fun m => (List.mem_cons.mp m).elim (fun z => by
      rw [z, n0] at e
      cases e) n) (DzA.off n0 t)
theorem DzA.off (n0 : H D = none) : ∀ {ds : List PyData} {vs : List V}, DzA S H vs ds → DzA (D :: S) H vs ds
  | _, _, .nil => .nil
  | _, _, .cons a b => .cons (Dz.off n0 a) (DzA.off n0 b)
end
end
/-! ## how much of data there is -/
structure Sq (n w : Nat) (d : PyData) : Prop where
  sh : d.showable = true
  ls : d.leavesShort 40 = true
  dep : d.depth ≤ n
  wt : d.weight ≤ w
theorem Sq.up {n w n' w' : Nat} {d : PyData} (h : Sq n w d) (hn : n ≤ n') (hw : w ≤ w') : Sq n' w' d := ⟨h.sh, h.ls, Nat.le_trans h.dep hn, Nat.le_trans h.wt hw⟩
theorem Sq.int {i : Int} (h : i.natAbs < 10 ^ 12) : Sq 0 64 (.int i) := by
  have s := Sm.int h
  refine ⟨s.sh, ?_, s.dep, s.wt⟩
  unfold PyData.leavesShort
  exact decide_eq_true (Nat.le_trans (PyData.shown_int_le h) (by decide))
theorem Sq.nat {i : Nat} (h : i < 10 ^ 12) : Sq 0 64 (.int i) := Sq.int (by simpa using h)
theorem Sq.bl (b : Bool) : Sq 0 0 (.bool b) := ⟨rfl, rfl, Nat.le_refl _, Nat.le_refl _⟩
theorem Sq.non : Sq 0 0 .none := ⟨rfl, rfl, Nat.le_refl _, Nat.le_refl _⟩
theorem sq_all {n w : Nat} : ∀ {ds : List PyData}, (∀ d ∈ ds, Sq n w d) → PyData.depthAll ds ≤ n ∧ PyData.weightAll ds ≤ ds.length * (w + 1) ∧ PyData.showableAll ds = true ∧ PyData.leavesShortAll 40 ds = true
  | [], _ => ⟨Nat.zero_le _, by unfold PyData.weightAll; omega, rfl, rfl⟩
  | d :: ds, h => by
    obtain ⟨a2, a3, a4, a5⟩ := sq_all fun e m => h e (List.mem_cons_of_mem _ m)
    have b := h d List.mem_cons_self
    refine ⟨?_, ?_, ?_, ?_⟩
    · unfold PyData.depthAll
      exact Nat.max_le.mpr ⟨b.dep, a2⟩
    · unfold PyData.weightAll
      have := b.wt
      rw [List.length_cons, Nat.add_mul]
      omega
    · unfold PyData.showableAll
      rw [b.sh, a4]
      rfl
    · unfold PyData.leavesShortAll
      rw [b.ls, a5]
      rfl
theorem Sq.tup {n w m : Nat} {ds : List PyData} (h : ∀ d ∈ ds, Sq n w d) (hm : ds.length ≤ m) : Sq (n + 1) (m * (w + 1)) (.tuple ds) := by
  obtain ⟨a2, a3, a4, a5⟩ := sq_all h
  refine ⟨a4, a5, ?_, ?_⟩
  · unfold PyData.depth
    omega
  · unfold PyData.weight
    exact Nat.le_trans a3 (Nat.mul_le_mul_right _ hm)
theorem Sq.lst {n w m : Nat} {ds : List PyData} (h : ∀ d ∈ ds, Sq n w d) (hm : ds.length ≤ m) : Sq (n + 1) (m * (w + 1)) (.list ds) := by
  obtain ⟨a2, a3, a4, a5⟩ := sq_all h
  refine ⟨a4, a5, ?_, ?_⟩
  · unfold PyData.depth
    omega
  · unfold PyData.weight
    exact Nat.le_trans a3 (Nat.mul_le_mul_right _ hm)
mutual
theorem ls_up : ∀ d : PyData, d.leavesShort 13 = true → d.leavesShort 40 = true
  | .none, _ => rfl
  | .bool _, _ => rfl
  | .int i, h => by
    unfold PyData.leavesShort at h ⊢
    exact decide_eq_true (Nat.le_trans (of_decide_eq_true h) (by decide))
  | .str x, h => by
    unfold PyData.leavesShort at h ⊢
    exact h
  | .list xs, h => by
    unfold PyData.leavesShort at h ⊢
    exact ls_upA xs h
  | .tuple xs, h => by
    unfold PyData.leavesShort at h ⊢
    exact ls_upA xs h
  | .dict kvs, h => by
    unfold PyData.leavesShort at h ⊢
    exact ls_upK kvs h
theorem ls_upA : ∀ ds : List PyData, PyData.leavesShortAll 13 ds = true → PyData.leavesShortAll 40 ds = true
  | [], _ => rfl
  | d :: ds, h => by
    unfold PyData.leavesShortAll at h ⊢
    obtain ⟨h1, h2⟩ := Bool.and_eq_true_iff.mp h
    rw [ls_up d h1, ls_upA ds h2]
    rfl
theorem ls_upK : ∀ ds : List (PyData × PyData), PyData.leavesShortKv 13 ds = true → PyData.leavesShortKv 40 ds = true
  | [], _ => rfl
  | (k, v) :: ds, h => by
    unfold PyData.leavesShortKv at h ⊢
    obtain ⟨h1, h2⟩ := Bool.and_eq_true_iff.mp h
    obtain ⟨h3, h4⟩ := Bool.and_eq_true_iff.mp h1
    rw [ls_up k h3, ls_up v h4, ls_upK ds h2]
    rfl
end
theorem Sm.sq {n w : Nat} {d : PyData} (h : Sm n w d) : Sq n w d := ⟨h.sh, ls_up d (PyData.leavesShort_of_canLay0 13 d h.lay h.ls), h.dep, h.wt⟩
theorem Sq.dict {n w : Nat} {a b : PyData} (h1 : Sq n w a) (h2 : Sq n w b) : Sq (n + 1) (2 * w + 2) (.dict [(a, b)]) := by
  refine ⟨?_, ?_, ?_, ?_⟩
  · simp only [PyData.showable, PyData.showableKv, h1.sh, h2.sh, Bool.and_self]
  · simp only [PyData.leavesShort, PyData.leavesShortKv, h1.ls, h2.ls, Bool.and_self]
  · have e1 := h1.dep
    have e2 := h2.dep
    simp only [PyData.depth, PyData.depthKv]
    omega
  · have e1 := h1.wt
    have e2 := h2.wt
    simp only [PyData.weight, PyData.weightKv]
    omega
/-- a web beside a value -/
theorem sy_two {a b : PyData} (h1 : Sq 3 60000 a) (h2 : Sq 4 2000 b) : Sy (.list [a, b]) := by
  have h := Sq.lst (n := 4) (w := 0) (m := 0) (ds := []) (fun _ m => absurd m List.not_mem_nil) (Nat.le_refl _)
  refine ⟨?_, ?_, ?_, ?_⟩
  · simp [PyData.showable, PyData.showableAll, h1.sh, h2.sh]
  · simp [PyData.leavesShort, PyData.leavesShortAll, h1.ls, h2.ls]
  · have e1 := h1.dep
    have e2 := h2.dep
    simp only [PyData.depth, PyData.depthAll]
    omega
  · have e1 := h1.wt
    have e2 := h2.wt
    simp only [PyData.weight, PyData.weightAll]
    omega
/-- a value of some size -/
def GoodV (S : List Addr) (H : Hp) (y : V) : Prop := ∃ e, Vd S H y e ∧ Sq 4 2000 e
theorem GoodV.fr {S : List Addr} {H H1 : Hp} {y : V} (f : Fr S H H1) (h : GoodV S H y) : GoodV S H1 y := h.elim fun e q => ⟨e, q.1.fr f, q.2⟩
theorem Vd.mono {S S' : List Addr} {H : Hp} {v : V} {e : PyData} (h : ∀ a ∈ S', a ∈ S) (x : Vd S H v e) : Vd S' H v e := by
  rcases x with x | ⟨D, k, y, a, b, c, d⟩
  · exact .inl (x.mono h)
  · exact .inr ⟨D, k, y, a, b, fun m => c (h _ m), d⟩
theorem GoodV.mono {S S' : List Addr} {H : Hp} {y : V} (h : ∀ a ∈ S', a ∈ S) (x : GoodV S H y) : GoodV S' H y := x.elim fun e q => ⟨e, q.1.mono h, q.2⟩
/-- an item of a value -/
def Item (S : List Addr) (H : Hp) (y : V) : Prop := ∃ e, Dz S H y e ∧ Sq 1 200 e
theorem Item.fr {S : List Addr} {H H1 : Hp} {y : V} (f : Fr S H H1) (h : Item S H y) : Item S H1 y := h.elim fun e q => ⟨e, q.1.fr f, q.2⟩
theorem Item.off {S : List Addr} {H : Hp} {D : Addr} {y : V} (n0 : H D = none) (h : Item S H y) : Item (D :: S) H y := h.elim fun e q => ⟨e, q.1.off n0, q.2⟩
end Lt

set_option Elab.async false
set_option linter.all false
set_option maxRecDepth 100000
set_option maxHeartbeats 4000000
namespace Lt
open PySem PySem.Spec PyProof.Rows L2
/-! ## any data: lists and dicts, too, none of which is one of S -/
def keyD : Key → PyData
  | .inl i => .int i
  | .inr x => .str x
mutual
inductive Dy (S : List Addr) (H : Hp) : V → PyData → Prop
  | non : Dy S H .non .none
  | bl (b : Bool) : Dy S H (.bl b) (.bool b)
  | int (i : Int) : Dy S H (.int i) (.int i)
  | str (x : Str) : Dy S H (.str x) (.str x)
  | tup {a : Addr} {xs : List V} {ds : List PyData} : H a = some (.tup xs) → DyA S H xs ds → Dy S H (.ref a) (.tuple ds)
  | lst {a : Addr} {xs : List V} {ds : List PyData} : H a = some (.lst xs) → a ∉ S → DyA S H xs ds → Dy S H (.ref a) (.list ds)
  | dK {a : Addr} {kvs : List (Key × V)} {ds : List (PyData × PyData)} : H a = some (.dK kvs) → a ∉ S → DyK S H kvs ds → Dy S H (.ref a) (.dict ds)
  | dT {a : Addr} {kvs : List (List Key × V)} {ds : List (PyData × PyData)} : H a = some (.dT kvs) → a ∉ S → DyT S H kvs ds → Dy S H (.ref a) (.dict ds)
inductive DyA (S : List Addr) (H : Hp) : List V → List PyData → Prop
  | nil : DyA S H [] []
  | cons {v : V} {vs : List V} {d : PyData} {ds : List PyData} : Dy S H v d → DyA S H vs ds → DyA S H (v :: vs) (d :: ds)
inductive DyK (S : List Addr) (H : Hp) : List (Key × V) → List (PyData × PyData) → Prop
  | nil : DyK S H [] []
  | cons {k : Key} {v : V} {kvs : List (Key × V)} {d : PyData} {ds : List (PyData × PyData)} : Dy S H v d → DyK S H kvs ds → DyK S H ((k, v) :: kvs) ((keyD k, d) :: ds)
inductive DyT (S : List Addr) (H : Hp) : List (List Key × V) → List (PyData × PyData) → Prop
  | nil : DyT S H [] []
  | cons {k : List Key} {v : V} {kvs : List (List Key × V)} {d : PyData} {ds : List (PyData × PyData)} : Dy S H v d → DyT S H kvs ds → DyT S H ((k, v) :: kvs) ((.tuple (k.map keyD), d) :: ds)
end
section
variable {S S' : List Addr} {H H1 : Hp}
mutual
theorem Dy.fr (f : Fr S H H1) : ∀ {d : PyData} {v : V}, Dy S H v d → Dy S H1 v d
  | _, _, .non => .non
  | _, _, .bl b => .bl b
  | _, _, .int i => .int i
  | _, _, .str x => .str x
  | _, _, .tup h t => .tup (f.tups _ _ h) (DyA.fr f t)
  | _, _, .lst h n t => .lst (f.keep _ _ h n) n (DyA.fr f t)
  | _, _, .dK h n t => .dK (f.keep _ _ h n) n (DyK.fr f t)
  | _, _, .dT h n t => .dT (f.keep _ _ h n) n (DyT.fr f t)
theorem DyA.fr (f : Fr S H H1) : ∀ {ds : List PyData} {vs : List V}, DyA S H vs ds → DyA S H1 vs ds
  | _, _, .nil => .nil
  | _, _, .cons a b => .cons (Dy.fr f a) (DyA.fr f b)
theorem DyK.fr (f : Fr S H H1) : ∀ {ds : List (PyData × PyData)} {vs : List (Key × V)}, DyK S H vs ds → DyK S H1 vs ds
  | _, _, .nil => .nil
  | _, _, .cons a b => .cons (Dy.fr f a) (DyK.fr f b)
theorem DyT.fr (f : Fr S H H1) : ∀ {ds : List (PyData × PyData)} {vs : List (List Key × V)}, DyT S H vs ds → DyT S H1 vs ds
  | _, _, .nil => .nil
  | _, _, .cons a b => .cons (Dy.fr f a) (DyT.fr f b)
end
mutual
theorem Dy.mono (h : ∀ a ∈ S', a ∈ S) : ∀ {d : PyData} {v : V}, Dy S H v d → Dy S' H v d
  | _, _, .non => .non
  | _, _, .bl b => .bl b
  | _, _, .int i => .int i
  | _, _, .str x => .str x
  | _, _, .tup e t => .tup e (DyA.mono h t)
  | _, _, .lst e n t => .lst e (fun m => n (h _ m)) (DyA.mono h t)
  | _, _, .dK e n t => .dK e (fun m => n (h _ m)) (DyK.mono h t)
  | _, _, .dT e n t => .dT e (fun m => n (h _ m)) (DyT.mono h t)
theorem DyA.mono (h : ∀ a ∈ S', a ∈ S) : ∀ {ds : List PyData} {vs : List V}, DyA S H vs ds → DyA S' H vs ds
  | _, _, .nil => .nil
  | _, _, .cons a b => .cons (Dy.mono h a) (DyA.mono h b)
theorem DyK.mono (h : ∀ a ∈ S', a ∈ S) : ∀ {ds : List (PyData × PyData)} {vs : List (Key × V)}, DyK S H vs ds → DyK S' H vs ds
  | _, _, .nil => .nil
  | _, _, .cons a b => .cons (Dy.mono h a) (DyK.mono h b)
theorem DyT.mono (h : ∀ a ∈ S', a ∈ S) : ∀ {ds : List (PyData × PyData)} {vs : List (List Key × V)}, DyT S H vs ds → DyT S' H vs ds
  | _, _, .nil => .nil
  | _, _, .cons a b => .cons (Dy.mono h a) (DyT.mono h b)
end
mutual
theorem Tp.dy : ∀ {d : PyData} {v : V}, Tp H v d → Dy S H v d
  | _, _, .non => .non
  | _, _, .bl b => .bl b
  | _, _, .int i => .int i
  | _, _, .str x => .str x
  | _, _, .tup h t => .tup h (Tps.dy t)
theorem Tps.dy : ∀ {ds : List PyData} {vs : List V}, Tps H vs ds → DyA S H vs ds
  | _, _, .nil => .nil
  | _, _, .cons a b => .cons (Tp.dy a) (Tps.dy b)
end
theorem DyA.app : ∀ {vs ws : List V} {ds es : List PyData}, DyA S H vs ds → DyA S H ws es → DyA S H (vs ++ ws) (ds ++ es)
  | _, _, _, _, .nil, t => t
  | _, _, _, _, .cons a r, t => .cons a (DyA.app r t)
theorem DyA.length : ∀ {vs : List V} {ds : List PyData}, DyA S H vs ds → vs.length = ds.length
  | _, _, .nil => rfl
  | _, _, .cons _ t => congrArg (· + 1) (DyA.length t)
theorem DyA.at : ∀ {vs : List V} {ds : List PyData} {i : Nat} {v : V}, DyA S H vs ds → vs[i]? = some v → ∃ d, ds[i]? = some d ∧ Dy S H v d
  | _, _, 0, _, .cons a _, e => by
    cases e
    exact ⟨_, rfl, a⟩
  | _, _, i + 1, _, .cons _ t, e => DyA.at (i := i) t e
theorem DyA.take : ∀ {vs : List V} {ds : List PyData} (n : Nat), DyA S H vs ds → DyA S H (vs.take n) (ds.take n)
  | _, _, 0, _ => .nil
  | _, _, _ + 1, .nil => .nil
  | _, _, n + 1, .cons a t => .cons a (DyA.take n t)
theorem DyA.drop : ∀ {vs : List V} {ds : List PyData} (n : Nat), DyA S H vs ds → DyA S H (vs.drop n) (ds.drop n)
  | _, _, 0, h => h
  | _, _, _ + 1, .nil => .nil
  | _, _, n + 1, .cons _ t => DyA.drop n t
theorem Dy.ty {v : V} {d : PyData} (h : Dy S H v d) : (∃ t, Ty1 S H v t) ∨ ∃ a kvs, v = .ref a ∧ H a = some (.dT kvs) := by
  cases h with
  | non => exact .inl ⟨_, .non⟩
  | bl b => exact .inl ⟨_, .bl b⟩
  | int i => exact .inl ⟨_, .int i⟩
  | str x => exact .inl ⟨_, .str x⟩
  | tup e _ => exact .inl ⟨_, .tup e⟩
  | lst e n _ => exact .inl ⟨_, .lst e n⟩
  | dK e n _ => exact .inl ⟨_, .dK e n⟩
  | dT e n _ => exact .inr ⟨_, _, rfl, e⟩
end
/-! ## shown -/
/-- the table of modules is a dict that the head knows -/
def SysD (K : PySem.W.Frag) : Prop := ∃ o, K.lookup sysModules = some o ∧ o.cls = .type "dict"
def sysB (K : PySem.W.Frag) : Bool := match K.lookup sysModules with
  | some o => decide (o.cls = .type "dict")
  | none => false
theorem sysB_ok {K : PySem.W.Frag} (h : sysB K = true) : SysD K := by
  unfold sysB at h
  split at h
  · rename_i o ho
    exact ⟨o, ho, of_decide_eq_true h⟩
  · cases h
section
variable {X : Cx} {pins : List (Addr × Obj)} {σ : Slots} {H : Hp} {s : Shared} {S : List Addr}
theorem key_reads (h : Heap) {k : Key} {v : Value} (e : keyIs k v = true) : Reads h v (keyD k) [] := by
  rcases keyIs_shape e with ⟨i, t, rfl, rfl⟩ | ⟨x, t, rfl, rfl⟩
  · exact .int i t
  · exact .str x t
theorem keys_reads (h : Heap) : ∀ {ks : List Key} {vs : List Value}, Vals (ks.map kV) vs → ReadsAll h vs (ks.map keyD) []
  | [], _, r => by
    cases r
    exact .nil
  | k :: ks, _, r => by
    rw [List.map_cons] at r
    cases r with
    | cons r1 r2 =>
      have q := keys_reads h r2
      cases k with
      | inl i =>
        obtain ⟨t, rfl⟩ := (show ∃ t, _ = Value.int i t from r1)
        exact .cons (.int i t) q
      | inr x =>
        obtain ⟨t, rfl⟩ := (show ∃ t, _ = Value.str x t from r1)
        exact .cons (.str x t) q
theorem sys_ne (I : Inv X pins σ H s) (K : SysD X.K) {a : Addr} {o : Obj} (h : s.heap.get? a = some o) (c : o.cls ≠ .type "dict") : sysModules ≠ a := fun e => by
  obtain ⟨o2, h2, c2⟩ := K
  have h3 := I.kIn _ _ h2
  rw [e, h] at h3
  cases h3
  exact c c2
mutual
theorem Dy.reads (I : Inv X pins σ H s) (K : SysD X.K) : ∀ {d : PyData} {v : V} {u : Value}, Dy S H v d → RelV v u → ∃ as, Reads s.heap u d as ∧ sysModules ∉ as
  | _, _, _, .non, r => by
    cases r
    exact ⟨_, .none, List.not_mem_nil⟩
  | _, _, _, .bl b, r => by
    cases r
    exact ⟨_, .bool b, List.not_mem_nil⟩
  | _, _, _, .int i, r => by
    obtain ⟨t, rfl⟩ := r
    exact ⟨_, .int i t, List.not_mem_nil⟩
  | _, _, _, .str x, r => by
    obtain ⟨t, rfl⟩ := r
    exact ⟨_, .str x t, List.not_mem_nil⟩
  | _, _, _, .tup h t, r => by
    cases r
    obtain ⟨its, rv, ⟨o, ho, hc, n, hd⟩, _⟩ := I.tuple (SqT.of h)
    obtain ⟨as, q, m⟩ := DyA.reads I K t rv
    exact ⟨_, .tuple ho hc hd q, m⟩
  | _, _, _, .lst h _ t, r => by
    cases r
    obtain ⟨its, rv, ⟨o, n, ho, hc, _, hd⟩, _⟩ := I.list (SqL.of h)
    obtain ⟨as, q, m⟩ := DyA.reads I K t rv
    refine ⟨_, .list ho hc hd q, fun z => ?_⟩
    rcases List.mem_cons.mp z with z | z
    · exact sys_ne I K ho (by rw [hc]; decide) z
    · exact m z
  | _, _, _, .dK (a := a) h _ t, r => by
    cases r
    obtain ⟨_, hD, vs, kv, ob, es, ep, g, ex, ed, _, pr, _⟩ := I.hok _ _ h
    obtain ⟨as, q1, q2, m⟩ := DyK.reads I K t kv pr
    refine ⟨_, .dict g ex.1 ed q1 q2, fun z => ?_⟩
    rcases List.mem_cons.mp z with z | z
    · rw [← z] at hD
      simp at hD
    · exact m z
  | _, _, _, .dT (a := a) h _ t, r => by
    cases r
    obtain ⟨_, hD, xs, pr, ob, es, ep, g, ex, ed, el, _⟩ := I.hok _ _ h
    obtain ⟨as, q1, q2, m⟩ := DyT.reads I K t pr
    refine ⟨_, .dict g ex.1 ed (as := []) (bs := as) ?_ ?_, fun z => ?_⟩
    · rw [el, List.map_map]
      exact q1
    · rw [el, List.map_map]
      exact q2
    · rcases List.mem_cons.mp z with z | z
      · rw [← z] at hD
        simp at hD
      · exact m z
theorem DyA.reads (I : Inv X pins σ H s) (K : SysD X.K) : ∀ {ds : List PyData} {vs : List V} {us : List Value}, DyA S H vs ds → Vals vs us → ∃ as, ReadsAll s.heap us ds as ∧ sysModules ∉ as
  | _, _, _, .nil, r => by
    cases r
    exact ⟨_, .nil, List.not_mem_nil⟩
  | _, _, _, .cons a t, r => by
    cases r with
    | cons r1 r2 =>
      obtain ⟨as, q1, m1⟩ := Dy.reads I K a r1
      obtain ⟨bs, q2, m2⟩ := DyA.reads I K t r2
      exact ⟨_, .cons q1 q2, fun z => (List.mem_append.mp z).elim m1 m2⟩
theorem DyK.reads (I : Inv X pins σ H s) (K : SysD X.K) : ∀ {ds : List (PyData × PyData)} {kvs : List (Key × V)} {es : List DictEntry} {vs : List (Key × Value)}, DyK S H kvs ds → KV kvs vs → Pairs (mixKind X.prog X.w) es vs →
    ∃ as, ReadsAll s.heap (es.map (·.key)) (ds.map (·.1)) [] ∧ ReadsAll s.heap (es.map (·.val)) (ds.map (·.2)) as ∧ sysModules ∉ as
  | _, _, _, _, .nil, r, p => by
    cases r
    cases p
    exact ⟨_, .nil, .nil, List.not_mem_nil⟩
  | _, _, _, _, .cons a t, r, p => by
    cases r with
    | cons r1 r2 =>
      cases p with
      | cons p1 p2 p3 =>
        obtain ⟨h1, h2⟩ := r1
        dsimp only at h1 h2
        rw [← h1] at p1
        obtain ⟨as, q1, m1⟩ := Dy.reads I K a h2
        rw [← p2] at q1
        obtain ⟨bs, q2, q3, m2⟩ := DyK.reads I K t r2 p3
        exact ⟨_, .cons (key_reads s.heap (show keyIs _ _ = true from p1)) q2, .cons q1 q3, fun z => (List.mem_append.mp z).elim m1 m2⟩
theorem DyT.reads (I : Inv X pins σ H s) (K : SysD X.K) : ∀ {ds : List (PyData × PyData)} {kvs : List (List Key × V)} {xs : List (List Key × Addr × Value)}, DyT S H kvs ds →
    Paired (fun (p : List Key × V) (q : List Key × Addr × Value) => p.1 = q.1 ∧ H q.2.1 = some (.tup (p.1.map kV)) ∧ RelV p.2 q.2.2) kvs xs →
    ∃ as, ReadsAll s.heap (xs.map fun x => Value.ref x.2.1) (ds.map (·.1)) [] ∧ ReadsAll s.heap (xs.map fun x => x.2.2) (ds.map (·.2)) as ∧ sysModules ∉ as
  | _, _, _, .nil, r => by
    cases r
    exact ⟨_, .nil, .nil, List.not_mem_nil⟩
  | _, _, _, .cons a t, r => by
    cases r with
    | cons r1 r2 =>
      obtain ⟨h1, h2, h3⟩ := r1
      dsimp only at h1 h2 h3
      obtain ⟨its, rv, ⟨o, ho, hc, n, hd⟩, _⟩ := I.tuple (SqT.of h2)
      obtain ⟨as, q1, m1⟩ := Dy.reads I K a h3
      obtain ⟨bs, q2, q3, m2⟩ := DyT.reads I K t r2
      exact ⟨_, .cons (.tuple ho hc hd (keys_reads s.heap rv)) q2, .cons q1 q3, fun z => (List.mem_append.mp z).elim m1 m2⟩
end
end
/-- repr of any data -/
def rReprZ (K : PySem.W.Frag) : List V → Hp → VK → Prop := fun xs H Q => ∃ (x : V) (d : PyData), xs = [x] ∧ Dy [] H x d ∧ Sy d ∧ Q (.str (txt d)) H
section
variable {X : Cx}
theorem call_reprZ (hg : Still X.A) (hu : X.A.units + 80 < cLine) (sd : SysD X.K) : CallR X (.builtin "repr") (rReprZ X.K) := by
  intro pins s σ H vs us Q I r h
  obtain ⟨x, d, rfl, hd, hy, q⟩ := h
  obtain ⟨u, rfl, ru⟩ := vals1 r
  obtain ⟨as, rd, nm⟩ := Dy.reads I sd hd ru
  rw [txt_eq] at q
  have hz := hy.shown
  have hdep := hy.dep
  cases rd with
  | none => exact PySem.P.repr_of_none ⟨.str _, H, I.tok _, ⟨_, rfl⟩, by simpa only [PyData.shown] using q⟩
  | bool b => exact PySem.P.repr_of_bool ⟨.str _, H, I.tok _, ⟨_, rfl⟩, by simpa only [PyData.shown] using q⟩
  | int i t =>
    have := hy.sh
    exact PySem.P.repr_of_int (by simpa [PyData.showable] using this) ⟨.str _, H, I.tok _, ⟨_, rfl⟩, by simpa only [PyData.shown] using q⟩
  | str z t => exact PySem.P.repr_of_str ⟨.str _, H, I.tok _, ⟨_, rfl⟩, by simpa only [PyData.shown] using q⟩ (by simpa only [PyData.shown] using hz)
  | list h1 h2 h3 h4 =>
    refine repr_of_reads' (.list h1 h2 h3 h4) hy.sh (fun _ => nm) hg (by omega) (fun _ _ e => e) ?_ hz
    intro h' u tk hk
    exact ⟨.str _, H, I.kept hk, ⟨_, rfl⟩, q⟩
  | tuple h1 h2 h3 h4 =>
    refine repr_of_reads' (.tuple h1 h2 h3 h4) hy.sh (fun _ => nm) hg (by omega) (fun _ _ e => e) ?_ hz
    intro h' u tk hk
    exact ⟨.str _, H, I.kept hk, ⟨_, rfl⟩, q⟩
  | dict h1 h2 h3 h4 h5 =>
    refine repr_of_reads' (.dict h1 h2 h3 h4 h5) hy.sh (fun _ => nm) hg (by omega) (fun _ _ e => e) ?_ hz
    intro h' u tk hk
    exact ⟨.str _, H, I.kept hk, ⟨_, rfl⟩, q⟩
theorem reprZK (hg : Still X.A) (hu : X.A.units + 80 < cLine) (K : PySem.W.Frag) (sd : SysD K) (h : X.K = K := by rfl) : CallR X (.builtin "repr") (rReprZ K) := by
  subst h
  exact call_reprZ hg hu sd
/-! ## type(x) of any data -/
def zTyY (x : V) (H : Hp) : Option String := match x with
  | .ref p => (match H p with
    | some (.dT _) => some "dict"
    | _ => zTyW (.ref p) H)
  | y => zTyW y H
def kTypY (x : V) (H : Hp) (Q : VK) : Prop := ∃ n, zTyY x H = some n ∧ Q (.ty n) H
theorem rl_typeY (pins : List (Addr × Obj)) (s : Shared) (σ : Slots) (H : Hp) (x : V) (v : Value) (Q : VK) (I : Inv X pins σ H s) (r : RelV x v) (h : kTypY x H Q) : wpAny (model X.prog X.w) X.A (call (.type "type") [v]) (EP X pins σ Q) X.xe s := by
  obtain ⟨n, e, q⟩ := h
  cases x with
  | ref p =>
    cases ho : H p with
    | none =>
      simp only [zTyY, ho] at e
      exact rl_typeW pins s σ H _ v Q I r ⟨n, e, q⟩
    | some o =>
      cases o with
      | dT kvs =>
        simp only [zTyY, ho] at e
        cases e
        cases (show v = Value.ref p from r)
        obtain ⟨_, _, _, _, ob, es, ep, g, ex, _⟩ := I.hok p _ ho
        exact call_type_of (Tx := "dict") ⟨ob, g, ex.1⟩ (by decide +kernel) ⟨.ty "dict", H, I, rfl, q⟩
      | _ =>
        simp only [zTyY, ho] at e
        exact rl_typeW pins s σ H _ v Q I r ⟨n, e, q⟩
  | _ => exact rl_typeW pins s σ H _ v Q I r ⟨n, e, q⟩
theorem pe_typeY {a : Expr} {ta : TE} {p pos : Pos} (hg : Gl X "type") (hm : X.mg "type" = none) (ha : PE X a ta) (na : starEach [a] X.env = (false, eval a X.env) :: starEach [] X.env := by rfl) :
    PE X (.Call (.Name "type" p) [a] [] pos) (tThenZ ta kTypY) := pe_callTy (call_r1 rl_typeY) hg hm (by decide +kernel) (pa_cons ha pa_nil na) (he := na)
end
/-- the name of the kind of data -/
def tyD : PyData → String
  | .none => "NoneType"
  | .bool _ => "bool"
  | .int _ => "int"
  | .str _ => "str"
  | .list _ => "list"
  | .tuple _ => "tuple"
  | .dict _ => "dict"
theorem Dy.tyn {S : List Addr} {H : Hp} {v : V} {d : PyData} (h : Dy S H v d) : zTyY v H = some (tyD d) := by
  cases h with
  | non => rfl
  | bl b => rfl
  | int i => rfl
  | str x => rfl
  | tup e _ => simp only [zTyY, zTyW, zTyV, e, tyD]
  | lst e _ _ => simp only [zTyY, zTyW, zTyV, e, tyD]
  | dK e _ _ => simp only [zTyY, zTyW, e, tyD]
  | dT e _ _ => simp only [zTyY, e, tyD]
theorem Dy.tyx {K : PySem.W.Frag} {S : List Addr} {H : Hp} {v : V} {d : PyData} (h : Dy S H v d) : TyX K H v (.type (tyD d)) := by
  cases h with
  | non => exact .base .non
  | bl b => exact .base (.bl b)
  | int i => exact .base (.int i)
  | str x => exact .base (.str x)
  | tup e _ => exact .base (.tup e)
  | lst e _ _ => exact .base (.lst e)
  | dK e _ _ => exact .base (.dK e)
  | dT e _ _ => exact .base (.dT e)
end Lt

set_option Elab.async false
set_option linter.all false
set_option maxRecDepth 100000
set_option maxHeartbeats 8000000
namespace Lt
open PySem PySem.Spec PyProof.Rows L2
/-! ## what is a web -/
abbrev rIsTyp : R2 := fun x y H Q => ∃ m n, x = .ty m ∧ y = .ty n ∧ Q (.bl (decide (m = n))) H
def inRg (n : Nat) (i : Int) : Bool := decide (0 ≤ i ∧ i < (n : Int))
def plD (n : Nat) : PyData → Bool
  | .int i => inRg n i
  | _ => false
def ltD : PyData → PyData → Bool
  | .int i, .int j => decide (i < j)
  | _, _ => false
def prL (n : Nat) : List PyData → Bool
  | [a, b] => plD n a && plD n b && ltD a b
  | _ => false
/-- a pair of so many places -/
def prD (n : Nat) : PyData → Bool
  | .tuple ds => prL n ds
  | _ => false
def form2 : PyData → PyData → Option (Nat × List PyData)
  | .int m, .tuple ts => if 1 ≤ m ∧ m ≤ 12 then some (m.toNat, ts) else none
  | _, _ => none
def formL : List PyData → Option (Nat × List PyData)
  | [a, b] => form2 a b
  | _ => none
def formN : PyData → Option (Nat × List PyData)
  | .tuple ds => formL ds
  | _ => none
section
variable {P : Program} {w : World} {K : PySem.W.Frag} {mg : Str → Option Value} {base : Heap} {f : Addr} {fd : FuncData}
def spPlaceY : Sp := fun vs H Q _ => ∃ (n : Nat) (v : V) (d : PyData), vs = [.int n, v] ∧ Dy [] H v d ∧ Q (.bl (plD n d)) H
theorem dy_int {S : List Addr} {H : Hp} {v : V} {d : PyData} (h : Dy S H v d) : (∃ i, v = .int i ∧ d = .int i) ∨ ((∀ i, v ≠ .int i) ∧ (∀ i, d ≠ .int i) ∧ tyD d ≠ "int") := by
  cases h with
  | int i => exact .inl ⟨i, rfl, rfl⟩
  | _ => exact .inr ⟨(fun _ z => nomatch z), (fun _ z => nomatch z), by simp only [tyD]; decide⟩
theorem plD_no {n : Nat} {d : PyData} (h : ∀ i, d ≠ .int i) : plD n d = false := by
  cases d with
  | int i => exact absurd rfl (h i)
  | _ => rfl
theorem ok_is_placeY (F : FnP K "is_place" s_is_place f fd) (g_int : mg "int" = none) (g_type : mg "type" = none) : FnG P w K mg base CX0 1 f fd ["many", "value"] spPlaceY := by
  refine okG0 F sc_is_place (fun vs H Q E h => ?_) (fun cdv A outer s H vs Q E hS hr h => ?_)
  · obtain ⟨_, _, _, rfl, _⟩ := h
    rfl
  · obtain ⟨n, v, d, rfl, hd, q⟩ := h
    refine ⟨_, (pss_one (ps_ret (pe_and (pe_cmpR op_isTy (pe_typeY (by rfl) g_type (pv 1)) (pe_bltn (v := .ty "int") (by rfl) g_int rfl rfl) (nomark _)) (pe_one (pe_chain op_le op_lt pe_int (pv 1) (pv 0)))))), ?_⟩
    refine ⟨_, rfl, tyD d, hd.tyn, _, _, rfl, rfl, _, rfl, ?_⟩
    rcases dy_int hd with ⟨i, rfl, rfl⟩ | ⟨h1, h2, h3⟩
    · rw [show decide (tyD (.int i) = "int") = true from rfl]
      refine iteT ?_
      refine ⟨_, rfl, _, _, rfl, rfl, _, rfl, ite2 (fun c => ?_) (fun c => ?_)⟩
      · refine ⟨_, rfl, _, _, rfl, rfl, ?_⟩
        have c' : (0 : Int) ≤ i := of_decide_eq_true c
        have e : decide (i < (n : Int)) = plD n (.int i) := by simp [plD, inRg, c']
        show Q (V.bl (decide (i < (n : Int)))) H
        rw [e]
        exact q
      · have c' : ¬ (0 : Int) ≤ i := fun z => c (decide_eq_true z)
        have e : plD n (.int i) = false := by simp [plD, inRg, c']
        show Q (V.bl false) H
        rw [← e]
        exact q
    · rw [decide_eq_false h3]
      rw [plD_no h2] at q
      exact iteF q
def spPairY : Sp := fun vs H Q _ => ∃ (n : Nat) (v : V) (d : PyData), vs = [.int n, v] ∧ Dy [] H v d ∧ ∀ H', Fr [] H H' → Q (.bl (prD n d)) H'
theorem dy_tup {S : List Addr} {H : Hp} {v : V} {d : PyData} (h : Dy S H v d) : (∃ a xs ds, v = .ref a ∧ d = .tuple ds ∧ H a = some (.tup xs) ∧ DyA S H xs ds) ∨ ((∀ ds, d ≠ .tuple ds) ∧ tyD d ≠ "tuple") := by
  cases h with
  | tup e t => exact .inl ⟨_, _, _, rfl, rfl, e, t⟩
  | _ => exact .inr ⟨(fun _ z => nomatch z), by simp only [tyD]; decide⟩
theorem prL_no {n : Nat} {ds : List PyData} (h : ds.length ≠ 2) : prL n ds = false := by
  match ds, h with
  | [], _ => rfl
  | [_], _ => rfl
  | [_, _], h => exact absurd rfl h
  | _ :: _ :: _ :: _, _ => rfl
theorem prD_no {n : Nat} {d : PyData} (h : ∀ ds, d ≠ .tuple ds) : prD n d = false := by
  cases d with
  | tuple ds => exact absurd rfl (h ds)
  | _ => rfl
theorem int_ne {a b : Nat} (h : a ≠ b) : V.int (a : Int) ≠ V.int (b : Int) := fun z => h (by
  have : (a : Int) = b := by injection z
  omega)
def rd_is_pair_1 (K : PySem.W.Frag) : TS := (tIfS (tOr (tTest (tOp rNT (tThenZ (tVar 1) kTypY) (tC (.ty "tuple")))) (tTest (tOp rNe (tCB (rLen K) (tCons (tVar 1) tNil)) (tC (.int 2))))) (tRet (tC (.bl false))) tNext)
def rd_is_pair_2 (K : PySem.W.Frag) : TS := (tAsg (tVar 1) (gTup K 2 (gCons (gName 2) (gCons (gName 3) gNil))))
def rd_is_pair_3 (K : PySem.W.Frag) : TS := (tRet (tAndV (tCall spPlaceY [] E0 (tCons (tVar 0) (tCons (tVar 2) tNil))) (tAndV (tCall spPlaceY [] E0 (tCons (tVar 0) (tCons (tVar 3) tNil))) (tOp rLtI (tVar 2) (tVar 3)))))
def rdS_is_pair_3 (K : PySem.W.Frag) : TS := rd_is_pair_3 K
def rdS_is_pair_2 (K : PySem.W.Frag) : TS := tSeq (rd_is_pair_2 K) (rdS_is_pair_3 K)
def rdS_is_pair_1 (K : PySem.W.Frag) : TS := tSeq (rd_is_pair_1 K) (rdS_is_pair_2 K)
theorem ok_is_pairY (F : FnP K "is_pair" s_is_pair f fd) (g_tuple : mg "tuple" = none) (g_type : mg "type" = none) (g_len : mg "len" = none) {f_is_place : Addr} {fd_is_place : FuncData} (F_is_place : FnP K "is_place" s_is_place f_is_place fd_is_place) (m_is_place : mg "is_place" = some (.ref f_is_place)) (G_is_place : FnG P w K mg base CX0 1 f_is_place fd_is_place ["many", "value"] spPlaceY) : FnG P w K mg base CX0 2 f fd ["many", "value"] spPairY := by
  have b_is_place : Binds K fd_is_place ["many", "value"] [] := F_is_place.bindsN fun _ _ _ _ _ _ us hl => match us, hl with | [_, _], _ => rfl
  refine okG0 F sc_is_pair (fun vs H Q E h => ?_) (fun cdv A outer s H vs Q E hS hr h => ?_)
  · obtain ⟨_, _, _, rfl, _⟩ := h
    rfl
  · obtain ⟨n, v, d, rfl, hd, q⟩ := h
    refine ⟨rdS_is_pair_1 K, (pss_cons (ps_if (PW.pt (pw_or (pt_cmpR op_notTyB (pe_typeY (by rfl) g_type (pv 1)) (pe_bltn (v := .ty "tuple") (by rfl) g_tuple rfl rfl) (nomark _)) (pw_or1 (pt_cmpR op_ne (pe_callB (lenK K) (by rfl) g_len (by decide +kernel) (pa_cons (pv 1) pa_nil)) pe_int (nomark _))))) (pss_one (ps_ret pe_bl)) pss_nil)
      (pss_cons (ps_asg (pv 1) (pg_tupK K (n := 2) (by rfl) (pgs_cons (pg_name (i := 2) sc_is_pair.nd rfl (Or.inl rfl)) (pgs_cons (pg_name (i := 3) sc_is_pair.nd rfl (Or.inl rfl)) pgs_nil))))
      (pss_one (ps_ret (pe_and (pe_callG G_is_place hS (hr.mono (by decide)) (by rfl) m_is_place F_is_place.kp b_is_place .nil pass0 (pa_cons (pv 0) (pa_cons (pv 2) pa_nil))) (pe_and (pe_callG G_is_place hS (hr.mono (by decide)) (by rfl) m_is_place F_is_place.kp b_is_place .nil pass0 (pa_cons (pv 0) (pa_cons (pv 3) pa_nil))) (pe_one (pe_cmpR op_lt (pv 2) (pv 3) (nomark _))))))))), ?_⟩
    refine ⟨_, rfl, tyD d, hd.tyn, _, _, rfl, rfl, _, rfl, ?_⟩
    rcases dy_tup hd with ⟨a, xs, ds, rfl, rfl, ha, hx⟩ | ⟨h1, h2⟩
    · rw [show (!decide (tyD (.tuple ds) = "tuple")) = false from rfl]
      refine iteF ⟨_, rfl, a, xs, rfl, .inr (SqT.of ha), rfl, _, rfl, ?_⟩
      have hl := hx.length
      by_cases c : xs.length = 2
      · rw [c]
        refine iteF ?_
        cases hx with
        | nil => cases c
        | @cons x1 xs1 d1 ds1 h1 t1 =>
        cases t1 with
        | nil => cases c
        | @cons x2 xs2 d2 ds2 h2 t2 =>
        cases t2 with
        | cons _ _ =>
          have : 1 + 1 + 1 ≤ 2 := by
            rw [← c]
            simp
          omega
        | nil =>
        refine ⟨_, rfl, a, _, rfl, SqT.of ha, rfl, _, _, rfl, _, _, rfl, rfl, ?_⟩
        refine ⟨_, rfl, _, rfl, n, x1, d1, rfl, h1, _, rfl, ?_⟩
        have fin : ∀ b, prD n (.tuple [d1, d2]) = b → Q (.bl b) H := fun b e => e ▸ q H Fr.refl
        cases c1 : plD n d1 with
        | false => exact iteF (fin _ (by show (plD n d1 && plD n d2 && ltD d1 d2) = false; rw [c1]; rfl))
        | true =>
          refine iteT ⟨_, rfl, _, rfl, n, x2, d2, rfl, h2, _, rfl, ?_⟩
          cases c2 : plD n d2 with
          | false => exact iteF (fin _ (by show (plD n d1 && plD n d2 && ltD d1 d2) = false; rw [c1, c2]; rfl))
          | true =>
            refine iteT ?_
            rcases dy_int h1 with ⟨i, rfl, rfl⟩ | ⟨_, g1, _⟩
            · rcases dy_int h2 with ⟨j, rfl, rfl⟩ | ⟨_, g2, _⟩
              · exact ⟨_, rfl, _, rfl, _, _, rfl, rfl, fin _ (by show (plD n (.int i) && plD n (.int j) && ltD (.int i) (.int j)) = _; rw [c1, c2]; rfl)⟩
              · rw [plD_no g2] at c2
                cases c2
            · rw [plD_no g1] at c1
              cases c1
      · rw [decide_eq_false (show ¬ V.int (xs.length : Int) = V.int 2 from int_ne (b := 2) c)]
        refine iteT ?_
        have := q H Fr.refl
        rw [show prD n (.tuple ds) = false from prL_no (by omega)] at this
        exact this
    · rw [decide_eq_false h2]
      refine iteT ?_
      have := q H Fr.refl
      rw [prD_no h1] at this
      exact this
def spFormY : Sp := fun vs H Q _ => ∃ (v : V) (d : PyData), vs = [v] ∧ Dy [] H v d ∧ Q (.bl (formN d).isSome) H
theorem formL_no {ds : List PyData} (h : ds.length ≠ 2) : formL ds = none := by
  match ds, h with
  | [], _ => rfl
  | [_], _ => rfl
  | [_, _], h => exact absurd rfl h
  | _ :: _ :: _ :: _, _ => rfl
theorem formN_no {d : PyData} (h : ∀ ds, d ≠ .tuple ds) : formN d = none := by
  cases d with
  | tuple ds => exact absurd rfl (h ds)
  | _ => rfl
theorem form2_no {a b : PyData} (h : (∀ i, a ≠ .int i) ∨ ∀ ds, b ≠ .tuple ds) : form2 a b = none := by
  cases a with
  | int i =>
    cases b with
    | tuple ds => rcases h with h | h
                  · exact absurd rfl (h i)
                  · exact absurd rfl (h ds)
    | _ => rfl
  | _ => rfl
/-- two items of a tuple of two -/
theorem two_items {S : List Addr} {H : Hp} {xs : List V} {ds : List PyData} (h : DyA S H xs ds) (c : xs.length = 2) : ∃ x1 x2 d1 d2, xs = [x1, x2] ∧ ds = [d1, d2] ∧ Dy S H x1 d1 ∧ Dy S H x2 d2 := by
  match xs, ds, h, c with
  | [x1, x2], [d1, d2], .cons a (.cons b .nil), _ => exact ⟨x1, x2, d1, d2, rfl, rfl, a, b⟩
def rd_has_web_form_1 (K : PySem.W.Frag) : TS := (tIfS (tOr (tTest (tOp rNT (tThenZ (tVar 0) kTypY) (tC (.ty "tuple")))) (tTest (tOp rNe (tCB (rLen K) (tCons (tVar 0) tNil)) (tC (.int 2))))) (tRet (tC (.bl false))) tNext)
def rd_has_web_form_2 (K : PySem.W.Frag) : TS := (tAsg (tVar 0) (gTup K 2 (gCons (gName 1) (gCons (gName 2) gNil))))
def rd_has_web_form_3 (K : PySem.W.Frag) : TS := (tRet (tAndV (tOp rIsTyp (tThenZ (tVar 1) kTypY) (tC (.ty "int"))) (tAndV (tChain rLeI rLeI (tC (.int 1)) (tVar 1) (tC (.int 12))) (tOp rIsTyp (tThenZ (tVar 2) kTypY) (tC (.ty "tuple"))))))
def rdS_has_web_form_3 (K : PySem.W.Frag) : TS := rd_has_web_form_3 K
def rdS_has_web_form_2 (K : PySem.W.Frag) : TS := tSeq (rd_has_web_form_2 K) (rdS_has_web_form_3 K)
def rdS_has_web_form_1 (K : PySem.W.Frag) : TS := tSeq (rd_has_web_form_1 K) (rdS_has_web_form_2 K)
theorem ok_formY (F : FnP K "has_web_form" s_has_web_form f fd) (g_tuple : mg "tuple" = none) (g_int : mg "int" = none) (g_type : mg "type" = none) (g_len : mg "len" = none) {tk : Tok} (M_MAX_PLACES : mg "MAX_PLACES" = some (.int 12 tk)) : FnG P w K mg base CX0 1 f fd ["value"] spFormY := by
  refine okG0 F sc_has_web_form (fun vs H Q E h => ?_) (fun cdv A outer s H vs Q E hS hr h => ?_)
  · obtain ⟨_, _, rfl, _⟩ := h
    rfl
  · obtain ⟨v, d, rfl, hd, q⟩ := h
    refine ⟨rdS_has_web_form_1 K, (pss_cons (ps_if (PW.pt (pw_or (pt_cmpR op_notTyB (pe_typeY (by rfl) g_type (pv 0)) (pe_bltn (v := .ty "tuple") (by rfl) g_tuple rfl rfl) (nomark _)) (pw_or1 (pt_cmpR op_ne (pe_callB (lenK K) (by rfl) g_len (by decide +kernel) (pa_cons (pv 0) pa_nil)) pe_int (nomark _))))) (pss_one (ps_ret pe_bl)) pss_nil)
      (pss_cons (ps_asg (pv 0) (pg_tupK K (n := 2) (by rfl) (pgs_cons (pg_name (i := 1) sc_has_web_form.nd rfl (Or.inl rfl)) (pgs_cons (pg_name (i := 2) sc_has_web_form.nd rfl (Or.inl rfl)) pgs_nil))))
      (pss_one (ps_ret (pe_and (pe_cmpR op_isTy (pe_typeY (by rfl) g_type (pv 1)) (pe_bltn (v := .ty "int") (by rfl) g_int rfl rfl) (nomark _)) (pe_and (pe_chain op_le op_le pe_int (pv 1) (pe_glob rfl M_MAX_PLACES ⟨_, rfl⟩)) (pe_one (pe_cmpR op_isTy (pe_typeY (by rfl) g_type (pv 2)) (pe_bltn (v := .ty "tuple") (by rfl) g_tuple rfl rfl) (nomark _))))))))), ?_⟩
    refine ⟨_, rfl, tyD d, hd.tyn, _, _, rfl, rfl, _, rfl, ?_⟩
    rcases dy_tup hd with ⟨a, xs, ds, rfl, rfl, ha, hx⟩ | ⟨h1, h2⟩
    · rw [show (!decide (tyD (.tuple ds) = "tuple")) = false from rfl]
      refine iteF ⟨_, rfl, a, xs, rfl, .inr (SqT.of ha), rfl, _, rfl, ?_⟩
      have hl := hx.length
      by_cases c : xs.length = 2
      · rw [c]
        refine iteF ?_
        obtain ⟨x1, x2, d1, d2, rfl, rfl, h1, h2⟩ := two_items hx c
        refine ⟨_, rfl, a, _, rfl, SqT.of ha, rfl, _, _, rfl, _, _, rfl, rfl, ?_⟩
        refine ⟨_, rfl, tyD d1, h1.tyn, _, _, rfl, rfl, _, rfl, ?_⟩
        have fin : ∀ b, (form2 d1 d2).isSome = b → Q (.bl b) H := fun b e => e ▸ q
        rcases dy_int h1 with ⟨i, rfl, rfl⟩ | ⟨_, g1, g2⟩
        · rw [show decide (tyD (.int i) = "int") = true from rfl]
          refine iteT ?_
          refine ⟨_, rfl, _, _, rfl, rfl, _, rfl, ite2 (fun c1 => ?_) (fun c1 => ?_)⟩
          · refine ⟨_, _, rfl, rfl, _, rfl, ite2 (fun c2 => ?_) (fun c2 => ?_)⟩
            · refine ⟨_, rfl, tyD d2, h2.tyn, _, _, rfl, rfl, ?_⟩
              have e1 := of_decide_eq_true c1
              have e2 := of_decide_eq_true c2
              rcases dy_tup h2 with ⟨_, _, ts, rfl, rfl, _, _⟩ | ⟨g3, g4⟩
              · exact fin true (by show (if 1 ≤ i ∧ i ≤ 12 then some (i.toNat, ts) else none).isSome = true; rw [if_pos ⟨e1, e2⟩]; rfl)
              · rw [decide_eq_false g4]
                exact fin false (by rw [form2_no (.inr g3)]; rfl)
            · have e2 : ¬ i ≤ 12 := fun z => c2 (decide_eq_true z)
              refine fin false ?_
              cases d2 with
              | tuple ts =>
                show (if 1 ≤ i ∧ i ≤ 12 then some (i.toNat, ts) else none).isSome = false
                rw [if_neg (fun z => e2 z.2)]
                rfl
              | _ => rfl
          · have e1 : ¬ 1 ≤ i := fun z => c1 (decide_eq_true z)
            refine ⟨_, rfl, iteF (fin false ?_)⟩
            cases d2 with
            | tuple ts =>
              show (if 1 ≤ i ∧ i ≤ 12 then some (i.toNat, ts) else none).isSome = false
              rw [if_neg (fun z => e1 z.1)]
              rfl
            | _ => rfl
        · rw [decide_eq_false g2]
          exact iteF (fin false (by rw [form2_no (.inl g1)]; rfl))
      · rw [decide_eq_false (show ¬ V.int (xs.length : Int) = V.int 2 from int_ne (b := 2) c)]
        refine iteT ?_
        rw [show formN (.tuple ds) = none from formL_no (by omega)] at q
        exact q
    · rw [decide_eq_false h2]
      refine iteT ?_
      rw [formN_no h1] at q
      exact q
end
end Lt

set_option Elab.async false
set_option linter.all false
set_option maxRecDepth 100000
set_option maxHeartbeats 8000000
namespace Lt
open PySem PySem.Spec PyProof.Rows L2
abbrev leI (ns ms : List Int) : Bool := Ob.lexAt (fun j => decide (ns.getD j 0 = ms.getD j 0)) (fun j => decide (ns.getD j 0 ≤ ms.getD j 0)) (decide (ns.length ≤ ms.length)) 0 (min ns.length ms.length)
def tieI : PyData → List Int
  | .tuple [.int i, .int j] => [i, j]
  | _ => []
def leAt (ts : List PyData) (i : Nat) : Bool := leI (tieI (ts.getD i .none)) (tieI (ts.getD (i - 1) .none))
/-- what is to be told of data -/
inductive ErrR (d : PyData) : PyData → Prop
  | form : formN d = none → ErrR d (.str "form")
  | tie {n : Nat} {ts : List PyData} {i : Nat} {t : PyData} : formN d = some (n, ts) → ts[i]? = some t → prD n t = false → (∀ (j : Nat) (u : PyData), j < i → ts[j]? = some u → prD n u = true) → ErrR d (.tuple [.str "tie", .int i])
  | ord {n : Nat} {ts : List PyData} {i : Nat} : formN d = some (n, ts) → (∀ t ∈ ts, prD n t = true) → 1 ≤ i → i < ts.length → leAt ts i = true → (∀ j, 1 ≤ j → j < i → leAt ts j = false) → ErrR d (.tuple [.str "order", .int i])
  | ok {n : Nat} {ts : List PyData} : formN d = some (n, ts) → (∀ t ∈ ts, prD n t = true) → (∀ j, 1 ≤ j → j < ts.length → leAt ts j = false) → ErrR d .none
theorem ErrR.uniq {d e1 e2 : PyData} (h1 : ErrR d e1) (h2 : ErrR d e2) : e1 = e2 := by
  cases h1 with
  | form a =>
    cases h2 with
    | form b => rfl
    | tie b _ _ _ => rw [a] at b; cases b
    | ord b _ _ _ _ _ => rw [a] at b; cases b
    | ok b _ _ => rw [a] at b; cases b
  | @tie n ts i t a a1 a2 a3 =>
    cases h2 with
    | form b => rw [a] at b; cases b
    | @tie _ _ j u b b1 b2 b3 =>
      rw [a] at b
      cases b
      by_cases c : i = j
      · rw [c]
      · rcases Nat.lt_or_gt_of_ne c with c | c
        · have := b3 i t c a1
          rw [a2] at this
          cases this
        · have := a3 j u c b1
          rw [b2] at this
          cases this
    | ord b b1 _ _ _ _ =>
      rw [a] at b
      cases b
      have := b1 t (List.mem_of_getElem? a1)
      rw [a2] at this
      cases this
    | ok b b1 _ =>
      rw [a] at b
      cases b
      have := b1 t (List.mem_of_getElem? a1)
      rw [a2] at this
      cases this
  | @ord n ts i a a1 a2 a3 a4 a5 =>
    cases h2 with
    | form b => rw [a] at b; cases b
    | @tie _ _ j u b b1 b2 b3 =>
      rw [a] at b
      cases b
      have := a1 u (List.mem_of_getElem? b1)
      rw [b2] at this
      cases this
    | @ord _ _ j b b1 b2 b3 b4 b5 =>
      rw [a] at b
      cases b
      by_cases c : i = j
      · rw [c]
      · rcases Nat.lt_or_gt_of_ne c with c | c
        · have := b5 i a2 c
          rw [a4] at this
          cases this
        · have := a5 j b2 c
          rw [b4] at this
          cases this
    | ok b b1 b2 =>
      rw [a] at b
      cases b
      have := b2 i a2 a3
      rw [a4] at this
      cases this
  | @ok n ts a a1 a2 =>
    cases h2 with
    | form b => rw [a] at b; cases b
    | @tie _ _ j u b b1 b2 b3 =>
      rw [a] at b
      cases b
      have := a1 u (List.mem_of_getElem? b1)
      rw [b2] at this
      cases this
    | @ord _ _ j b b1 b2 b3 b4 b5 =>
      rw [a] at b
      cases b
      have := a2 j b2 b3
      rw [b4] at this
      cases this
    | ok b b1 b2 => rfl
theorem formN_inv {d : PyData} {n : Nat} {ts : List PyData} (h : formN d = some (n, ts)) : d = .tuple [.int n, .tuple ts] ∧ 1 ≤ n ∧ n ≤ 12 := by
  cases d with
  | tuple ds =>
    match ds, h with
    | [a, b], h =>
      cases a with
      | int i =>
        cases b with
        | tuple us =>
          have h : (if 1 ≤ i ∧ i ≤ 12 then some (i.toNat, us) else none) = some (n, ts) := h
          split at h
          · rename_i c
            cases h
            refine ⟨?_, by omega, by omega⟩
            rw [Int.toNat_of_nonneg (by omega)]
          · cases h
        | _ => cases h
      | _ => cases h
    | [], h => cases h
    | [_], h => cases h
    | _ :: _ :: _ :: _, h => cases h
  | _ => cases h
/-- a pair of places is two ints -/
theorem pr_ints {n : Nat} {t : PyData} (h : prD n t = true) : ∃ i j : Int, t = .tuple [.int i, .int j] ∧ tieI t = [i, j] := by
  cases t with
  | tuple ds =>
    match ds, h with
    | [a, b], h =>
      have h : (plD n a && plD n b && ltD a b) = true := h
      cases a with
      | int i =>
        cases b with
        | int j => exact ⟨i, j, rfl, rfl⟩
        | _ => simp [plD] at h
      | _ => simp [plD] at h
    | [], h => cases h
    | [_], h => cases h
    | _ :: _ :: _ :: _, h => cases h
  | _ => cases h
theorem dy_pr {S : List Addr} {H : Hp} {x : V} {t : PyData} {i j : Int} (h : Dy S H x t) (e : t = .tuple [.int i, .int j]) : ∃ u, x = .ref u ∧ H u = some (.tup ([i, j].map V.int)) := by
  subst e
  cases h with
  | tup ha t =>
    cases t with
    | cons a t =>
      cases t with
      | cons b t =>
        cases t
        cases a
        cases b
        exact ⟨_, rfl, ha⟩
theorem for_e {K : PySem.W.Frag} {a : Addr} {xs : List V} {g : TG} {tb : TS} {D : Ends} {σ : Slots} {H : Hp} (Pv : Nat → Slots → Hp → Prop) (h0 : Pv 0 σ H) (hl : ∀ i σ H, i ≤ xs.length → Pv i σ H → H a = some (.tup xs))
    (hs : ∀ (i : Nat) x σ H p, xs[i]? = some x → Pv i σ H → H p = none → g (.ref p) σ (upd H p (.tup [.int i, x])) fun σ2 H2 => tb { D with nx := Pv (i + 1), ct := Pv (i + 1), bk := D.nx } σ2 H2) (hd : ∀ σ H, Pv xs.length σ H → D.nx σ H) :
    ∃ W : Nat → Nat → Slots → Hp → Prop, (∃ m, W 0 m σ H) ∧ ∀ i m σ H, W i m σ H →
      ((ItE K a).stop i H ∧ D.nx σ H) ∨ ((ItE K a).go i H ∧ ∃ N : Slots → Hp → Prop, (∀ σ' H', N σ' H' → ∃ m', m' < m ∧ W (i + 1) m' σ' H') ∧ ∀ x H', (ItE K a).yld i H x H' → g x σ H' fun σ2 H2 => tb { D with nx := N, ct := N, bk := D.nx } σ2 H2) := by
  refine ⟨fun i m σ H => m + i = xs.length ∧ Pv i σ H, ⟨xs.length, by omega, h0⟩, ?_⟩
  rintro i m σ H ⟨e, p⟩
  have q := SqT.of (K := K) (hl i σ H (by omega) p)
  by_cases c : i < xs.length
  · refine .inr ⟨⟨xs, xs[i], q, List.getElem?_eq_getElem c⟩, Pv (i + 1), fun σ' H' p' => ⟨m - 1, by omega, by omega, p'⟩, ?_⟩
    rintro x H' ⟨t, y, rfl, nt, rfl, ey⟩
    exact hs i y σ H t (ey xs q) p nt
  · obtain rfl : i = xs.length := by omega
    exact .inl ⟨⟨xs, q, Nat.le_refl _⟩, hd σ H p⟩
theorem len_weight : ∀ ts : List PyData, ts.length ≤ PyData.weightAll ts
  | [] => Nat.zero_le _
  | t :: ts => by
    unfold PyData.weightAll
    have := len_weight ts
    rw [List.length_cons]
    omega
section
variable {P : Program} {w : World} {K : PySem.W.Frag} {mg : Str → Option Value} {base : Heap} {f : Addr} {fd : FuncData}
def spWebErrY : Sp := fun vs H Q _ => ∃ (v : V) (d : PyData), vs = [v] ∧ Dy [] H v d ∧ d.weight ≤ 100000 ∧ ∀ H' r e, Fr [] H H' → ErrR d e → Tp H' r e → Q r H'
def rd_web_error_1 (K : PySem.W.Frag) : TS := (tIfS (tNot (tB (tCall spFormY [] E0 (tCons (tVar 0) tNil)))) (tRet (tC (.str "form"))) tNext)
def rd_web_error_2 (K : PySem.W.Frag) : TS := (tAsg (tVar 0) (gTup K 2 (gCons (gName 1) (gCons (gName 2) gNil))))
def rd_web_error_3_1 (K : PySem.W.Frag) : TS := (tIfS (tNot (tB (tCall spPairY [] E0 (tCons (tVar 1) (tCons (tVar 4) tNil))))) (tRet (tTup (tCons (tC (.str "tie")) (tCons (tVar 3) tNil)))) tNext)
def rdS_web_error_3_1 (K : PySem.W.Frag) : TS := rd_web_error_3_1 K
def rd_web_error_3 (K : PySem.W.Frag) : TS := tFor (iEnumT K (tCons (tVar 2) tNil)) (gTup K 2 (gCons (gName 3) (gCons (gName 4) gNil))) (rdS_web_error_3_1 K)
def rd_web_error_4_1 (K : PySem.W.Frag) : TS := (tIfS (tTest (tOp (rLeT K) (tOp (rIxT K) (tVar 2) (tVar 3)) (tOp (rIxT K) (tVar 2) (tOp rSubI (tVar 3) (tC (.int 1)))))) (tRet (tTup (tCons (tC (.str "order")) (tCons (tVar 3) tNil)))) tNext)
def rdS_web_error_4_1 (K : PySem.W.Frag) : TS := rd_web_error_4_1 K
def rd_web_error_4 (K : PySem.W.Frag) : TS := tFor (iRng2 (tCons (tC (.int 1)) (tCons (tCB (rLen K) (tCons (tVar 2) tNil)) tNil))) (gName 3) (rdS_web_error_4_1 K)
def rd_web_error_5 (K : PySem.W.Frag) : TS := (tRet (tC .non))
def rdS_web_error_5 (K : PySem.W.Frag) : TS := rd_web_error_5 K
def rdS_web_error_4 (K : PySem.W.Frag) : TS := tSeq (rd_web_error_4 K) (rdS_web_error_5 K)
def rdS_web_error_3 (K : PySem.W.Frag) : TS := tSeq (rd_web_error_3 K) (rdS_web_error_4 K)
def rdS_web_error_2 (K : PySem.W.Frag) : TS := tSeq (rd_web_error_2 K) (rdS_web_error_3 K)
def rdS_web_error_1 (K : PySem.W.Frag) : TS := tSeq (rd_web_error_1 K) (rdS_web_error_2 K)
section
variable {D : Ends} {H : Hp} {n : Nat} {b : Addr} {ys : List V} {ts : List PyData} {y0 y1 y3 y4 : Option V}
theorem we_3 (hb : H b = some (.tup ys)) (hy : DyA [] H ys ts)
    (no : ∀ H' p (i : Nat) t, Fr [] H H' → H' p = some (.tup [.str "tie", .int i]) → ts[i]? = some t → prD n t = false → (∀ (j : Nat) (u : PyData), j < i → ts[j]? = some u → prD n u = true) → D.rt (.ref p) H')
    (ok : ∀ H' y3 y4, Fr [] H H' → (∀ t ∈ ts, prD n t = true) → D.nx [y0, some (.int n), some (.ref b), y3, y4] H') :
    rd_web_error_3 K D [y0, some (.int n), some (.ref b), y3, y4] H := by
  refine ⟨_, rfl, b, ys, rfl, SqT.of hb, ?_⟩
  refine for_e (K := K) (a := b) (xs := ys) (fun i σ H' => (∃ y3 y4, σ = [y0, some (.int n), some (.ref b), y3, y4]) ∧ Fr [] H H' ∧ ∀ (j : Nat) (u : PyData), j < i → ts[j]? = some u → prD n u = true) ⟨⟨y3, y4, rfl⟩, Fr.refl, fun j u h _ => absurd h (Nat.not_lt_zero _)⟩ (fun i σ H' _ ⟨_, f1, _⟩ => f1.tups _ _ hb) ?_ ?_
  · rintro i x σ H1 p ex ⟨⟨z3, z4, rfl⟩, f1, ih⟩ hp
    obtain ⟨t, et, ht⟩ := hy.at ex
    have fp := Fr.new (S := []) (o := .tup [.int i, x]) hp
    have g1 := f1.trans fp
    refine ⟨p, _, rfl, SqT.of upd_same, rfl, _, _, rfl, _, _, rfl, rfl, ?_⟩
    show rd_web_error_3_1 K _ _ _
    refine ⟨_, rfl, _, rfl, n, x, t, rfl, ht.fr g1, fun H2 f2 => ⟨_, rfl, ?_⟩⟩
    cases c : prD n t with
    | false =>
      refine iteT ⟨_, rfl, szl (Nat.le_of_ble_eq_true rfl), fun u hu => ?_⟩
      exact no _ u i t ((g1.trans f2).trans (Fr.new hu)) upd_same et c ih
    | true =>
      refine iteF ⟨⟨_, _, rfl⟩, g1.trans f2, fun j u hj eu => ?_⟩
      by_cases cj : j = i
      · subst cj
        rw [et] at eu
        cases eu
        exact c
      · exact ih j u (by omega) eu
  · rintro σ H1 ⟨⟨z3, z4, rfl⟩, f1, ih⟩
    refine ok H1 z3 z4 f1 fun t m => ?_
    obtain ⟨j, hj, e⟩ := List.mem_iff_getElem.mp m
    have hl := hy.length
    exact ih j t (by omega) (by rw [List.getElem?_eq_getElem hj, e])
theorem getD_at {ts : List PyData} {i : Nat} {t : PyData} (h : ts[i]? = some t) : ts.getD i .none = t := by
  rw [List.getD_eq_getElem?_getD, h]
  rfl
theorem we_4 (hb : H b = some (.tup ys)) (hy : DyA [] H ys ts) (hl : ts.length ≤ 100000) (hp : ∀ t ∈ ts, prD n t = true)
    (no : ∀ H' p (i : Nat), Fr [] H H' → H' p = some (.tup [.str "order", .int i]) → 1 ≤ i → i < ts.length → leAt ts i = true → (∀ j, 1 ≤ j → j < i → leAt ts j = false) → D.rt (.ref p) H')
    (ok : ∀ H' y3, Fr [] H H' → (∀ j, 1 ≤ j → j < ts.length → leAt ts j = false) → D.nx [y0, y1, some (.ref b), y3, y4] H') :
    rd_web_error_4 K D [y0, y1, some (.ref b), y3, y4] H := by
  have ly := hy.length
  refine ⟨_, rfl, b, ys, rfl, .inr (SqT.of hb), 1, ys.length, rfl, ⟨by omega, by omega, by omega, by omega⟩, ?_⟩
  refine for_range (lo := 1) (n := ((ys.length : Nat) - (1 : Int)).toNat) (fun i σ H' => (∃ y3, σ = [y0, y1, some (.ref b), y3, y4]) ∧ H' = H ∧ ∀ j, 1 ≤ j → j < i + 1 → leAt ts j = false) ⟨⟨y3, rfl⟩, rfl, fun j a b => absurd b (by omega)⟩ ?_ ?_
  · rintro i σ H1 hi ⟨⟨z3, rfl⟩, rfl, ih⟩
    show rd_web_error_4_1 K _ _ _
    have hi1 : i + 1 < ys.length := by omega
    have e1 : ys[i + 1]? = some ys[i + 1] := List.getElem?_eq_getElem hi1
    have e0 : ys[i]? = some ys[i] := List.getElem?_eq_getElem (by omega)
    obtain ⟨t1, et1, ht1⟩ := hy.at e1
    obtain ⟨t0, et0, ht0⟩ := hy.at e0
    obtain ⟨a1, b1, q1, r1⟩ := pr_ints (hp t1 (List.mem_of_getElem? et1))
    obtain ⟨a0, b0, q0, r0⟩ := pr_ints (hp t0 (List.mem_of_getElem? et0))
    obtain ⟨u1, x1, hu1⟩ := dy_pr ht1 q1
    obtain ⟨u0, x0, hu0⟩ := dy_pr ht0 q0
    have ei : ((1 : Int) + (i : Nat)) = ((i + 1 : Nat) : Int) := by omega
    rw [ei]
    have el : leAt ts (i + 1) = leI [a1, b1] [a0, b0] := by
      unfold leAt
      rw [getD_at et1, Nat.add_sub_cancel, getD_at et0, r1, r0]
    refine ⟨_, rfl, _, rfl, b, ys, _, _, rfl, rfl, SqT.of hb, atI_nat e1, _, rfl, _, rfl, _, _, rfl, rfl, b, ys, _, _, rfl, rfl, SqT.of hb, (by rw [show (((i + 1 : Nat) : Int) - 1) = (i : Int) by omega]; exact atI_nat e0), ?_⟩
    refine ⟨u1, u0, [a1, b1], [a0, b0], x1, x0, SqT.of hu1, SqT.of hu0, _, rfl, ?_⟩
    cases c : leAt ts (i + 1) with
    | true =>
      rw [el] at c
      rw [show Ob.lexAt (fun j => decide (([a1, b1] : List Int).getD j 0 = ([a0, b0] : List Int).getD j 0)) (fun j => decide (([a1, b1] : List Int).getD j 0 ≤ ([a0, b0] : List Int).getD j 0)) (decide (([a1, b1] : List Int).length ≤ ([a0, b0] : List Int).length)) 0 (min ([a1, b1] : List Int).length ([a0, b0] : List Int).length) = true from c]
      refine iteT ⟨_, rfl, szl (Nat.le_of_ble_eq_true rfl), fun p hp2 => ?_⟩
      exact no _ p (i + 1) (Fr.new hp2) upd_same (by omega) (by omega) (el.trans c) ih
    | false =>
      have c2 := c
      rw [el] at c2
      rw [show Ob.lexAt (fun j => decide (([a1, b1] : List Int).getD j 0 = ([a0, b0] : List Int).getD j 0)) (fun j => decide (([a1, b1] : List Int).getD j 0 ≤ ([a0, b0] : List Int).getD j 0)) (decide (([a1, b1] : List Int).length ≤ ([a0, b0] : List Int).length)) 0 (min ([a1, b1] : List Int).length ([a0, b0] : List Int).length) = false from c2]
      refine iteF ⟨⟨_, rfl⟩, rfl, fun j h1 h2 => ?_⟩
      by_cases cj : j = i + 1
      · rw [cj]
        exact c
      · exact ih j h1 (by omega)
  · rintro σ H1 ⟨⟨z3, rfl⟩, rfl, ih⟩
    exact ok H1 z3 Fr.refl fun j h1 h2 => ih j h1 (by omega)
end
theorem ok_web_errorY (F : FnP K "web_error" s_web_error f fd) (g_enumerate : mg "enumerate" = none) (g_range : mg "range" = none) (g_len : mg "len" = none) {f_has_web_form : Addr} {fd_has_web_form : FuncData} (F_has_web_form : FnP K "has_web_form" s_has_web_form f_has_web_form fd_has_web_form) (m_has_web_form : mg "has_web_form" = some (.ref f_has_web_form)) {f_is_pair : Addr} {fd_is_pair : FuncData} (F_is_pair : FnP K "is_pair" s_is_pair f_is_pair fd_is_pair) (m_is_pair : mg "is_pair" = some (.ref f_is_pair)) (G_has_web_form : FnG P w K mg base CX0 1 f_has_web_form fd_has_web_form ["value"] spFormY) (G_is_pair : FnG P w K mg base CX0 2 f_is_pair fd_is_pair ["many", "value"] spPairY) : FnG P w K mg base CX0 3 f fd ["value"] spWebErrY := by
  have b_has_web_form : Binds K fd_has_web_form ["value"] [] := F_has_web_form.bindsN fun _ _ _ _ _ _ us hl => match us, hl with | [_], _ => rfl
  have b_is_pair : Binds K fd_is_pair ["many", "value"] [] := F_is_pair.bindsN fun _ _ _ _ _ _ us hl => match us, hl with | [_, _], _ => rfl
  refine okG0 F sc_web_error (fun vs H Q E h => ?_) (fun cdv A outer s H vs Q E hS hr h => ?_)
  · obtain ⟨_, _, rfl, _⟩ := h
    rfl
  · obtain ⟨v, d, rfl, hd, hw, q⟩ := h
    refine ⟨rdS_web_error_1 K, (pss_cons (ps_if (pt_not (pt_val (pe_callG G_has_web_form hS (hr.mono (by decide)) (by rfl) m_has_web_form F_has_web_form.kp b_has_web_form .nil pass0 (pa_cons (pv 0) pa_nil)))) (pss_one (ps_ret pe_str)) pss_nil)
      (pss_cons (ps_asg (pv 0) (pg_tupK K (n := 2) (by rfl) (pgs_cons (pg_name (i := 1) sc_web_error.nd rfl (Or.inl rfl)) (pgs_cons (pg_name (i := 2) sc_web_error.nd rfl (Or.inl rfl)) pgs_nil))))
      (pss_cons (ps_for PassesOwn.never rfl (pi_enumT (by rfl) g_enumerate (pa_cons (pv 2) pa_nil)) (pg_tupK K (n := 2) (by rfl) (pgs_cons (pg_name (i := 3) sc_web_error.nd rfl (Or.inl rfl)) (pgs_cons (pg_name (i := 4) sc_web_error.nd rfl (Or.inl rfl)) pgs_nil))) (pss_one (ps_if (pt_not (pt_val (pe_callG G_is_pair hS (hr.mono (by decide)) (by rfl) m_is_pair F_is_pair.kp b_is_pair .nil pass0 (pa_cons (pv 1) (pa_cons (pv 4) pa_nil))))) (pss_one (ps_ret (pe_tup (pa_cons pe_str (pa_cons (pv 3) pa_nil))))) pss_nil)))
      (pss_cons (ps_for PassesOwn.never rfl (pi_range2 rfl g_range (pa_cons pe_int (pa_cons (pe_callB (lenK K) (by rfl) g_len (by decide +kernel) (pa_cons (pv 2) pa_nil)) pa_nil))) (pg_name (i := 3) sc_web_error.nd rfl (Or.inl rfl)) (pss_one (ps_if (pt_cmpR (leTK K (hu80_of hr)) (pe_ix (ixT K) (pv 2) (pv 3) (fun _ _ => rfl)) (pe_ix (ixT K) (pv 2) (pe_op op_sub (pv 3) pe_int) (fun _ _ => rfl)) (nomark _)) (pss_one (ps_ret (pe_tup (pa_cons pe_str (pa_cons (pv 3) pa_nil))))) pss_nil)))
      (pss_one (ps_ret pe_non)))))), ?_⟩
    refine ⟨_, rfl, v, d, rfl, hd, _, rfl, ?_⟩
    cases c : formN d with
    | none => exact iteT (q H _ _ Fr.refl (.form c) (.str _))
    | some nt =>
      obtain ⟨n, ts⟩ := nt
      refine iteF ?_
      obtain ⟨rfl, h1, h2⟩ := formN_inv c
      have lt : ts.length ≤ 100000 := by
        have h3 := len_weight ts
        have h4 : PyData.weight (.tuple [.int n, .tuple ts]) = PyData.weight (.int n) + 1 + (PyData.weightAll ts + 1 + 0) := rfl
        omega
      cases hd with
      | @tup a xs _ ha hx =>
      cases hx with
      | @cons x1 _ _ _ g1 t1 =>
      cases t1 with
      | @cons x2 _ _ _ g2 t2 =>
      cases t2
      cases g1
      cases g2 with
      | @tup b ys _ hb hy =>
      refine ⟨_, rfl, a, _, rfl, SqT.of ha, rfl, _, _, rfl, _, _, rfl, rfl, ?_⟩
      refine we_3 (K := K) hb hy (fun H' p i t f1 ep et c1 ih => ?_) fun H1 y3 y4 f1 hp => ?_
      · exact q H' _ _ f1 (.tie c et c1 ih) (.tup ep (.cons (.str _) (.cons (.int _) .nil)))
      · refine we_4 (K := K) (n := n) (f1.tups _ _ hb) (hy.fr f1) lt hp (fun H' p i f2 ep c1 c2 c3 ih => ?_) fun H' y3 f2 ih => ?_
        · exact q H' _ _ (f1.trans f2) (.ord c hp c1 c2 c3 ih) (.tup ep (.cons (.str _) (.cons (.int _) .nil)))
        · exact q H' _ _ (f1.trans f2) (.ok c hp ih) .non
end
end Lt

set_option Elab.async false
set_option linter.all false
set_option maxRecDepth 100000
set_option maxHeartbeats 8000000
namespace Lt
open PySem PySem.Spec PyProof.Rows L2
def whD (lo hi : Int) : PyData → Bool
  | .int i => decide (lo ≤ i ∧ i ≤ hi)
  | _ => false
theorem whD_no {lo hi : Int} {d : PyData} (h : ∀ i, d ≠ .int i) : whD lo hi d = false := by
  cases d with
  | int i => exact absurd rfl (h i)
  | _ => rfl
theorem whD_pl {n : Nat} (h : 1 ≤ n) (d : PyData) : whD 0 ((n : Int) - 1) d = plD n d := by
  cases d with
  | int i =>
    show decide _ = decide _
    congr 1
    apply propext
    omega
  | _ => rfl
section
variable {P : Program} {w : World} {K : PySem.W.Frag} {mg : Str → Option Value} {base : Heap} {f : Addr} {fd : FuncData}
def isIntB : PyData → Bool
  | .int _ => true
  | .bool _ => true
  | _ => false
def isBoolB : PyData → Bool
  | .bool _ => true
  | _ => false
def isTupB : PyData → Bool
  | .tuple _ => true
  | _ => false
theorem kit_int (d : PyData) : PySem.W.kitOne K (.type (tyD d)) (.type "int") = some (isIntB d) := by
  cases d with
  | none => exact kit_ty (a := "NoneType") (b := "int") (r := false) (by decide +kernel)
  | bool _ => exact kit_ty (a := "bool") (b := "int") (r := true) (by decide +kernel)
  | int _ => exact kit_ty (a := "int") (b := "int") (r := true) (by decide +kernel)
  | str _ => exact kit_ty (a := "str") (b := "int") (r := false) (by decide +kernel)
  | list _ => exact kit_ty (a := "list") (b := "int") (r := false) (by decide +kernel)
  | tuple _ => exact kit_ty (a := "tuple") (b := "int") (r := false) (by decide +kernel)
  | dict _ => exact kit_ty (a := "dict") (b := "int") (r := false) (by decide +kernel)
theorem kit_bool (d : PyData) : PySem.W.kitOne K (.type (tyD d)) (.type "bool") = some (isBoolB d) := by
  cases d with
  | none => exact kit_ty (a := "NoneType") (b := "bool") (r := false) (by decide +kernel)
  | bool _ => exact kit_ty (a := "bool") (b := "bool") (r := true) (by decide +kernel)
  | int _ => exact kit_ty (a := "int") (b := "bool") (r := false) (by decide +kernel)
  | str _ => exact kit_ty (a := "str") (b := "bool") (r := false) (by decide +kernel)
  | list _ => exact kit_ty (a := "list") (b := "bool") (r := false) (by decide +kernel)
  | tuple _ => exact kit_ty (a := "tuple") (b := "bool") (r := false) (by decide +kernel)
  | dict _ => exact kit_ty (a := "dict") (b := "bool") (r := false) (by decide +kernel)
theorem kit_tuple (d : PyData) : PySem.W.kitOne K (.type (tyD d)) (.type "tuple") = some (isTupB d) := by
  cases d with
  | none => exact kit_ty (a := "NoneType") (b := "tuple") (r := false) (by decide +kernel)
  | bool _ => exact kit_ty (a := "bool") (b := "tuple") (r := false) (by decide +kernel)
  | int _ => exact kit_ty (a := "int") (b := "tuple") (r := false) (by decide +kernel)
  | str _ => exact kit_ty (a := "str") (b := "tuple") (r := false) (by decide +kernel)
  | list _ => exact kit_ty (a := "list") (b := "tuple") (r := false) (by decide +kernel)
  | tuple _ => exact kit_ty (a := "tuple") (b := "tuple") (r := true) (by decide +kernel)
  | dict _ => exact kit_ty (a := "dict") (b := "tuple") (r := false) (by decide +kernel)
theorem tupB_no {d : PyData} (h : ∀ ds, d ≠ .tuple ds) : isTupB d = false := by
  cases d with
  | tuple ds => exact absurd rfl (h ds)
  | _ => rfl
def spWholeY : Sp := fun vs H Q _ => ∃ (v : V) (d : PyData) (lo hi : Int), vs = [v, .int lo, .int hi] ∧ Dy [] H v d ∧ Q (.bl (whD lo hi d)) H
theorem ok_wholeY (F : FnP K "_law_is_whole" s__law_is_whole f fd) (g_isinstance : mg "isinstance" = none) (g_int : mg "int" = none) (g_bool : mg "bool" = none) : FnG P w K mg base CX0 1 f fd ["thing", "least", "most"] spWholeY := by
  refine okG0 F sc__law_is_whole (fun vs H Q E h => ?_) (fun cdv A outer s H vs Q E hS hr h => ?_)
  · obtain ⟨_, _, _, _, rfl, _⟩ := h
    rfl
  · obtain ⟨v, d, lo, hi, rfl, hd, q⟩ := h
    refine ⟨_, (pss_one (ps_ret (pe_and (pe_callB (isiK K) (by rfl) g_isinstance (by decide +kernel) (pa_cons (pv 0) (pa_cons (pe_bltn (v := .ty "int") (by rfl) g_int rfl rfl) pa_nil))) (pe_and (pe_not (pe_callB (isiK K) (by rfl) g_isinstance (by decide +kernel) (pa_cons (pv 0) (pa_cons (pe_bltn (v := .ty "bool") (by rfl) g_bool rfl rfl) pa_nil)))) (pe_one (pe_chain op_le op_le (pv 1) (pv 0) (pv 2))))))), ?_⟩
    refine ⟨_, rfl, _, _, _, .type "int", _, rfl, .ty _, hd.tyx, kit_int d, _, rfl, ?_⟩
    rcases dy_int hd with ⟨i, rfl, rfl⟩ | ⟨h1, h2, h3⟩
    · refine iteT ?_
      refine ⟨_, rfl, _, _, _, .type "bool", _, rfl, .ty _, hd.tyx, kit_bool (.int i), _, rfl, _, rfl, iteT ?_⟩
      refine ⟨_, rfl, _, rfl, _, _, rfl, rfl, _, rfl, ite2 (fun c => ?_) (fun c => ?_)⟩
      · have c' := of_decide_eq_true c
        refine ⟨_, rfl, _, _, rfl, rfl, ?_⟩
        have e : decide (i ≤ hi) = whD lo hi (.int i) := by simp [whD, c']
        show Q (.bl (decide (i ≤ hi))) H
        rw [e]
        exact q
      · have c' : ¬ lo ≤ i := fun z => c (decide_eq_true z)
        have e : whD lo hi (.int i) = false := by simp [whD, c']
        show Q (.bl false) H
        rw [← e]
        exact q
    · rw [whD_no h2] at q
      cases d with
      | int i => exact absurd rfl (h2 i)
      | bool b =>
        refine iteT ?_
        exact ⟨_, rfl, _, _, _, .type "bool", _, rfl, .ty _, hd.tyx, kit_bool (.bool b), _, rfl, _, rfl, iteF q⟩
      | _ => exact iteF q
def spFaultY : Sp := fun vs H Q _ => ∃ (v : V) (d : PyData), vs = [v] ∧ Dy [] H v d ∧ d.weight ≤ 100000 ∧ ∀ H' r e, Fr [] H H' → ErrR d e → Tp H' r e → Q r H'
def rd__law_fault_1 (K : PySem.W.Frag) : TS := (tIfS (tOr (tNot (tB (tCB (rIsi K) (tCons (tVar 0) (tCons (tC (.ty "tuple")) tNil))))) (tOr (tTest (tOp rNe (tCB (rLen K) (tCons (tVar 0) tNil)) (tC (.int 2)))) (tNot (tB (tCB (rIsi K) (tCons (tOp (rIxT K) (tVar 0) (tC (.int 1))) (tCons (tC (.ty "tuple")) tNil))))))) (tRet (tC (.str "form"))) tNext)
def rd__law_fault_2 (K : PySem.W.Frag) : TS := (tAsg (tVar 0) (gTup K 2 (gCons (gName 1) (gCons (gName 2) gNil))))
def rd__law_fault_3 (K : PySem.W.Frag) : TS := (tIfS (tNot (tB (tCall spWholeY [] E0 (tCons (tVar 1) (tCons (tC (.int 1)) (tCons (tC (.int 12)) tNil)))))) (tRet (tC (.str "form"))) tNext)
def rd__law_fault_4_1 (K : PySem.W.Frag) : TS := (tIfS (tOr (tNot (tB (tCB (rIsi K) (tCons (tVar 4) (tCons (tC (.ty "tuple")) tNil))))) (tTest (tOp rNe (tCB (rLen K) (tCons (tVar 4) tNil)) (tC (.int 2))))) (tRet (tTup (tCons (tC (.str "tie")) (tCons (tVar 3) tNil)))) tNext)
def rd__law_fault_4_2 (K : PySem.W.Frag) : TS := (tIfS (tOr (tNot (tB (tCall spWholeY [] E0 (tCons (tOp (rIxT K) (tVar 4) (tC (.int 0))) (tCons (tC (.int 0)) (tCons (tOp rSubI (tVar 1) (tC (.int 1))) tNil)))))) (tOr (tNot (tB (tCall spWholeY [] E0 (tCons (tOp (rIxT K) (tVar 4) (tC (.int 1))) (tCons (tC (.int 0)) (tCons (tOp rSubI (tVar 1) (tC (.int 1))) tNil)))))) (tTest (tOp rGeI (tOp (rIxT K) (tVar 4) (tC (.int 0))) (tOp (rIxT K) (tVar 4) (tC (.int 1))))))) (tRet (tTup (tCons (tC (.str "tie")) (tCons (tVar 3) tNil)))) tNext)
def rdS__law_fault_4_2 (K : PySem.W.Frag) : TS := rd__law_fault_4_2 K
def rdS__law_fault_4_1 (K : PySem.W.Frag) : TS := tSeq (rd__law_fault_4_1 K) (rdS__law_fault_4_2 K)
def rd__law_fault_4 (K : PySem.W.Frag) : TS := tFor (iEnumT K (tCons (tVar 2) tNil)) (gTup K 2 (gCons (gName 3) (gCons (gName 4) gNil))) (rdS__law_fault_4_1 K)
def rd__law_fault_5_1 (K : PySem.W.Frag) : TS := (tIfS (tTest (tOp (rLeT K) (tOp (rIxT K) (tVar 2) (tVar 3)) (tOp (rIxT K) (tVar 2) (tOp rSubI (tVar 3) (tC (.int 1)))))) (tRet (tTup (tCons (tC (.str "order")) (tCons (tVar 3) tNil)))) tNext)
def rdS__law_fault_5_1 (K : PySem.W.Frag) : TS := rd__law_fault_5_1 K
def rd__law_fault_5 (K : PySem.W.Frag) : TS := tFor (iRng2 (tCons (tC (.int 1)) (tCons (tCB (rLen K) (tCons (tVar 2) tNil)) tNil))) (gName 3) (rdS__law_fault_5_1 K)
def rd__law_fault_6 (K : PySem.W.Frag) : TS := (tRet (tC .non))
def rdS__law_fault_6 (K : PySem.W.Frag) : TS := rd__law_fault_6 K
def rdS__law_fault_5 (K : PySem.W.Frag) : TS := tSeq (rd__law_fault_5 K) (rdS__law_fault_6 K)
def rdS__law_fault_4 (K : PySem.W.Frag) : TS := tSeq (rd__law_fault_4 K) (rdS__law_fault_5 K)
def rdS__law_fault_3 (K : PySem.W.Frag) : TS := tSeq (rd__law_fault_3 K) (rdS__law_fault_4 K)
def rdS__law_fault_2 (K : PySem.W.Frag) : TS := tSeq (rd__law_fault_2 K) (rdS__law_fault_3 K)
def rdS__law_fault_1 (K : PySem.W.Frag) : TS := tSeq (rd__law_fault_1 K) (rdS__law_fault_2 K)
section
variable {D : Ends} {H : Hp} {n : Nat} {b : Addr} {ys : List V} {ts : List PyData} {y0 y1 y3 y4 : Option V}
theorem fy_4 (h1 : 1 ≤ n) (hb : H b = some (.tup ys)) (hy : DyA [] H ys ts)
    (no : ∀ H' p (i : Nat) t, Fr [] H H' → H' p = some (.tup [.str "tie", .int i]) → ts[i]? = some t → prD n t = false → (∀ (j : Nat) (u : PyData), j < i → ts[j]? = some u → prD n u = true) → D.rt (.ref p) H')
    (ok : ∀ H' y3 y4, Fr [] H H' → (∀ t ∈ ts, prD n t = true) → D.nx [y0, some (.int n), some (.ref b), y3, y4] H') :
    rd__law_fault_4 K D [y0, some (.int n), some (.ref b), y3, y4] H := by
  refine ⟨_, rfl, b, ys, rfl, SqT.of hb, ?_⟩
  refine for_e (K := K) (a := b) (xs := ys) (fun i σ H' => (∃ y3 y4, σ = [y0, some (.int n), some (.ref b), y3, y4]) ∧ Fr [] H H' ∧ ∀ (j : Nat) (u : PyData), j < i → ts[j]? = some u → prD n u = true) ⟨⟨y3, y4, rfl⟩, Fr.refl, fun j u h _ => absurd h (Nat.not_lt_zero _)⟩ (fun i σ H' _ ⟨_, f1, _⟩ => f1.tups _ _ hb) ?_ ?_
  · rintro i x σ H1 p ex ⟨⟨z3, z4, rfl⟩, f1, ih⟩ hp
    obtain ⟨t, et, ht⟩ := hy.at ex
    have fp := Fr.new (S := []) (o := .tup [.int i, x]) hp
    have g1 := f1.trans fp
    refine ⟨p, _, rfl, SqT.of upd_same, rfl, _, _, rfl, _, _, rfl, rfl, ?_⟩
    have ht1 := ht.fr g1
    generalize upd H1 p (.tup [.int i, x]) = H2 at g1 ht1 ⊢
    have bad : prD n t = false → ∀ u, H2 u = none → D.rt (.ref u) (upd H2 u (.tup [.str "tie", .int i])) := fun c u hu => no _ u i t (g1.trans (Fr.new hu)) upd_same et c ih
    have good : prD n t = true → (∃ y3 y4, [y0, some (.int n), some (.ref b), some (.int i), some x] = [y0, some (.int n), some (.ref b), y3, y4]) ∧ Fr [] H H2 ∧ ∀ (j : Nat) (u : PyData), j < i + 1 → ts[j]? = some u → prD n u = true := fun c => ⟨⟨_, _, rfl⟩, g1, fun j u hj eu => by
      by_cases cj : j = i
      · subst cj
        rw [et] at eu
        cases eu
        exact c
      · exact ih j u (by omega) eu⟩
    show rdS__law_fault_4_1 K _ _ _
    rcases dy_tup ht1 with ⟨a, xs, ds, rfl, rfl, ha, hx⟩ | ⟨g2, g3⟩
    · refine ⟨_, rfl, _, _, _, .type "tuple", _, rfl, .ty _, ht1.tyx, kit_tuple (.tuple ds), _, rfl, iteF ?_⟩
      refine ⟨_, rfl, a, xs, rfl, .inr (SqT.of ha), rfl, _, rfl, ?_⟩
      have hl := hx.length
      by_cases c : xs.length = 2
      · rw [c]
        refine iteF ?_
        obtain ⟨x1, x2, d1, d2, rfl, rfl, g1', g2'⟩ := two_items hx c
        refine ⟨_, rfl, a, _, 0, _, rfl, rfl, SqT.of ha, atI_nat (j := 0) rfl, _, rfl, _, _, rfl, rfl, ?_⟩
        refine ⟨x1, d1, 0, (n : Int) - 1, rfl, g1', _, rfl, ?_⟩
        rw [whD_pl h1]
        have e : prD n (.tuple [d1, d2]) = (plD n d1 && plD n d2 && ltD d1 d2) := rfl
        cases c1 : plD n d1 with
        | false => exact iteT ⟨_, rfl, szl (Nat.le_of_ble_eq_true rfl), bad (by rw [e, c1]; rfl)⟩
        | true =>
          refine iteF ?_
          refine ⟨_, rfl, a, _, 1, _, rfl, rfl, SqT.of ha, atI_nat (j := 1) rfl, _, rfl, _, _, rfl, rfl, ?_⟩
          refine ⟨x2, d2, 0, (n : Int) - 1, rfl, g2', _, rfl, ?_⟩
          rw [whD_pl h1]
          cases c2 : plD n d2 with
          | false => exact iteT ⟨_, rfl, szl (Nat.le_of_ble_eq_true rfl), bad (by rw [e, c1, c2]; rfl)⟩
          | true =>
            refine iteF ?_
            rcases dy_int g1' with ⟨i1, rfl, rfl⟩ | ⟨_, g4, _⟩
            · rcases dy_int g2' with ⟨i2, rfl, rfl⟩ | ⟨_, g5, _⟩
              · refine ⟨_, rfl, a, _, 0, _, rfl, rfl, SqT.of ha, atI_nat (j := 0) rfl, _, rfl, a, _, 1, _, rfl, rfl, SqT.of ha, atI_nat (j := 1) rfl, _, _, rfl, rfl, _, rfl, ite2 (fun c3 => ?_) (fun c3 => ?_)⟩
                · have c4 := of_decide_eq_true c3
                  exact ⟨_, rfl, szl (Nat.le_of_ble_eq_true rfl), bad (by rw [e, c1, c2]; show decide (i1 < i2) = false; exact decide_eq_false (by omega))⟩
                · have c4 : ¬ i2 ≤ i1 := fun z => c3 (decide_eq_true z)
                  exact good (by rw [e, c1, c2]; show decide (i1 < i2) = true; exact decide_eq_true (by omega))
              · rw [plD_no g5] at c2
                cases c2
            · rw [plD_no g4] at c1
              cases c1
      · rw [decide_eq_false (show ¬ V.int (xs.length : Int) = V.int 2 from int_ne (b := 2) c)]
        exact iteT ⟨_, rfl, szl (Nat.le_of_ble_eq_true rfl), bad (prL_no (by omega))⟩
    · refine ⟨_, rfl, _, _, _, .type "tuple", _, rfl, .ty _, ht1.tyx, kit_tuple t, _, rfl, ?_⟩
      rw [tupB_no g2]
      exact iteT ⟨_, rfl, szl (Nat.le_of_ble_eq_true rfl), bad (prD_no g2)⟩
  · rintro σ H1 ⟨⟨z3, z4, rfl⟩, f1, ih⟩
    refine ok H1 z3 z4 f1 fun t m => ?_
    obtain ⟨j, hj, e⟩ := List.mem_iff_getElem.mp m
    have hl := hy.length
    exact ih j t (by omega) (by rw [List.getElem?_eq_getElem hj, e])
theorem fy_5 (hb : H b = some (.tup ys)) (hy : DyA [] H ys ts) (hl : ts.length ≤ 100000) (hp : ∀ t ∈ ts, prD n t = true)
    (no : ∀ H' p (i : Nat), Fr [] H H' → H' p = some (.tup [.str "order", .int i]) → 1 ≤ i → i < ts.length → leAt ts i = true → (∀ j, 1 ≤ j → j < i → leAt ts j = false) → D.rt (.ref p) H')
    (ok : ∀ H' y3, Fr [] H H' → (∀ j, 1 ≤ j → j < ts.length → leAt ts j = false) → D.nx [y0, y1, some (.ref b), y3, y4] H') :
    rd__law_fault_5 K D [y0, y1, some (.ref b), y3, y4] H := we_4 (K := K) (n := n) hb hy hl hp no ok
end
theorem ok_faultY (F : FnP K "_law_fault" s__law_fault f fd) (g_enumerate : mg "enumerate" = none) (g_range : mg "range" = none) (g_len : mg "len" = none) (g_isinstance : mg "isinstance" = none) (g_tuple : mg "tuple" = none) {f__law_is_whole : Addr} {fd__law_is_whole : FuncData} (F__law_is_whole : FnP K "_law_is_whole" s__law_is_whole f__law_is_whole fd__law_is_whole) (m__law_is_whole : mg "_law_is_whole" = some (.ref f__law_is_whole)) (G__law_is_whole : FnG P w K mg base CX0 1 f__law_is_whole fd__law_is_whole ["thing", "least", "most"] spWholeY) : FnG P w K mg base CX0 3 f fd ["value"] spFaultY := by
  have b__law_is_whole : Binds K fd__law_is_whole ["thing", "least", "most"] [] := F__law_is_whole.bindsN fun _ _ _ _ _ _ us hl => match us, hl with | [_, _, _], _ => rfl
  refine okG0 F sc__law_fault (fun vs H Q E h => ?_) (fun cdv A outer s H vs Q E hS hr h => ?_)
  · obtain ⟨_, _, rfl, _⟩ := h
    rfl
  · obtain ⟨v, d, rfl, hd, hw, q⟩ := h
    refine ⟨rdS__law_fault_1 K, (pss_cons (ps_if (PW.pt (pw_or (pt_not (pt_val (pe_callB (isiK K) (by rfl) g_isinstance (by decide +kernel) (pa_cons (pv 0) (pa_cons (pe_bltn (v := .ty "tuple") (by rfl) g_tuple rfl rfl) pa_nil))))) (pw_or (pt_cmpR op_ne (pe_callB (lenK K) (by rfl) g_len (by decide +kernel) (pa_cons (pv 0) pa_nil)) pe_int (nomark _)) (pw_or1 (pt_not (pt_val (pe_callB (isiK K) (by rfl) g_isinstance (by decide +kernel) (pa_cons (pe_ix (ixT K) (pv 0) pe_int (fun _ _ => rfl)) (pa_cons (pe_bltn (v := .ty "tuple") (by rfl) g_tuple rfl rfl) pa_nil))))))))) (pss_one (ps_ret pe_str)) pss_nil)
      (pss_cons (ps_asg (pv 0) (pg_tupK K (n := 2) (by rfl) (pgs_cons (pg_name (i := 1) sc__law_fault.nd rfl (Or.inl rfl)) (pgs_cons (pg_name (i := 2) sc__law_fault.nd rfl (Or.inl rfl)) pgs_nil))))
      (pss_cons (ps_if (pt_not (pt_val (pe_callG G__law_is_whole hS (hr.mono (by decide)) (by rfl) m__law_is_whole F__law_is_whole.kp b__law_is_whole .nil pass0 (pa_cons (pv 1) (pa_cons pe_int (pa_cons pe_int pa_nil)))))) (pss_one (ps_ret pe_str)) pss_nil)
      (pss_cons (ps_for PassesOwn.never rfl (pi_enumT (by rfl) g_enumerate (pa_cons (pv 2) pa_nil)) (pg_tupK K (n := 2) (by rfl) (pgs_cons (pg_name (i := 3) sc__law_fault.nd rfl (Or.inl rfl)) (pgs_cons (pg_name (i := 4) sc__law_fault.nd rfl (Or.inl rfl)) pgs_nil))) (pss_cons (ps_if (PW.pt (pw_or (pt_not (pt_val (pe_callB (isiK K) (by rfl) g_isinstance (by decide +kernel) (pa_cons (pv 4) (pa_cons (pe_bltn (v := .ty "tuple") (by rfl) g_tuple rfl rfl) pa_nil))))) (pw_or1 (pt_cmpR op_ne (pe_callB (lenK K) (by rfl) g_len (by decide +kernel) (pa_cons (pv 4) pa_nil)) pe_int (nomark _))))) (pss_one (ps_ret (pe_tup (pa_cons pe_str (pa_cons (pv 3) pa_nil))))) pss_nil)
      (pss_one (ps_if (PW.pt (pw_or (pt_not (pt_val (pe_callG G__law_is_whole hS (hr.mono (by decide)) (by rfl) m__law_is_whole F__law_is_whole.kp b__law_is_whole .nil pass0 (pa_cons (pe_ix (ixT K) (pv 4) pe_int (fun _ _ => rfl)) (pa_cons pe_int (pa_cons (pe_op op_sub (pv 1) pe_int) pa_nil)))))) (pw_or (pt_not (pt_val (pe_callG G__law_is_whole hS (hr.mono (by decide)) (by rfl) m__law_is_whole F__law_is_whole.kp b__law_is_whole .nil pass0 (pa_cons (pe_ix (ixT K) (pv 4) pe_int (fun _ _ => rfl)) (pa_cons pe_int (pa_cons (pe_op op_sub (pv 1) pe_int) pa_nil)))))) (pw_or1 (pt_cmpR op_ge (pe_ix (ixT K) (pv 4) pe_int (fun _ _ => rfl)) (pe_ix (ixT K) (pv 4) pe_int (fun _ _ => rfl)) (nomark _)))))) (pss_one (ps_ret (pe_tup (pa_cons pe_str (pa_cons (pv 3) pa_nil))))) pss_nil))))
      (pss_cons (ps_for PassesOwn.never rfl (pi_range2 rfl g_range (pa_cons pe_int (pa_cons (pe_callB (lenK K) (by rfl) g_len (by decide +kernel) (pa_cons (pv 2) pa_nil)) pa_nil))) (pg_name (i := 3) sc__law_fault.nd rfl (Or.inl rfl)) (pss_one (ps_if (pt_cmpR (leTK K (hu80_of hr)) (pe_ix (ixT K) (pv 2) (pv 3) (fun _ _ => rfl)) (pe_ix (ixT K) (pv 2) (pe_op op_sub (pv 3) pe_int) (fun _ _ => rfl)) (nomark _)) (pss_one (ps_ret (pe_tup (pa_cons pe_str (pa_cons (pv 3) pa_nil))))) pss_nil)))
      (pss_one (ps_ret pe_non))))))), ?_⟩
    have form : formN d = none → Q (.str "form") H := fun c => q H _ _ Fr.refl (.form c) (.str _)
    rcases dy_tup hd with ⟨a, xs, ds, rfl, rfl, ha, hx⟩ | ⟨g2, g3⟩
    · refine ⟨_, rfl, _, _, _, .type "tuple", _, rfl, .ty _, hd.tyx, kit_tuple (.tuple ds), _, rfl, iteF ?_⟩
      refine ⟨_, rfl, a, xs, rfl, .inr (SqT.of ha), rfl, _, rfl, ?_⟩
      have hl := hx.length
      by_cases c : xs.length = 2
      · rw [c]
        refine iteF ?_
        obtain ⟨x1, x2, d1, d2, rfl, rfl, g1, g2⟩ := two_items hx c
        refine ⟨_, rfl, a, _, 1, _, rfl, rfl, SqT.of ha, atI_nat (j := 1) rfl, _, _, _, .type "tuple", _, rfl, .ty _, g2.tyx, kit_tuple d2, _, rfl, ?_⟩
        have e0 : formN (.tuple [d1, d2]) = form2 d1 d2 := rfl
        rcases dy_tup g2 with ⟨b, ys, ts, rfl, rfl, hb, hy⟩ | ⟨g3, g4⟩
        · refine iteF ?_
          refine ⟨_, rfl, a, _, rfl, SqT.of ha, rfl, _, _, rfl, _, _, rfl, rfl, ?_⟩
          refine ⟨_, rfl, x1, d1, 1, 12, rfl, g1, _, rfl, ?_⟩
          rcases dy_int g1 with ⟨i, rfl, rfl⟩ | ⟨_, g5, _⟩
          · by_cases c1 : 1 ≤ i ∧ i ≤ 12
            · rw [show whD 1 12 (.int i) = true from decide_eq_true c1]
              refine iteF ?_
              obtain ⟨n, rfl⟩ := Int.eq_ofNat_of_zero_le (show 0 ≤ i by omega)
              have c2 : formN (.tuple [.int (n : Int), .tuple ts]) = some (n, ts) := by
                show (if 1 ≤ (n : Int) ∧ (n : Int) ≤ 12 then some ((n : Int).toNat, ts) else none) = _
                rw [if_pos c1, Int.toNat_natCast]
              have lt : ts.length ≤ 100000 := by
                have h3 := len_weight ts
                have h4 : PyData.weight (.tuple [.int (n : Int), .tuple ts]) = PyData.weight (.int (n : Int)) + 1 + (PyData.weightAll ts + 1 + 0) := rfl
                omega
              refine fy_4 (K := K) (n := n) (by omega) hb hy (fun H' p i t f1 ep et c3 ih => ?_) fun H1 y3 y4 f1 hp => ?_
              · exact q H' _ _ f1 (.tie c2 et c3 ih) (.tup ep (.cons (.str _) (.cons (.int _) .nil)))
              · show tSeq (rd__law_fault_5 K) (rd__law_fault_6 K) _ _ _
                refine fy_5 (K := K) (n := n) (f1.tups _ _ hb) (hy.fr f1) lt hp (fun H' p i f2 ep c3 c4 c5 ih => ?_) fun H' y3 f2 ih => ?_
                · exact q H' _ _ (f1.trans f2) (.ord c2 hp c3 c4 c5 ih) (.tup ep (.cons (.str _) (.cons (.int _) .nil)))
                · exact q H' _ _ (f1.trans f2) (.ok c2 hp ih) .non
            · rw [show whD 1 12 (.int i) = false from decide_eq_false c1]
              exact iteT (form (by
                show (if 1 ≤ i ∧ i ≤ 12 then some (i.toNat, ts) else none) = none
                rw [if_neg c1]))
          · rw [whD_no g5]
            exact iteT (form (by rw [e0, form2_no (.inl g5)]))
        · rw [tupB_no g3]
          exact iteT (form (by rw [e0, form2_no (.inr g3)]))
      · rw [decide_eq_false (show ¬ V.int (xs.length : Int) = V.int 2 from int_ne (b := 2) c)]
        exact iteT (form (formL_no (by omega)))
    · refine ⟨_, rfl, _, _, _, .type "tuple", _, rfl, .ty _, hd.tyx, kit_tuple d, _, rfl, ?_⟩
      rw [tupB_no g2]
      exact iteT (form (formN_no g2))
end
end Lt

set_option Elab.async false
set_option linter.all false
set_option maxRecDepth 100000
set_option maxHeartbeats 8000000
namespace Lt
open PySem PySem.Spec PyProof.Rows L2
theorem Stk.fr0' {s d c : Addr} {H H' : Hp} (h : Stk s d c H) (f : Fr [] H H') : Stk s d c H' := by
  obtain ⟨ds, cs, sm, tn, b1, b2, b3, b4, b5⟩ := h.ex
  exact ⟨⟨ds, cs, sm, tn, f.keep _ _ b1 List.not_mem_nil, f.keep _ _ b2 List.not_mem_nil, b3, f.keep _ _ b4 List.not_mem_nil, b5⟩, h.sd, h.sc, h.dc⟩
/-- any data of some size -/
def GY (S : List Addr) (H : Hp) (y : V) : Prop := ∃ e, Dy S H y e ∧ Sq 2 700 e
theorem GY.fr {S : List Addr} {H H1 : Hp} {y : V} (f : Fr S H H1) (h : GY S H y) : GY S H1 y := h.elim fun e q => ⟨e, q.1.fr f, q.2⟩
theorem GY.fr0 {S : List Addr} {H H1 : Hp} {y : V} (f : Fr [] H H1) (h : GY S H y) : GY S H1 y := h.fr f.of0
theorem gy_ints {S : List Addr} {H : Hp} {p : Addr} {ns : List Int} (h : H p = some (.tup (ns.map V.int))) (hn : ∀ i ∈ ns, i.natAbs < 10 ^ 12) (hl : ns.length ≤ 4) : GY S H (.ref p) := by
  refine ⟨.tuple (ns.map PyData.int), Tp.dy (.tup h (Tps.ints ns)), (Sq.tup (n := 0) (w := 64) (m := 4) (fun x m => ?_) (by rw [List.length_map]; exact hl)).up (by decide) (by decide)⟩
  obtain ⟨i, mi, rfl⟩ := List.mem_map.mp m
  exact Sq.int (hn i mi)
theorem gy_two {S : List Addr} {H : Hp} {p : Addr} {x y : V} {d e : PyData} (h : H p = some (.tup [x, y])) (h1 : Dy S H x d) (h2 : Dy S H y e) (s1 : Sq 1 200 d) (s2 : Sq 1 200 e) : GY S H (.ref p) := by
  refine ⟨.tuple [d, e], .tup h (.cons h1 (.cons h2 .nil)), (Sq.tup (n := 1) (w := 200) (m := 2) (fun x m => ?_) (Nat.le_refl _)).up (by decide) (by decide)⟩
  simp only [List.mem_cons, List.not_mem_nil, or_false] at m
  rcases m with rfl | rfl
  · exact s1
  · exact s2
theorem item_str {S : List Addr} {H : Hp} : ∀ i : Nat, i < 12 → Item S H (.str (toString (i : Int))) := by
  have h : ∀ i : Nat, i < 12 → PyData.leavesShort 40 (.str (toString (i : Int))) = true ∧ PyData.weight (.str (toString (i : Int))) ≤ 200 := by decide +kernel
  exact fun i hi => ⟨_, .str _, ⟨rfl, (h i hi).1, Nat.zero_le _, (h i hi).2⟩⟩
/-- live cells, the stock's among them -/
structure Kp (S : List Addr) (s d : Addr) (H : Hp) : Prop where
  live : ∀ x ∈ S, H x ≠ none
  s : s ∈ S
  d : d ∈ S
section
variable {S T : List Addr} {s d p : Addr} {H H' : Hp}
theorem Kp.fr (h : Kp S s d H) (f : Fr T H H') : Kp S s d H' := ⟨fun x m => f.live x (h.live x m), h.s, h.d⟩
theorem Kp.off (h : Kp S s d H) (f : Fr [] H H') (hp : H' p = none) : p ∉ S := fun m => (f.live p (h.live p m)) hp
theorem Kp.more (h : Kp S s d H) {H0 H1 : Hp} (f : Fr [s, d] H0 H1) : Fr S H0 H1 := f.more fun x m => by
  simp only [List.mem_cons, List.not_mem_nil, or_false] at m
  rcases m with rfl | rfl
  · exact h.s
  · exact h.d
end
section
variable {P : Program} {w : World} {K : PySem.W.Frag} {mg : Str → Option Value} {base : Heap} {f : Addr} {fd : FuncData}
def spPickV : Sp := fun vs H Q _ => ∃ (s d c a : Addr) (xs : List V), vs = [.ref s, .ref a] ∧ Stk s d c H ∧ H a = some (.lst xs) ∧ 0 < xs.length ∧ xs.length ≤ 100000 ∧ a ≠ s ∧ a ≠ d ∧
  ∀ H' r, r ∈ xs → Fr [s, d] H H' → Stk s d c H' → Q r H'
theorem ok_pickV (F : FnP K "_law_pick" s__law_pick f fd) (g_len : mg "len" = none) {f__law_draw : Addr} {fd__law_draw : FuncData} (F__law_draw : FnP K "_law_draw" s__law_draw f__law_draw fd__law_draw) (m__law_draw : mg "_law_draw" = some (.ref f__law_draw)) (G__law_draw : FnG P w K mg base CX0 1 f__law_draw fd__law_draw ["stock", "size"] spDraw) : FnG P w K mg base CX0 2 f fd ["stock", "row"] spPickV := by
  have b__law_draw : Binds K fd__law_draw ["stock", "size"] [] := F__law_draw.bindsN fun _ _ _ _ _ _ us hl => match us, hl with | [_, _], _ => rfl
  refine okG0 F sc__law_pick (fun vs H Q E h => ?_) (fun cdv A outer s H vs Q E hS hr h => ?_)
  · obtain ⟨_, _, _, _, _, rfl, _⟩ := h
    rfl
  · obtain ⟨s0, d, c, a, xs, rfl, hk, ha, h0, hl, nas, nad, q⟩ := h
    refine ⟨_, (pss_one (ps_ret (pe_ix (ixSK K) (pv 1) (pe_callG G__law_draw hS (hr.mono (by decide)) (by rfl) m__law_draw F__law_draw.kp b__law_draw .nil pass0 (pa_cons (pv 0) (pa_cons (pe_callB (lenK K) (by rfl) g_len (by decide +kernel) (pa_cons (pv 1) pa_nil)) pa_nil))) (fun _ _ => rfl)))), ?_⟩
    refine ⟨_, rfl, _, rfl, _, rfl, a, xs, rfl, .inl (SqL.of ha), s0, d, c, xs.length, rfl, hk, h0, by omega, fun H1 r hr1 k1 f1 => ?_⟩
    have er : xs[r]? = some xs[r] := List.getElem?_eq_getElem hr1
    have fin := q H1 xs[r] (List.mem_of_getElem? er) f1 k1
    exact .inl ⟨a, xs, r, xs[r], rfl, rfl, SqL.of (f1.keep _ _ ha (by simp [nas, nad])), atI_nat er, fin⟩
def spOddV : Sp := fun vs H Q _ => ∃ (S : List Addr) (s d c : Addr) (vt : V) (n : Nat) (p : Pr), vs = [.ref s, .int n, vt] ∧ Kp S s d H ∧ Stk s d c H ∧ n ≤ 12 ∧ p.1 < 12 ∧ p.2 < 12 ∧ Tp H vt (dP p) ∧
  ∀ H' r, Fr [s, d] H H' → Stk s d c H' → GY S H' r → Q r H'
def rd__law_odd_1 (K : PySem.W.Frag) : TS := (tAsg (tVar 2) (gTup K 2 (gCons (gName 3) (gCons (gName 4) gNil))))
def rd__law_odd_2 (K : PySem.W.Frag) : TS := (tAsg (tLst (tCons (tTup (tCons (tVar 4) (tCons (tVar 3) tNil))) (tCons (tTup (tCons (tVar 3) (tCons (tVar 3) tNil))) (tCons (tTup (tCons (tVar 3) (tCons (tVar 1) tNil))) (tCons (tTup (tCons (tUn rNegI (tC (.int 1))) (tCons (tVar 4) tNil))) (tCons (tTup (tCons (tVar 1) (tCons (tOp rAddI (tVar 1) (tC (.int 1))) tNil))) (tCons (tLst (tCons (tVar 3) (tCons (tVar 4) tNil))) (tCons (tTup (tCons (tVar 3) (tCons (tVar 4) (tCons (tVar 3) tNil)))) (tCons (tTup (tCons (tVar 3) tNil)) (tCons (tTup tNil) (tCons (tC .non) (tCons (tC (.str "01")) (tCons (tDisp [((tVar 3), (tVar 4))]) tNil))))))))))))) (gName 5))
def rd__law_odd_3 (K : PySem.W.Frag) : TS := (tAsg (tOp rCat (tVar 5) (tLst (tCons (tTup (tCons (tC (.bl true)) (tCons (tVar 4) tNil))) (tCons (tTup (tCons (tVar 3) (tCons (tC (.bl true)) tNil))) (tCons (tTup (tCons (tC (.bl false)) (tCons (tVar 4) tNil))) (tCons (tTup (tCons (tVar 3) (tCons (tCB cStrI (tCons (tVar 4) tNil)) tNil))) (tCons (tTup (tCons (tVar 3) (tCons (tTup (tCons (tVar 4) tNil)) tNil))) (tCons (tTup (tCons (tTup (tCons (tVar 3) (tCons (tVar 4) tNil))) (tCons (tVar 4) tNil))) (tCons (tC (.int 7)) (tCons (tTup (tCons (tVar 3) (tCons (tOp rPowI (tC (.int 10)) (tC (.int 30))) tNil))) (tCons (tTup (tCons (tOp rSubI (tC (.int 0)) (tVar 4)) (tCons (tVar 3) tNil))) tNil))))))))))) (gName 5))
def rd__law_odd_4 (K : PySem.W.Frag) : TS := (tRet (tCall spPickV [] E0 (tCons (tVar 0) (tCons (tVar 5) tNil))))
def rdS__law_odd_4 (K : PySem.W.Frag) : TS := rd__law_odd_4 K
def rdS__law_odd_3 (K : PySem.W.Frag) : TS := tSeq (rd__law_odd_3 K) (rdS__law_odd_4 K)
def rdS__law_odd_2 (K : PySem.W.Frag) : TS := tSeq (rd__law_odd_2 K) (rdS__law_odd_3 K)
def rdS__law_odd_1 (K : PySem.W.Frag) : TS := tSeq (rd__law_odd_1 K) (rdS__law_odd_2 K)
section
variable {D : Ends} {S : List Addr} {s d c : Addr} {H : Hp} {n a b : Nat} {y2 y5 : Option V}
theorem od_2 (kp : Kp S s d H) (hn : n ≤ 12) (ha : a < 12) (hb : b < 12)
    (k : ∀ H' l xs, Fr [] H H' → H' l = some (.lst xs) → xs.length = 12 → l ∉ S → (∀ x ∈ xs, GY S H' x) → D.nx [some (.ref s), some (.int n), y2, some (.int a), some (.int b), some (.ref l)] H') :
    rd__law_odd_2 K D [some (.ref s), some (.int n), y2, some (.int a), some (.int b), y5] H := by
  refine ⟨_, rfl, _, rfl, szl (Nat.le_of_ble_eq_true rfl), fun p1 h1 => ?_⟩
  have f1 := Fr.new (S := []) (o := .tup [.int b, .int a]) h1
  have g1 : GY S (upd H p1 (.tup [.int b, .int a])) (.ref p1) := gy_ints (ns := [(b : Int), (a : Int)]) upd_same (by simp; omega) (Nat.le_of_ble_eq_true rfl)
  generalize upd H p1 (.tup [.int b, .int a]) = H1 at f1 g1 ⊢
  refine ⟨_, rfl, _, rfl, szl (Nat.le_of_ble_eq_true rfl), fun p2 h2 => ?_⟩
  have f2 := Fr.new (S := []) (o := .tup [.int a, .int a]) h2
  have g2 : GY S (upd H1 p2 (.tup [.int a, .int a])) (.ref p2) := gy_ints (ns := [(a : Int), (a : Int)]) upd_same (by simp; omega) (Nat.le_of_ble_eq_true rfl)
  generalize upd H1 p2 (.tup [.int a, .int a]) = H2 at f2 g2 ⊢
  refine ⟨_, rfl, _, rfl, szl (Nat.le_of_ble_eq_true rfl), fun p3 h3 => ?_⟩
  have f3 := Fr.new (S := []) (o := .tup [.int a, .int n]) h3
  have g3 : GY S (upd H2 p3 (.tup [.int a, .int n])) (.ref p3) := gy_ints (ns := [(a : Int), (n : Int)]) upd_same (by simp; omega) (Nat.le_of_ble_eq_true rfl)
  generalize upd H2 p3 (.tup [.int a, .int n]) = H3 at f3 g3 ⊢
  refine ⟨1, rfl, _, rfl, szl (Nat.le_of_ble_eq_true rfl), fun p4 h4 => ?_⟩
  have f4 := Fr.new (S := []) (o := .tup [.int (-1), .int b]) h4
  have g4 : GY S (upd H3 p4 (.tup [.int (-1), .int b])) (.ref p4) := gy_ints (ns := [(-1 : Int), (b : Int)]) upd_same (by simp; omega) (Nat.le_of_ble_eq_true rfl)
  generalize upd H3 p4 (.tup [.int (-1), .int b]) = H4 at f4 g4 ⊢
  refine ⟨_, rfl, _, rfl, _, _, rfl, rfl, szl (Nat.le_of_ble_eq_true rfl), fun p5 h5 => ?_⟩
  have f5 := Fr.new (S := []) (o := .tup [.int n, .int (n + 1)]) h5
  have g5 : GY S (upd H4 p5 (.tup [.int n, .int (n + 1)])) (.ref p5) := gy_ints (ns := [(n : Int), (n + 1 : Int)]) upd_same (by simp; omega) (Nat.le_of_ble_eq_true rfl)
  generalize upd H4 p5 (.tup [.int n, .int (n + 1)]) = H5 at f5 g5 ⊢
  refine ⟨_, rfl, _, rfl, szl (Nat.le_of_ble_eq_true rfl), fun p6 h6 => ?_⟩
  have f05 := (((f1.trans f2).trans f3).trans f4).trans f5
  have o6 := kp.off f05 h6
  have f6 := Fr.new (S := []) (o := .lst [.int a, .int b]) h6
  have sa : Sq 0 64 (.int (a : Int)) := Sq.nat (by omega)
  have sb : Sq 0 64 (.int (b : Int)) := Sq.nat (by omega)
  have g6 : GY S (upd H5 p6 (.lst [.int a, .int b])) (.ref p6) := ⟨_, .lst upd_same o6 (.cons (.int _) (.cons (.int _) .nil)), (Sq.lst (n := 0) (w := 64) (m := 2) (by simp [sa, sb]) (Nat.le_refl _)).up (by decide) (by decide)⟩
  generalize upd H5 p6 (.lst [.int a, .int b]) = H6 at f6 g6 ⊢
  refine ⟨_, rfl, _, rfl, _, rfl, szl (Nat.le_of_ble_eq_true rfl), fun p7 h7 => ?_⟩
  have f7 := Fr.new (S := []) (o := .tup [.int a, .int b, .int a]) h7
  have g7 : GY S (upd H6 p7 (.tup [.int a, .int b, .int a])) (.ref p7) := gy_ints (ns := [(a : Int), (b : Int), (a : Int)]) upd_same (by simp; omega) (Nat.le_of_ble_eq_true rfl)
  generalize upd H6 p7 (.tup [.int a, .int b, .int a]) = H7 at f7 g7 ⊢
  refine ⟨_, rfl, szl (Nat.le_of_ble_eq_true rfl), fun p8 h8 => ?_⟩
  have f8 := Fr.new (S := []) (o := .tup [.int a]) h8
  have g8 : GY S (upd H7 p8 (.tup [.int a])) (.ref p8) := gy_ints (ns := [(a : Int)]) upd_same (by simp; omega) (Nat.le_of_ble_eq_true rfl)
  generalize upd H7 p8 (.tup [.int a]) = H8 at f8 g8 ⊢
  refine ⟨szl (Nat.zero_le _), fun p9 h9 => ?_⟩
  have f9 := Fr.new (S := []) (o := .tup []) h9
  have g9 : GY S (upd H8 p9 (.tup [])) (.ref p9) := gy_ints (ns := []) upd_same (fun _ m => absurd m List.not_mem_nil) (Nat.zero_le _)
  generalize upd H8 p9 (.tup []) = H9 at f9 g9 ⊢
  intro p10 h10
  have f09 := (((f05.trans f6).trans f7).trans f8).trans f9
  have o10 := kp.off f09 h10
  refine ⟨_, rfl, _, rfl, upd_same, [(Sum.inl (a : Int), .int (b : Int))], rfl, Nat.le_of_ble_eq_true rfl, ?_⟩
  have f10 : Fr [] H9 (upd (upd H9 p10 (.dK [])) p10 (.dK (mergeK [] [(Sum.inl (a : Int), V.int (b : Int))]))) := (Fr.new h10).set (.inl h10) (fun xs z => by rw [upd_same] at z; cases z)
  have g10 : GY S (upd (upd H9 p10 (.dK [])) p10 (.dK (mergeK [] [(Sum.inl (a : Int), V.int (b : Int))]))) (.ref p10) := ⟨_, .dK (kvs := [(Sum.inl (a : Int), V.int (b : Int))]) upd_same o10 (.cons (.int _) .nil), (Sq.dict (a := keyD (Sum.inl (a : Int))) sa sb).up (by decide) (by decide)⟩
  generalize upd (upd H9 p10 (.dK [])) p10 (.dK (mergeK [] [(Sum.inl (a : Int), V.int (b : Int))])) = H10 at f10 g10 ⊢
  refine ⟨szl (Nat.le_of_ble_eq_true rfl), fun l hl => ?_⟩
  have f010 := f09.trans f10
  have ol := kp.off f010 hl
  have fl := Fr.new (S := []) (o := .lst [.ref p1, .ref p2, .ref p3, .ref p4, .ref p5, .ref p6, .ref p7, .ref p8, .ref p9, .non, .str "01", .ref p10]) hl
  have k10 := fl
  have k9 := f10.trans k10
  have k8 := f9.trans k9
  have k7 := f8.trans k8
  have k6 := f7.trans k7
  have k5 := f6.trans k6
  have k4 := f5.trans k5
  have k3 := f4.trans k4
  have k2 := f3.trans k3
  have k1 := f2.trans k2
  refine k _ l [.ref p1, .ref p2, .ref p3, .ref p4, .ref p5, .ref p6, .ref p7, .ref p8, .ref p9, .non, .str "01", .ref p10] (f010.trans fl) upd_same rfl ol fun x mx => ?_
  simp only [List.mem_cons, List.not_mem_nil, or_false] at mx
  rcases mx with rfl | rfl | rfl | rfl | rfl | rfl | rfl | rfl | rfl | rfl | rfl | rfl
  · exact g1.fr0 k1
  · exact g2.fr0 k2
  · exact g3.fr0 k3
  · exact g4.fr0 k4
  · exact g5.fr0 k5
  · exact g6.fr0 k6
  · exact g7.fr0 k7
  · exact g8.fr0 k8
  · exact g9.fr0 k9
  · exact ⟨_, .non, Sq.non.up (by decide) (by decide)⟩
  · exact ⟨_, .str _, ⟨by decide +kernel, by decide +kernel, by decide +kernel, by decide +kernel⟩⟩
  · exact g10.fr0 k10
theorem od_3 {l : Addr} {xs : List V} (kp : Kp S s d H) (ha : a < 12) (hb : b < 12) (el : H l = some (.lst xs)) (hl : xs.length = 12) (gx : ∀ x ∈ xs, GY S H x) {y1 : Option V}
    (k : ∀ H' m zs, Fr [] H H' → H' m = some (.lst zs) → zs.length = 21 → m ∉ S → (∀ x ∈ zs, GY S H' x) → D.nx [some (.ref s), y1, y2, some (.int a), some (.int b), some (.ref m)] H') :
    rd__law_odd_3 K D [some (.ref s), y1, y2, some (.int a), some (.int b), some (.ref l)] H := by
  have sa : Sq 1 200 (.int (a : Int)) := (Sq.nat (by omega)).up (by decide) (by decide)
  have sb : Sq 1 200 (.int (b : Int)) := (Sq.nat (by omega)).up (by decide) (by decide)
  have st : ∀ x, Sq 1 200 (.bool x) := fun x => (Sq.bl x).up (by decide) (by decide)
  refine ⟨_, rfl, _, rfl, szl (Nat.le_of_ble_eq_true rfl), fun p1 h1 => ?_⟩
  have f1 := Fr.new (S := []) (o := .tup [.bl true, .int b]) h1
  have g1 : GY S (upd H p1 (.tup [.bl true, .int b])) (.ref p1) := gy_two upd_same (.bl _) (.int _) (st _) (sb)
  generalize upd H p1 (.tup [.bl true, .int b]) = H1 at f1 g1 ⊢
  refine ⟨_, rfl, szl (Nat.le_of_ble_eq_true rfl), fun p2 h2 => ?_⟩
  have f2 := Fr.new (S := []) (o := .tup [.int a, .bl true]) h2
  have g2 : GY S (upd H1 p2 (.tup [.int a, .bl true])) (.ref p2) := gy_two upd_same (.int _) (.bl _) (sa) (st _)
  generalize upd H1 p2 (.tup [.int a, .bl true]) = H2 at f2 g2 ⊢
  refine ⟨_, rfl, szl (Nat.le_of_ble_eq_true rfl), fun p3 h3 => ?_⟩
  have f3 := Fr.new (S := []) (o := .tup [.bl false, .int b]) h3
  have g3 : GY S (upd H2 p3 (.tup [.bl false, .int b])) (.ref p3) := gy_two upd_same (.bl _) (.int _) (st _) (sb)
  generalize upd H2 p3 (.tup [.bl false, .int b]) = H3 at f3 g3 ⊢
  obtain ⟨es, hes, ses⟩ := item_str (S := []) (H := H3) b hb
  have ss : Sq 1 200 (.str (toString (b : Int))) := by
    cases hes
    exact ses
  refine ⟨_, rfl, _, rfl, _, rfl, log_lt (k := 1920) (by omega) (by decide), szl (Nat.le_of_ble_eq_true rfl), fun p4 h4 => ?_⟩
  have f4 := Fr.new (S := []) (o := .tup [.int a, .str (toString (b : Int))]) h4
  have g4 : GY S (upd H3 p4 (.tup [.int a, .str (toString (b : Int))])) (.ref p4) := gy_two upd_same (.int _) (.str _) (sa) (ss)
  generalize upd H3 p4 (.tup [.int a, .str (toString (b : Int))]) = H4 at f4 g4 ⊢
  refine ⟨_, rfl, _, rfl, szl (Nat.le_of_ble_eq_true rfl), fun q5 hq5 => ?_⟩
  have fq5 := Fr.new (S := []) (o := .tup [.int b]) hq5
  have sb1 : Sq 1 200 (.tuple [.int (b : Int)]) := (Sq.tup (n := 0) (w := 64) (m := 1) (by simp [Sq.nat (i := b) (by omega)]) (Nat.le_refl _)).up (by decide) (by decide)
  have e5 : upd H4 q5 (.tup [.int b]) q5 = some (.tup [.int b]) := upd_same
  generalize upd H4 q5 (.tup [.int b]) = H4' at fq5 e5 ⊢
  refine ⟨szl (Nat.le_of_ble_eq_true rfl), fun p5 h5 => ?_⟩
  have f5' := Fr.new (S := []) (o := .tup [.int a, .ref q5]) h5
  have g5 : GY S (upd H4' p5 (.tup [.int a, .ref q5])) (.ref p5) := gy_two upd_same (.int _) (.tup (f5'.tups _ _ e5) (.cons (.int _) .nil)) sa sb1
  have f5 := fq5.trans f5'
  generalize upd H4' p5 (.tup [.int a, .ref q5]) = H5 at f5 g5 ⊢
  refine ⟨_, rfl, _, rfl, szl (Nat.le_of_ble_eq_true rfl), fun q6 hq6 => ?_⟩
  have fq6 := Fr.new (S := []) (o := .tup [.int a, .int b]) hq6
  have sab : Sq 1 200 (.tuple [.int (a : Int), .int (b : Int)]) := (Sq.tup (n := 0) (w := 64) (m := 2) (by simp [Sq.nat (i := b) (by omega), Sq.nat (i := a) (by omega)]) (Nat.le_refl _)).up (by decide) (by decide)
  have e6 : upd H5 q6 (.tup [.int a, .int b]) q6 = some (.tup [.int a, .int b]) := upd_same
  generalize upd H5 q6 (.tup [.int a, .int b]) = H5' at fq6 e6 ⊢
  refine ⟨_, rfl, szl (Nat.le_of_ble_eq_true rfl), fun p6 h6 => ?_⟩
  have f6' := Fr.new (S := []) (o := .tup [.ref q6, .int b]) h6
  have g6 : GY S (upd H5' p6 (.tup [.ref q6, .int b])) (.ref p6) := gy_two upd_same (.tup (f6'.tups _ _ e6) (.cons (.int _) (.cons (.int _) .nil))) (.int _) sab sb
  have f6 := fq6.trans f6'
  generalize upd H5' p6 (.tup [.ref q6, .int b]) = H6 at f6 g6 ⊢
  refine ⟨_, rfl, _, _, rfl, rfl, ⟨by decide, by decide, by decide⟩, szl (Nat.le_of_ble_eq_true rfl), fun p7 h7 => ?_⟩
  have f7 := Fr.new (S := []) (o := .tup [.int a, .int (10 ^ (30 : Int).toNat)]) h7
  have g7 : GY S (upd H6 p7 (.tup [.int a, .int (10 ^ (30 : Int).toNat)])) (.ref p7) := gy_two upd_same (.int _) (.int _) (sa) (⟨by decide +kernel, by decide +kernel, by decide +kernel, by decide +kernel⟩)
  generalize upd H6 p7 (.tup [.int a, .int (10 ^ (30 : Int).toNat)]) = H7 at f7 g7 ⊢
  refine ⟨_, rfl, _, _, rfl, rfl, _, rfl, szl (Nat.le_of_ble_eq_true rfl), fun p8 h8 => ?_⟩
  have f8 := Fr.new (S := []) (o := .tup [.int (0 - b), .int a]) h8
  have g8 : GY S (upd H7 p8 (.tup [.int (0 - b), .int a])) (.ref p8) := gy_two upd_same (.int _) (.int _) ((Sq.int (by omega)).up (by decide) (by decide)) (sa)
  generalize upd H7 p8 (.tup [.int (0 - b), .int a]) = H8 at f8 g8 ⊢
  refine ⟨szl (Nat.le_of_ble_eq_true rfl), fun m hm => ?_⟩
  have fm := Fr.new (S := []) (o := .lst [.ref p1, .ref p2, .ref p3, .ref p4, .ref p5, .ref p6, .int 7, .ref p7, .ref p8]) hm
  have f08 := ((((((f1.trans f2).trans f3).trans f4).trans f5).trans f6).trans f7).trans f8
  have f09 := f08.trans fm
  refine ⟨l, m, xs, _, rfl, rfl, f09.keep _ _ el List.not_mem_nil, upd_same, szl (by rw [hl]; exact Nat.le_of_ble_eq_true rfl), fun z hz => ?_⟩
  have fz := Fr.new (S := []) (o := .lst (xs ++ [.ref p1, .ref p2, .ref p3, .ref p4, .ref p5, .ref p6, .int 7, .ref p7, .ref p8])) hz
  have oz := kp.off f09 hz
  have k8 := fm.trans fz
  have k7 := f8.trans k8
  have k6 := f7.trans k7
  have k5 := f6.trans k6
  have k4 := f5.trans k5
  have k3 := f4.trans k4
  have k2 := f3.trans k3
  have k1 := f2.trans k2
  refine k _ z (xs ++ [.ref p1, .ref p2, .ref p3, .ref p4, .ref p5, .ref p6, .int 7, .ref p7, .ref p8]) (f09.trans fz) upd_same (by rw [List.length_append, hl]; rfl) oz fun x mx => ?_
  rcases List.mem_append.mp mx with mx | mx
  · exact (gx x mx).fr0 (f09.trans fz)
  simp only [List.mem_cons, List.not_mem_nil, or_false] at mx
  rcases mx with rfl | rfl | rfl | rfl | rfl | rfl | rfl | rfl | rfl
  · exact g1.fr0 k1
  · exact g2.fr0 k2
  · exact g3.fr0 k3
  · exact g4.fr0 k4
  · exact g5.fr0 k5
  · exact g6.fr0 k6
  · exact ⟨_, .int _, (Sq.int (i := 7) (by decide)).up (by decide) (by decide)⟩
  · exact g7.fr0 k7
  · exact g8.fr0 k8
end
theorem ok_oddV (F : FnP K "_law_odd" s__law_odd f fd) (g_str : mg "str" = none) {f__law_pick : Addr} {fd__law_pick : FuncData} (F__law_pick : FnP K "_law_pick" s__law_pick f__law_pick fd__law_pick) (m__law_pick : mg "_law_pick" = some (.ref f__law_pick)) (G__law_pick : FnG P w K mg base CX0 2 f__law_pick fd__law_pick ["stock", "row"] spPickV) : FnG P w K mg base CX0 3 f fd ["stock", "many", "tie"] spOddV := by
  have b__law_pick : Binds K fd__law_pick ["stock", "row"] [] := F__law_pick.bindsN fun _ _ _ _ _ _ us hl => match us, hl with | [_, _], _ => rfl
  refine okG0 F sc__law_odd (fun vs H Q E h => ?_) (fun cdv A outer s0 H vs Q E hS hr h => ?_)
  · obtain ⟨_, _, _, _, _, _, _, rfl, _⟩ := h
    rfl
  · obtain ⟨S, s, d, c, vt, n, p, rfl, kp, hk, hn, h1, h2, ht, k⟩ := h
    refine ⟨rdS__law_odd_1 K, (pss_cons (ps_asg (pv 2) (pg_tupK K (n := 2) (by rfl) (pgs_cons (pg_name (i := 3) sc__law_odd.nd rfl (Or.inl rfl)) (pgs_cons (pg_name (i := 4) sc__law_odd.nd rfl (Or.inl rfl)) pgs_nil))))
      (pss_cons (ps_set (i := 5) sc__law_odd.nd rfl (Or.inl rfl) (pe_lst (pa_cons (pe_tup (pa_cons (pv 4) (pa_cons (pv 3) pa_nil))) (pa_cons (pe_tup (pa_cons (pv 3) (pa_cons (pv 3) pa_nil))) (pa_cons (pe_tup (pa_cons (pv 3) (pa_cons (pv 1) pa_nil))) (pa_cons (pe_tup (pa_cons (pe_un un_neg pe_int) (pa_cons (pv 4) pa_nil))) (pa_cons (pe_tup (pa_cons (pv 1) (pa_cons (pe_op op_add (pv 1) pe_int) pa_nil))) (pa_cons (pe_lst (pa_cons (pv 3) (pa_cons (pv 4) pa_nil))) (pa_cons (pe_tup (pa_cons (pv 3) (pa_cons (pv 4) (pa_cons (pv 3) pa_nil)))) (pa_cons (pe_tup (pa_cons (pv 3) pa_nil)) (pa_cons (pe_tup pa_nil) (pa_cons pe_non (pa_cons pe_str (pa_cons (pe_disp (pps_cons (pv 3) (pv 4) pps_nil) rfl rfl (List.cons_ne_nil _ _) (Nat.le_of_ble_eq_true rfl)) pa_nil))))))))))))))
      (pss_cons (ps_set (i := 5) sc__law_odd.nd rfl (Or.inl rfl) (pe_op op_cat (pv 5) (pe_lst (pa_cons (pe_tup (pa_cons pe_bl (pa_cons (pv 4) pa_nil))) (pa_cons (pe_tup (pa_cons (pv 3) (pa_cons pe_bl pa_nil))) (pa_cons (pe_tup (pa_cons pe_bl (pa_cons (pv 4) pa_nil))) (pa_cons (pe_tup (pa_cons (pv 3) (pa_cons (pe_callTy call_str_int (by rfl) g_str (by decide +kernel) (pa_cons (pv 4) pa_nil)) pa_nil))) (pa_cons (pe_tup (pa_cons (pv 3) (pa_cons (pe_tup (pa_cons (pv 4) pa_nil)) pa_nil))) (pa_cons (pe_tup (pa_cons (pe_tup (pa_cons (pv 3) (pa_cons (pv 4) pa_nil))) (pa_cons (pv 4) pa_nil))) (pa_cons pe_int (pa_cons (pe_tup (pa_cons (pv 3) (pa_cons (pe_op op_pow pe_int pe_int) pa_nil))) (pa_cons (pe_tup (pa_cons (pe_op op_sub pe_int (pv 4)) (pa_cons (pv 3) pa_nil))) pa_nil))))))))))))
      (pss_one (ps_ret (pe_callG G__law_pick hS (hr.mono (by decide)) (by rfl) m__law_pick F__law_pick.kp b__law_pick .nil pass0 (pa_cons (pv 0) (pa_cons (pv 5) pa_nil)))))))), ?_⟩
    obtain ⟨u, rfl, hu⟩ := ht.pr_inv
    refine ⟨_, rfl, u, _, rfl, SqT.of hu, rfl, _, _, rfl, _, _, rfl, rfl, ?_⟩
    refine od_2 (K := K) kp hn h1 h2 fun H1 l xs f1 el ll nl gx => ?_
    refine od_3 (K := K) (kp.fr f1) h1 h2 el ll gx fun H2 m zs f2 em lm nm gz => ?_
    have f12 := f1.trans f2
    have m1 : m ≠ s := fun z => nm (z ▸ kp.s)
    have m2 : m ≠ d := fun z => nm (z ▸ kp.d)
    refine ⟨_, rfl, _, rfl, s, d, c, m, zs, rfl, hk.fr0' f12, em, by omega, by omega, m1, m2, fun H3 r mr f3 k3 => ?_⟩
    exact k H3 r ((f12.of0 (S := [s, d])).trans f3) k3 ((gz r mr).fr (kp.more f3))
end
end Lt

set_option Elab.async false
set_option linter.all false
set_option maxRecDepth 100000
set_option maxHeartbeats 4000000
namespace Lt
open PySem PySem.Spec PyProof.Rows L2
/-! ## dict(xs) of a list of pairs whose keys are tuples -/
def mergeT (kvs more : List (List Key × V)) : List (List Key × V) := more.foldl (fun acc kv => putK acc kv.1 kv.2) kvs
theorem mergeT_length : ∀ (more kvs : List (List Key × V)), (mergeT kvs more).length ≤ kvs.length + more.length
  | [], kvs => by show kvs.length ≤ kvs.length + 0; omega
  | p :: r, kvs => by
    have h1 := mergeT_length r (putK kvs p.1 p.2)
    have h2 := length_putK kvs p.1 p.2
    show (mergeT (putK kvs p.1 p.2) r).length ≤ _
    rw [List.length_cons]; omega
theorem kt_merge {H : Hp} : ∀ {more : List (List Key × V)} {rs : List (List Key × Addr × Value)} {kvs : List (List Key × V)} {xs : List (List Key × Addr × Value)}, KT H more rs → KT H kvs xs → KT H (mergeT kvs more) (PySem.storedAllH xs rs)
  | _, _, _, _, .nil, q => q
  | _, _, _, _, .cons (a := p) (b := r) ⟨h1, h2, h3⟩ t, q => by
    obtain ⟨k, y⟩ := p
    obtain ⟨k', b, u⟩ := r
    dsimp only at h1 h2 h3
    subst h1
    exact (kt_merge t (KT.put q k h2 h3) : KT H (mergeT (putK _ k y) _) (PySem.storedAllH (storedH _ k b u) _))
def rDictT (K : PySem.W.Frag) : List V → Hp → VK → Prop := fun xs H Q => ∃ (a : Addr) (ps : List Addr) (kvs : List (List Key × V)), xs = [.ref a] ∧ SqL K H a (ps.map V.ref) ∧
  Paired (fun p kv => ∃ b, SqT K H p [.ref b, kv.2] ∧ H b = some (.tup (kv.1.map kV))) ps kvs ∧ ∀ p, H p = none → Q (.ref p) (upd H p (.dT (mergeT [] kvs)))
section
variable {X : Cx}
theorem pairsT_of {pins : List (Addr × Obj)} {σ : Slots} {H : Hp} {s : Shared} (I : Inv X pins σ H s) : ∀ {ps : List Addr} {kvs : List (List Key × V)}, Paired (fun p kv => ∃ b, SqT X.K H p [.ref b, kv.2] ∧ H b = some (.tup (kv.1.map kV))) ps kvs →
    ∃ prs : List (List Key × Addr × Value), KT H kvs prs ∧ prs.length = ps.length ∧ ∀ (j : Nat) (q : List Key × Addr × Value), prs[j]? = some q → ∃ b : Addr, ps[j]? = some b ∧ IsTup s.heap b #[.ref q.2.1, q.2.2]
  | _, _, .nil => ⟨[], .nil, rfl, fun j q e => by simp at e⟩
  | _, _, .cons (a := p) (b := kv) ⟨b, h, hb⟩ t => by
    obtain ⟨prs, r, hl, hp⟩ := pairsT_of I t
    obtain ⟨its, rv, ht, _⟩ := I.tuple h
    obtain ⟨u, y, ei, ru, ry⟩ := vals2 rv
    subst ei
    cases (show u = Value.ref b from ru)
    refine ⟨(kv.1, b, y) :: prs, .cons ⟨rfl, hb, ry⟩ r, by rw [List.length_cons, List.length_cons, hl], fun j q e => ?_⟩
    cases j with
    | zero =>
      have e' : (kv.1, b, y) = q := Option.some.inj e
      subst e'
      exact ⟨p, rfl, ht⟩
    | succ j =>
      obtain ⟨c, e1, e2⟩ := hp j q (by simpa using e)
      exact ⟨c, by simpa using e1, e2⟩
theorem kt_all {H : Hp} {Pr : List Key → Addr → Prop} : ∀ {l : List (List Key × V)} {m : List (List Key × Addr × Value)}, KT H l m → (∀ k b, H b = some (.tup (k.map kV)) → Pr k b) → ∀ x ∈ m, Pr x.1 x.2.1
  | _, _, .nil, _ => fun x hx => nomatch hx
  | _, _, .cons (a := p) (b := q) ⟨h1, h2, _⟩ t, f => fun x hx => by
    rcases List.mem_cons.mp hx with e | hx
    · subst e
      exact f _ _ (by rw [← h1]; exact h2)
    · exact kt_all t f x hx
theorem call_dictT (hcalm : X.calm = true) (hu : X.A.units + 80 < cLine) : CallR X (.type "dict") (rDictT X.K) := by
  intro pins s σ H xs us Q I r q
  obtain ⟨a, ps, kvs, rfl, hq, hp, q⟩ := q
  obtain ⟨u, rfl, rx⟩ := vals1 r
  cases rx
  obtain ⟨its, rv, pl, hz⟩ := I.list hq
  have ei := refs_at rv
  subst ei
  rw [List.length_map] at hz
  obtain ⟨prs, rel, hl, hpr⟩ := pairsT_of I hp
  obtain ⟨o, n, ho, hc, hd, hdat⟩ := pl
  have stay : ∀ h' : Heap, (∀ b o, s.heap.get? b = some o → h'.get? b = some o) → ∀ x ∈ prs, (tupleKind (mixKind X.prog X.w)).is h' x.1 x.2.1 := fun h' hk =>
    kt_all (Pr := fun k b => (tupleKind (mixKind X.prog X.w)).is h' k b) rel fun k b hb => by
      obtain ⟨o, its, n, h1, rr⟩ := key_of I.hok hb
      exact ⟨o, its, n, hk _ _ h1, rr⟩
  refine PySem.call_dict_pairsH (knd := tupleKind (mixKind X.prog X.w)) (ps := prs)
    (PySem.PairArg.list a (ps.map Value.ref).toArray (fun j => ps.getD j 0) (prs.map fun x => (Value.ref x.2.1, x.2.2))) (I.ok.hd hcalm)
    (show X.A.in1.in1.units < cLine from ?_) ⟨⟨o, n, ho, hc, hd, hdat⟩, ?_, fun j k v e => ?_⟩ ⟨by simp, fun i key v hr => ?_⟩ (fun h' hk x hx => ?_) (by rw [List.length_map, hl]; exact hz) fun h' tk hd' hk => ?_
  · show X.A.units + 1 + 1 < cLine
    omega
  · simp [hl]
  · rw [List.getElem?_map] at e
    obtain ⟨x, e1, e2⟩ := Option.map_eq_some_iff.mp e
    cases e2
    obtain ⟨b, e3, e4⟩ := hpr j x e1
    have e5 : ps.getD j 0 = b := by rw [List.getD_eq_getElem?_getD, e3]; rfl
    refine ⟨by simp [e3, e5], .inl ?_⟩
    show s.heap.IsTuple (ps.getD j 0) _
    rw [e5]
    obtain ⟨o2, g1, g2, n2, g3⟩ := e4
    exact ⟨o2, g1, g2, n2, g3⟩
  · have hr : (prs.map fun x => (Value.ref x.2.1, x.2.2))[i]? = some (key, v) := hr
    rw [List.getElem?_map] at hr
    obtain ⟨x, e1, e2⟩ := Option.map_eq_some_iff.mp hr
    cases e2
    exact ⟨x.1, x.2.1, e1, rfl⟩
  · refine kt_all (Pr := fun k b => (tupleKind (mixKind X.prog X.w)).is h' k b) rel (fun k b hb => ?_) x hx
    obtain ⟨o, its, n, h1, rr⟩ := key_of I.hok hb
    exact ⟨o, its, n, hk _ _ (Nat.ne_of_lt (Heap.lt_size h1)) List.not_mem_nil h1, rr⟩
  · have hm : (s.heap.objs.size == sysModules) = false := beq_eq_false_iff_ne.mpr (Nat.ne_of_gt I.big)
    have hlen : (mergeT [] kvs).length ≤ sizeLine := by
      refine Nat.le_trans (mergeT_length kvs []) ?_
      rw [List.length_nil, Nat.zero_add, Paired.length rel, hl]
      exact hz
    obtain ⟨o2, es, ep, g1, g2, g3, g4, _, g6⟩ := hd'
    have fresh := I.hok.fresh (Nat.le_refl s.heap.objs.size)
    have kt := (kt_merge (kvs := []) (xs := []) rel .nil).keeps (H' := upd H s.heap.objs.size (.dT (mergeT [] kvs))) fun b ys e => by
      rw [upd_ne (ne_of_none e fresh)]
      exact e
    exact ⟨.ref s.heap.objs.size, upd H s.heap.objs.size (.dT (mergeT [] kvs)), I.laid (t' := tk) (fun b o e => hk b o List.not_mem_nil e) (Nat.le_refl _) (show ObjOk X.prog X.w _ _ _ (.dT (mergeT [] kvs)) from ⟨hlen, hm, PySem.storedAllH [] prs, kt, o2, es, ep, g1, g2, g3, g4, g6⟩), rfl, q _ fresh⟩
theorem dictTK (hcalm : X.calm = true) (hu : X.A.units + 80 < cLine) (K : PySem.W.Frag) (h : X.K = K := by rfl) : CallR X (.type "dict") (rDictT K) := by
  subst h
  exact call_dictT hcalm hu
end
end Lt

set_option Elab.async false
set_option linter.all false
set_option maxRecDepth 100000
set_option maxHeartbeats 4000000
namespace Lt
open PySem PySem.Spec PyProof.Rows L2
section
variable {S : List Addr} {H : Hp} {D : Addr}
mutual
theorem Dy.off (n0 : H D = none) : ∀ {d : PyData} {v : V}, Dy S H v d → Dy (D :: S) H v d
  | _, _, .non => .non
  | _, _, .bl b => .bl b
  | _, _, .int i => .int i
  | _, _, .str x => .str x
  | _, _, .tup e t => .tup e (DyA.off n0 t)
  | _, _, .lst e n t => .lst e (fun m => (List.mem_cons.mp m).elim (fun z => by
      rw [z, n0] at e
      cases e) n) (DyA.off n0 t)
  | _, _, .dK e n t => .dK e (fun m => (List.mem_cons.mp m).elim (fun z => by
      rw [z, n0] at e
      cases e) n) (DyK.off n0 t)
  | _, _, .dT e n t => .dT e (fun m => (List.mem_cons.mp m).elim (fun z => by
      rw [z, n0] at e
      cases e) n) (DyT.off n0 t)
theorem DyA.off (n0 : H D = none) : ∀ {ds : List PyData} {vs : List V}, DyA S H vs ds → DyA (D :: S) H vs ds
  | _, _, .nil => .nil
  | _, _, .cons a b => .cons (Dy.off n0 a) (DyA.off n0 b)
theorem DyK.off (n0 : H D = none) : ∀ {ds : List (PyData × PyData)} {vs : List (Key × V)}, DyK S H vs ds → DyK (D :: S) H vs ds
  | _, _, .nil => .nil
  | _, _, .cons a b => .cons (Dy.off n0 a) (DyK.off n0 b)
theorem DyT.off (n0 : H D = none) : ∀ {ds : List (PyData × PyData)} {vs : List (List Key × V)}, DyT S H vs ds → DyT (D :: S) H vs ds
  | _, _, .nil => .nil
  | _, _, .cons a b => .cons (Dy.off n0 a) (DyT.off n0 b)
end
end
/-! ## displays of values, one by one: each part builds a good value, wherever it stands -/
def Bld (G : Hp → V → Prop) (H0 : Hp) (σ : Slots) (t : TE) : Prop := ∀ H, Fr [] H0 H → ∀ Q : VK, (∀ y H', Fr [] H H' → G H' y → Q y H') → t σ H Q
def BldA (G : Hp → V → Prop) (H0 : Hp) (σ : Slots) (n : Nat) (t : TA) : Prop := ∀ H, Fr [] H0 H → ∀ Q : List V → Hp → Prop, (∀ ys H', Fr [] H H' → ys.length = n → (∀ y ∈ ys, G H' y) → Q ys H') → t σ H Q
/-- what is good stays good -/
def Stays (G : Hp → V → Prop) : Prop := ∀ H H' y, Fr [] H H' → G H y → G H' y
section
variable {G : Hp → V → Prop} {H0 : Hp} {σ : Slots} {t : TE} {ts : TA} {n : Nat}
theorem BldA.nil : BldA G H0 σ 0 tNil := fun H f Q k => k [] H Fr.refl rfl (fun _ m => absurd m List.not_mem_nil)
theorem BldA.cons (st : Stays G) (a : Bld G H0 σ t) (b : BldA G H0 σ n ts) : BldA G H0 σ (n + 1) (tCons t ts) := fun H f Q k =>
  a H f _ fun y H1 f1 g1 => b H1 (f.trans f1) _ fun ys H2 f2 hl gs => k (y :: ys) H2 (f1.trans f2) (by rw [List.length_cons, hl]) fun z m => by
    rcases List.mem_cons.mp m with rfl | m
    · exact st _ _ _ f2 g1
    · exact gs z m
/-- the list of these values -/
theorem BldA.lst (b : BldA G H0 σ n ts) (st : Stays G) (hn : n ≤ 100000) {H : Hp} (f : Fr [] H0 H) {Q : VK} (k : ∀ H' l xs, Fr [] H H' → H l = none → H' l = some (.lst xs) → xs.length = n → (∀ x ∈ xs, G H' x) → Q (.ref l) H') : tLst ts σ H Q :=
  b H f _ fun ys H1 f1 hl gs => ⟨szl (by omega), fun l nl => k _ l ys (f1.trans (Fr.new nl)) (f1.free nl) upd_same hl fun x m => st _ _ _ (Fr.new nl) (gs x m)⟩
theorem BldA.asg {i : Nat} {B : TS} {D : Ends} (b : BldA G H0 σ n ts) (st : Stays G) (hn : n ≤ 100000) {H : Hp} (f : Fr [] H0 H)
    (k : ∀ H' l xs, Fr [] H H' → H l = none → H' l = some (.lst xs) → xs.length = n → (∀ x ∈ xs, G H' x) → B D (σ.set i (some (.ref l))) H') : tSeq (tAsg (tLst ts) (gName i)) B D σ H :=
  b.lst (Q := fun x H1 => gName i x σ H1 fun σ2 H2 => B D σ2 H2) st hn f fun H' l xs a1 a2 a3 a4 a5 => k H' l xs a1 a2 a3 a4 a5
end
/-! ## good: any data of some size -/
def GZ (n w : Nat) (S : List Addr) (H : Hp) (y : V) : Prop := ∃ e, Dy S H y e ∧ Sq n w e
theorem sq_dict0 : Sq 1 0 (.dict []) := ⟨rfl, rfl, by simp [PyData.depth, PyData.depthKv], by simp [PyData.weight, PyData.weightKv]⟩
section
variable {n w n' w' : Nat} {S : List Addr} {H H0 H1 : Hp} {y : V} {σ : Slots}
theorem GZ.fr (f : Fr S H H1) (h : GZ n w S H y) : GZ n w S H1 y := h.elim fun e q => ⟨e, q.1.fr f, q.2⟩
theorem GZ.fr0 (f : Fr [] H H1) (h : GZ n w S H y) : GZ n w S H1 y := h.fr f.of0
theorem GZ.off {D : Addr} (n0 : H D = none) (h : GZ n w S H y) : GZ n w (D :: S) H y := h.elim fun e q => ⟨e, q.1.off n0, q.2⟩
theorem GZ.no (h : GZ n w S H y) : GZ n w [] H y := h.elim fun e q => ⟨e, q.1.mono (fun _ m => absurd m List.not_mem_nil), q.2⟩
theorem GZ.stays : Stays (GZ n w S) := fun _ _ _ f h => h.fr0 f
theorem GZ.up (h : GZ n w S H y) (hn : n ≤ n') (hw : w ≤ w') : GZ n' w' S H y := h.elim fun e q => ⟨e, q.1, q.2.up hn hw⟩
theorem Bld.c (h : ∀ H, GZ n w S H y) : Bld (GZ n w S) H0 σ (tC y) := fun H f Q k => k _ _ Fr.refl (h H)
theorem gz_int {i : Int} (h : i.natAbs < 10 ^ 12) (hw : 64 ≤ w) : GZ n w S H (.int i) := ⟨_, .int _, (Sq.int h).up (Nat.zero_le _) hw⟩
theorem gz_bl {b : Bool} : GZ n w S H (.bl b) := ⟨_, .bl _, (Sq.bl b).up (Nat.zero_le _) (Nat.zero_le _)⟩
theorem gz_non : GZ n w S H .non := ⟨_, .non, Sq.non.up (Nat.zero_le _) (Nat.zero_le _)⟩
theorem gz_str {x : Str} (h : x.length ≤ 60 ∧ PyData.leavesShort 40 (.str x) = true ∧ PyData.weight (.str x) ≤ w) : GZ n w S H (.str x) := ⟨_, .str _, ⟨rfl, h.2.1, Nat.zero_le _, h.2.2⟩⟩
theorem Bld.int {i : Int} (h : i.natAbs < 10 ^ 12 := by decide) (hw : 64 ≤ w := by decide) : Bld (GZ n w S) H0 σ (tC (.int i)) := Bld.c fun _ => gz_int h hw
theorem Bld.bl {b : Bool} : Bld (GZ n w S) H0 σ (tC (.bl b)) := Bld.c fun _ => gz_bl
theorem Bld.non : Bld (GZ n w S) H0 σ (tC .non) := Bld.c fun _ => gz_non
theorem Bld.str {x : Str} (h : PyData.leavesShort 40 (.str x) = true := by decide +kernel) (hw : PyData.weight (.str x) ≤ w := by decide +kernel) : Bld (GZ n w S) H0 σ (tC (.str x)) := Bld.c fun _ => ⟨_, .str _, ⟨rfl, h, Nat.zero_le _, hw⟩⟩
/-- a name -/
theorem Bld.var {i : Nat} {x : V} (e : σ[i]? = some (some x)) (h : GZ n w S H0 x) : Bld (GZ n w S) H0 σ (tVar i) := fun H f Q k => ⟨x, e, k _ _ Fr.refl (h.fr0 f)⟩
/-- {} -/
theorem Bld.dnew (h0 : ∀ H p, Fr [] H0 H → H p = none → p ∉ S) : Bld (GZ (n + 1) w S) H0 σ tDNewK := fun H f Q k p hp =>
  k _ _ (Fr.new hp) ⟨.dict [], .dK upd_same (h0 H p f hp) .nil, (sq_dict0).up (by omega) (Nat.zero_le _)⟩
theorem gz_alls : ∀ {ys : List V}, (∀ y ∈ ys, GZ n w S H y) → ∃ ds, DyA S H ys ds ∧ ∀ d ∈ ds, Sq n w d
  | [], _ => ⟨[], .nil, fun _ m => absurd m List.not_mem_nil⟩
  | y :: ys, h => by
    obtain ⟨d, h1, h2⟩ := h y List.mem_cons_self
    obtain ⟨ds, h3, h4⟩ := gz_alls fun z m => h z (List.mem_cons_of_mem _ m)
    refine ⟨d :: ds, .cons h1 h3, fun z m => ?_⟩
    rcases List.mem_cons.mp m with rfl | m
    · exact h2
    · exact h4 z m
theorem gz_tup {p : Addr} {ys : List V} {m : Nat} (h : H p = some (.tup ys)) (g : ∀ y ∈ ys, GZ n w S H y) (hl : ys.length ≤ m) : GZ (n + 1) (m * (w + 1)) S H (.ref p) := by
  obtain ⟨ds, h1, h2⟩ := gz_alls g
  exact ⟨.tuple ds, .tup h h1, Sq.tup h2 (by rw [← h1.length]; exact hl)⟩
theorem gz_lst {p : Addr} {ys : List V} {m : Nat} (h : H p = some (.lst ys)) (hp : p ∉ S) (g : ∀ y ∈ ys, GZ n w S H y) (hl : ys.length ≤ m) : GZ (n + 1) (m * (w + 1)) S H (.ref p) := by
  obtain ⟨ds, h1, h2⟩ := gz_alls g
  exact ⟨.list ds, .lst h hp h1, Sq.lst h2 (by rw [← h1.length]; exact hl)⟩
/-- (a, b) of good values -/
theorem Bld.tup {ts : TA} {m : Nat} (b : BldA (GZ n w S) H0 σ m ts) (hm : m ≤ 100000 := by decide) : Bld (GZ (n + 1) (m * (w + 1)) S) H0 σ (tTup ts) := fun H f Q k =>
  b H f _ fun ys H1 f1 hl gs => ⟨szl (by omega), fun p hp => k _ _ (f1.trans (Fr.new hp)) (gz_tup upd_same (fun y m => (gs y m).fr0 (Fr.new hp)) (Nat.le_of_eq hl))⟩
/-- [a, b] of good values -/
theorem Bld.lst {ts : TA} {m : Nat} (b : BldA (GZ n w S) H0 σ m ts) (h0 : ∀ H p, Fr [] H0 H → H p = none → p ∉ S) (hm : m ≤ 100000 := by decide) : Bld (GZ (n + 1) (m * (w + 1)) S) H0 σ (tLst ts) := fun H f Q k =>
  b H f _ fun ys H1 f1 hl gs => ⟨szl (by omega), fun p hp => k _ _ (f1.trans (Fr.new hp)) (gz_lst upd_same (h0 _ _ (f.trans f1) hp) (fun y m => (gs y m).fr0 (Fr.new hp)) (Nat.le_of_eq hl))⟩
theorem Bld.up {t : TE} (h : Bld (GZ n w S) H0 σ t) (hn : n ≤ n' := by decide) (hw : w ≤ w' := by decide) : Bld (GZ n' w' S) H0 σ t := fun H f Q k => h H f Q fun y H1 f1 g => k y H1 f1 (g.up hn hw)
/-! ## the same, with a word about the data -/
def GP (q : PyData → Prop) (n w : Nat) (S : List Addr) (H : Hp) (y : V) : Prop := ∃ e, Dy S H y e ∧ Sq n w e ∧ q e
variable {q : PyData → Prop}
theorem GP.z (h : GP q n w S H y) : GZ n w S H y := h.elim fun e r => ⟨e, r.1, r.2.1⟩
theorem GP.fr (f : Fr S H H1) (h : GP q n w S H y) : GP q n w S H1 y := h.elim fun e r => ⟨e, r.1.fr f, r.2⟩
theorem GP.fr0 (f : Fr [] H H1) (h : GP q n w S H y) : GP q n w S H1 y := h.fr f.of0
theorem GP.stays : Stays (GP q n w S) := fun _ _ _ f h => h.fr0 f
theorem GP.up (h : GP q n w S H y) (hn : n ≤ n') (hw : w ≤ w') : GP q n' w' S H y := h.elim fun e r => ⟨e, r.1, r.2.1.up hn hw, r.2.2⟩
theorem Bld.cq {d : PyData} (h : ∀ H, Dy S H y d) (s : Sq n w d) (hq : q d) : Bld (GP q n w S) H0 σ (tC y) := fun H f Q k => k _ _ Fr.refl ⟨d, h H, s, hq⟩
theorem Bld.dnewq (h0 : ∀ H p, Fr [] H0 H → H p = none → p ∉ S) (hq : q (.dict [])) : Bld (GP q (n + 1) w S) H0 σ tDNewK := fun H f Q k p hp =>
  k _ _ (Fr.new hp) ⟨.dict [], .dK upd_same (h0 H p f hp) .nil, (sq_dict0).up (by omega) (Nat.zero_le _), hq⟩
theorem Bld.tupq {ts : TA} {m : Nat} (b : BldA (GZ n w S) H0 σ m ts) (hq : ∀ ds : List PyData, ds.length = m → q (.tuple ds)) (hm : m ≤ 100000 := by decide) : Bld (GP q (n + 1) (m * (w + 1)) S) H0 σ (tTup ts) := fun H f Q k =>
  b H f _ fun ys H1 f1 hl gs => ⟨szl (by omega), fun p hp => by
    obtain ⟨ds, h1, h2⟩ := gz_alls gs
    have e := h1.length
    exact k _ _ (f1.trans (Fr.new hp)) ⟨.tuple ds, .tup upd_same (h1.fr (Fr.new hp).of0), Sq.tup h2 (by omega), hq ds (by omega)⟩⟩
theorem Bld.lstq {ts : TA} {m : Nat} (b : BldA (GZ n w S) H0 σ m ts) (h0 : ∀ H p, Fr [] H0 H → H p = none → p ∉ S) (hq : ∀ ds : List PyData, q (.list ds)) (hm : m ≤ 100000 := by decide) : Bld (GP q (n + 1) (m * (w + 1)) S) H0 σ (tLst ts) := fun H f Q k =>
  b H f _ fun ys H1 f1 hl gs => ⟨szl (by omega), fun p hp => by
    obtain ⟨ds, h1, h2⟩ := gz_alls gs
    have e := h1.length
    exact k _ _ (f1.trans (Fr.new hp)) ⟨.list ds, .lst upd_same (h0 _ _ (f.trans f1) hp) (h1.fr (Fr.new hp).of0), Sq.lst h2 (by omega), hq ds⟩⟩
theorem Bld.upq {t : TE} (h : Bld (GP q n w S) H0 σ t) (hn : n ≤ n' := by decide) (hw : w ≤ w' := by decide) : Bld (GP q n' w' S) H0 σ t := fun H f Q k => h H f Q fun y H1 f1 g => k y H1 f1 (g.up hn hw)
end
end Lt

set_option Elab.async false
set_option linter.all false
set_option maxRecDepth 100000
set_option maxHeartbeats 4000000
namespace Lt
open PySem PySem.Spec PyProof.Rows L2
section
variable {X : Cx}
theorem catAK (K : PySem.W.Frag) (h : X.K = K := by rfl) : OpR X (binaryOp .Add) (rCatA K) := h ▸ op_catA
theorem slAK (K : PySem.W.Frag) (h : X.K = K := by rfl) : SlR X (rSlA K) := h ▸ sl_tupA
end
theorem noPart {σ : Slots} {H : Hp} {Q : Option Int → Hp → Prop} (h : Q none H) : tNoPart σ H Q := h
theorem catA_of {K : PySem.W.Frag} {H : Hp} {Q : VK} {a b : Addr} {xs ys : List V} (ha : H a = some (.tup xs)) (hb : H b = some (.tup ys)) (hl : xs.length + ys.length ≤ 100000)
    (k : ∀ H' u, Fr [] H H' → H' u = some (.tup (xs ++ ys)) → Q (.ref u) H') : rCatA K (.ref a) (.ref b) H Q := by
  refine ⟨a, b, xs, ys, rfl, rfl, SqT.of ha, SqT.of hb, szl hl, fun e => k H b Fr.refl ?_, fun _ e => k H a Fr.refl ?_, fun _ _ p hp => k _ p (Fr.new hp) upd_same⟩
  · rw [e, List.nil_append]
    exact hb
  · rw [e, List.append_nil]
    exact ha
theorem slA_of {K : PySem.W.Frag} {H : Hp} {Q : VK} {a : Addr} {xs zs : List V} {lo hi : Option Int} (ha : H a = some (.tup xs)) (e : cutV xs lo hi = zs) (k : ∀ H' u, Fr [] H H' → H' u = some (.tup zs) → Q (.ref u) H') : rSlA K (.ref a) lo hi H Q := by
  refine ⟨a, xs, rfl, SqT.of ha, fun c => k H a Fr.refl ?_, fun _ p hp => ?_⟩
  · rw [ha, ← e]
    unfold cutV
    rw [c.1, c.2, List.drop_zero, Nat.sub_zero, List.take_length]
  · rw [e]
    exact k _ p (Fr.new hp) upd_same
end Lt

set_option Elab.async false
set_option linter.all false
set_option maxRecDepth 100000
set_option maxHeartbeats 8000000
namespace Lt
open PySem PySem.Spec PyProof.Rows L2
theorem cut_from {xs : List V} (k : Nat) : cutV xs (some (k : Int)) none = xs.drop k := by
  unfold cutV
  rw [HT.sIx_none, HT.sIx_nat]
  by_cases c : k ≤ xs.length
  · rw [Nat.min_eq_left c, List.take_of_length_le (by rw [List.length_drop]; exact Nat.le_refl _)]
  · rw [Nat.min_eq_right (by omega), List.drop_of_length_le (Nat.le_refl _), List.drop_of_length_le (by omega), List.take_nil]
theorem item_str13 {S : List Addr} {H : Hp} : ∀ i : Nat, i < 13 → GZ 1 200 S H (.str (toString (i : Int))) := by
  have h : ∀ i : Nat, i < 13 → PyData.leavesShort 40 (.str (toString (i : Int))) = true ∧ PyData.weight (.str (toString (i : Int))) ≤ 200 := by decide +kernel
  exact fun i hi => ⟨_, .str _, ⟨rfl, (h i hi).1, Nat.zero_le _, (h i hi).2⟩⟩
/-! ## sizes of rows of data, part by part -/
structure SqA (n w : Nat) (ds : List PyData) : Prop where
  sh : PyData.showableAll ds = true
  ls : PyData.leavesShortAll 40 ds = true
  dep : PyData.depthAll ds ≤ n
  wt : PyData.weightAll ds ≤ w
theorem SqA.of {n w : Nat} {ds : List PyData} (h : ∀ d ∈ ds, Sq n w d) {m : Nat} (hm : ds.length ≤ m) : SqA n (m * (w + 1)) ds := by
  obtain ⟨a, b, c, e⟩ := sq_all h
  exact ⟨c, e, a, Nat.le_trans b (Nat.mul_le_mul_right _ hm)⟩
theorem SqA.up {n w n' w' : Nat} {ds : List PyData} (h : SqA n w ds) (hn : n ≤ n') (hw : w ≤ w') : SqA n' w' ds := ⟨h.sh, h.ls, Nat.le_trans h.dep hn, Nat.le_trans h.wt hw⟩
theorem SqA.app {n a b : Nat} : ∀ {xs ys : List PyData}, SqA n a xs → SqA n b ys → SqA n (a + b) (xs ++ ys)
  | [], ys, _, h => h.up (Nat.le_refl _) (by omega)
  | x :: xs, ys, h, k => by
    obtain ⟨h1, h2, h3, h4⟩ := h
    unfold PyData.showableAll at h1
    unfold PyData.leavesShortAll at h2
    unfold PyData.depthAll at h3
    unfold PyData.weightAll at h4
    obtain ⟨h1a, h1b⟩ := Bool.and_eq_true_iff.mp h1
    obtain ⟨h2a, h2b⟩ := Bool.and_eq_true_iff.mp h2
    have r := SqA.app (a := PyData.weightAll xs) (xs := xs) (ys := ys) ⟨h1b, h2b, Nat.le_trans (Nat.le_max_right _ _) h3, Nat.le_refl _⟩ k
    rw [List.cons_append]
    refine ⟨?_, ?_, ?_, ?_⟩
    · unfold PyData.showableAll
      rw [h1a, r.sh]
      rfl
    · unfold PyData.leavesShortAll
      rw [h2a, r.ls]
      rfl
    · unfold PyData.depthAll
      exact Nat.max_le.mpr ⟨Nat.le_trans (Nat.le_max_left _ _) h3, r.dep⟩
    · unfold PyData.weightAll
      have := r.wt
      omega
theorem SqA.one {n w : Nat} {d : PyData} (h : Sq n w d) : SqA n (w + 1) [d] := (SqA.of (m := 1) (ds := [d]) (fun x m => by rw [List.mem_singleton.mp m]; exact h) (Nat.le_refl _)).up (Nat.le_refl _) (by omega)
theorem SqA.tup {n w : Nat} {ds : List PyData} (h : SqA n w ds) : Sq (n + 1) w (.tuple ds) := by
  refine ⟨h.sh, h.ls, ?_, ?_⟩
  · unfold PyData.depth
    have := h.dep
    omega
  · unfold PyData.weight
    exact h.wt
structure SqK (n w : Nat) (ds : List (PyData × PyData)) : Prop where
  sh : PyData.showableKv ds = true
  ls : PyData.leavesShortKv 40 ds = true
  dep : PyData.depthKv ds ≤ n
  wt : PyData.weightKv ds ≤ ds.length * (2 * w + 2)
theorem SqK.of {n w : Nat} : ∀ {ds : List (PyData × PyData)}, (∀ x ∈ ds, Sq n w x.1 ∧ Sq n w x.2) → SqK n w ds
  | [], _ => ⟨rfl, rfl, Nat.zero_le _, Nat.zero_le _⟩
  | (k, v) :: ds, h => by
    obtain ⟨h1, h2⟩ := h (k, v) List.mem_cons_self
    have r := SqK.of (n := n) (w := w) (ds := ds) fun x m => h x (List.mem_cons_of_mem _ m)
    have e1 := h1.dep
    have e2 := h2.dep
    have e3 := r.dep
    have e4 := h1.wt
    have e5 := h2.wt
    have e6 := r.wt
    dsimp only at e1 e2 e4 e5
    refine ⟨?_, ?_, ?_, ?_⟩
    · unfold PyData.showableKv
      rw [h1.sh, h2.sh, r.sh]
      rfl
    · unfold PyData.leavesShortKv
      rw [h1.ls, h2.ls, r.ls]
      rfl
    · unfold PyData.depthKv
      omega
    · unfold PyData.weightKv
      rw [List.length_cons, Nat.add_mul]
      omega
theorem SqK.dict {n w m : Nat} {ds : List (PyData × PyData)} (h : SqK n w ds) (hm : ds.length ≤ m) : Sq (n + 1) (m * (2 * w + 2)) (.dict ds) := by
  refine ⟨?_, ?_, ?_, ?_⟩
  · unfold PyData.showable
    exact h.sh
  · unfold PyData.leavesShort
    exact h.ls
  · unfold PyData.depth
    have := h.dep
    omega
  · unfold PyData.weight
    exact Nat.le_trans h.wt (Nat.mul_le_mul_right _ hm)
/-! ## the pairs of a dict -/
abbrev kP (p : Pr) : List Key := [Sum.inl (p.1 : Int), Sum.inl (p.2 : Int)]
abbrev dP1 (p : Pr) : PyData := .tuple [dP p, .int 1]
/-- an entry: a pair of places, with 1 -/
def EntP (e : List Key × V) : Prop := ∃ p : Pr, p.1 < 12 ∧ p.2 < 12 ∧ e = (kP p, .int 1)
theorem putK_ent {kvs : List (List Key × V)} {k : List Key} {v : V} (h : ∀ e ∈ kvs, EntP e) (hk : EntP (k, v)) : ∀ e ∈ putK kvs k v, EntP e := by
  intro e m
  unfold putK at m
  split at m
  · obtain ⟨x, mx, rfl⟩ := List.mem_map.mp m
    split
    · rename_i c
      rw [c]
      exact hk
    · exact h x mx
  · rcases List.mem_append.mp m with m | m
    · exact h e m
    · rw [List.mem_singleton.mp m]
      exact hk
theorem mergeT_ent : ∀ {more kvs : List (List Key × V)}, (∀ e ∈ kvs, EntP e) → (∀ e ∈ more, EntP e) → ∀ e ∈ mergeT kvs more, EntP e
  | [], _, h, _ => h
  | x :: more, kvs, h, g => mergeT_ent (more := more) (putK_ent h (g x List.mem_cons_self)) fun e m => g e (List.mem_cons_of_mem _ m)
theorem ent_data {S : List Addr} {H : Hp} : ∀ {kvs : List (List Key × V)}, (∀ e ∈ kvs, EntP e) → ∃ ds, DyT S H kvs ds ∧ ds.length = kvs.length ∧ ∀ x ∈ ds, Sq 1 130 x.1 ∧ Sq 1 130 x.2
  | [], _ => ⟨[], .nil, rfl, fun _ m => absurd m List.not_mem_nil⟩
  | e :: kvs, h => by
    obtain ⟨p, h1, h2, rfl⟩ := h e List.mem_cons_self
    obtain ⟨ds, d1, d2, d3⟩ := ent_data (S := S) (H := H) fun e m => h e (List.mem_cons_of_mem _ m)
    refine ⟨(.tuple ((kP p).map keyD), .int 1) :: ds, .cons (.int 1) d1, by rw [List.length_cons, List.length_cons, d2], fun x m => ?_⟩
    rcases List.mem_cons.mp m with rfl | m
    · exact ⟨(sm_dP (p := p) (by omega) (by omega)).sq, (Sq.int (by decide)).up (by decide) (by decide)⟩
    · exact d3 x m
theorem ent_pairs {K : PySem.W.Frag} {H : Hp} : ∀ {xs : List V} {ps : List Pr}, Tps H xs (ps.map dP1) → (∀ p ∈ ps, p.1 < 12 ∧ p.2 < 12) → ∃ as : List Addr, xs = as.map V.ref ∧ ∃ kvs, kvs.length = ps.length ∧ (∀ e ∈ kvs, EntP e) ∧
    Paired (fun p (kv : List Key × V) => ∃ b, SqT K H p [.ref b, kv.2] ∧ H b = some (.tup (kv.1.map kV))) as kvs
  | [], [], .nil, _ => ⟨[], rfl, [], rfl, fun _ m => absurd m List.not_mem_nil, .nil⟩
  | x :: xs, p :: ps, .cons hx t, h => by
    obtain ⟨as, rfl, kvs, k1, k2, k3⟩ := ent_pairs (K := K) t fun q m => h q (List.mem_cons_of_mem _ m)
    obtain ⟨a, ys, rfl, ea, ty⟩ := hx.tup_inv
    obtain ⟨v, w, rfl, hv, hw⟩ := ty.two_inv
    obtain ⟨b, rfl, eb⟩ := hv.pr_inv
    have ew := hw.int_inv
    subst ew
    have hp := h p List.mem_cons_self
    refine ⟨a :: as, rfl, (kP p, .int 1) :: kvs, by rw [List.length_cons, List.length_cons, k1], fun e m => ?_, .cons ⟨b, SqT.of ea, eb⟩ k3⟩
    rcases List.mem_cons.mp m with rfl | m
    · exact ⟨p, hp.1, hp.2, rfl⟩
    · exact k2 e m
/-- a tuple is no longer than that -/
def TupLe (k : Nat) (e : PyData) : Prop := ∀ ts, e = .tuple ts → ts.length ≤ k
/-- of a pair whose second item is a tuple this one is no longer than that -/
def Lim (k : Nat) (e : PyData) : Prop := ∀ x ts, e = .tuple [x, .tuple ts] → ts.length ≤ k
theorem TupLe.of {k : Nat} {e : PyData} (h : ∀ ts, e ≠ .tuple ts) : TupLe k e := fun ts z => absurd z (h ts)
theorem Lim.of {k : Nat} {e : PyData} (h : ∀ ts, e ≠ .tuple ts) : Lim k e := fun _ ts z => absurd z (h _)
theorem Lim.len {k m : Nat} (h : m ≠ 2) : ∀ ds : List PyData, ds.length = m → Lim k (.tuple ds) := fun ds hl x ts z => by
  cases z
  exact absurd hl.symm h
theorem TupLe.len {k m : Nat} (h : m ≤ k) : ∀ ds : List PyData, ds.length = m → TupLe k (.tuple ds) := fun ds hl ts z => by
  cases z
  omega
theorem Lim.two {k : Nat} {a b : PyData} (h : TupLe k b) : Lim k (.tuple [a, b]) := fun x ts z => by
  cases z
  exact h _ rfl
section
variable {P : Program} {w : World} {K : PySem.W.Frag} {mg : Str → Option Value} {base : Heap} {f : Addr} {fd : FuncData}
def spSpoilt : Sp := fun vs H Q _ => ∃ (S : List Addr) (s d c : Addr) (vt : V) (n : Nat) (ps : List Pr), vs = [.ref s, vt] ∧ Kp S s d H ∧ Stk s d c H ∧ Tp H vt (dW n ps) ∧ 1 ≤ n ∧ n ≤ 12 ∧ (∀ p ∈ ps, p.1 < 12 ∧ p.2 < 12) ∧ ps.length ≤ 70 ∧
  ∀ H' r, Fr [s, d] H H' → Stk s d c H' → GP (Lim (ps.length + 2)) 6 40000 S H' r → Q r H'
def rd__law_spoilt_1 (K : PySem.W.Frag) : TS := (tAsg (tVar 1) (gTup K 2 (gCons (gName 2) (gCons (gName 3) gNil))))
def rd__law_spoilt_2 (K : PySem.W.Frag) : TS := (tPar 4 5 (tCons (tCall spDraw [] E0 (tCons (tVar 0) (tCons (tC (.int 9)) tNil))) (tCons (tCall spDraw [] E0 (tCons (tVar 0) (tCons (tCB cMax2 (tCons (tC (.int 1)) (tCons (tCB (rLen K) (tCons (tVar 3) tNil)) tNil))) tNil))) tNil)))
def rd__law_spoilt_3 (K : PySem.W.Frag) : TS := (tIfS (tTest (tOp rEq (tVar 4) (tC (.int 0)))) (tSeq (tAsg (tLst (tCons (tOp rSubI (tVar 2) (tC (.int 1))) (tCons (tOp rAddI (tVar 2) (tC (.int 1))) (tCons (tC (.int 0)) (tCons (tC (.int 13)) (tCons (tC (.int 14)) (tCons (tUn rNegI (tC (.int 1))) (tCons (tC (.int 12)) (tCons (tC (.bl true)) (tCons (tC (.bl false)) (tCons (tC .non) (tCons (tCB cStrI (tCons (tVar 2) tNil)) (tCons (tTup (tCons (tVar 2) tNil)) (tCons (tLst (tCons (tVar 2) tNil)) (tCons (tOp rPowI (tC (.int 10)) (tC (.int 30))) (tCons tDNewK tNil)))))))))))))))) (gName 6)) (tRet (tTup (tCons (tCall spPickV [] E0 (tCons (tVar 0) (tCons (tVar 6) tNil))) (tCons (tVar 3) tNil))))) tNext)
def rd__law_spoilt_4 (K : PySem.W.Frag) : TS := (tIfS (tTest (tOp rEq (tVar 4) (tC (.int 1)))) (tSeq (tAsg (tLst (tCons (tCB (rLstOf K) (tCons (tVar 3) tNil)) (tCons (tC .non) (tCons (tC (.str "")) (tCons tDNewK (tCons (tTup (tCons (tVar 3) tNil)) (tCons (tTup (tCons (tC (.int 0)) (tCons (tC (.int 1)) tNil))) (tCons (tTup (tCons (tTup tNil) tNil)) (tCons (tCB (rDictT K) (tCons (tLc (iTup K (tVar 3)) (gName 9) tYes (tTup (tCons (tVar 9) (tCons (tC (.int 1)) tNil))) [9]) tNil)) (tCons (tC (.bl true)) tNil)))))))))) (gName 6)) (tRet (tTup (tCons (tVar 2) (tCons (tCall spPickV [] E0 (tCons (tVar 0) (tCons (tVar 6) tNil))) tNil))))) tNext)
def rd__law_spoilt_5 (K : PySem.W.Frag) : TS := (tIfS (tTest (tOp rEq (tVar 4) (tC (.int 2)))) (tSeq (tAsg (tLst (tCons (tCB (rLstOf K) (tCons (tVar 1) tNil)) (tCons (tTup (tCons (tVar 2) tNil)) (tCons (tTup (tCons (tVar 2) (tCons (tVar 3) (tCons (tVar 3) tNil)))) (tCons (tTup (tCons (tVar 3) (tCons (tVar 2) tNil))) (tCons (tC .non) (tCons (tC (.str "")) (tCons (tC (.int 7)) (tCons (tC (.bl true)) (tCons tDNewK (tCons (tTup tNil) (tCons (tLst (tCons (tVar 1) tNil)) (tCons (tTup (tCons (tVar 1) (tCons (tVar 3) tNil))) tNil))))))))))))) (gName 6)) (tRet (tCall spPickV [] E0 (tCons (tVar 0) (tCons (tVar 6) tNil))))) tNext)
def rd__law_spoilt_6 (K : PySem.W.Frag) : TS := (tIfS (tTest (tOp (rEqD K) (tVar 3) (tTup tNil))) (tRet (tTup (tCons (tVar 2) (tCons (tTup (tCons (tCall spOddV [] E0 (tCons (tVar 0) (tCons (tVar 2) (tCons (tTup (tCons (tC (.int 0)) (tCons (tC (.int 1)) tNil))) tNil)))) tNil)) tNil)))) tNext)
def rd__law_spoilt_7 (K : PySem.W.Frag) : TS := (tIfS (tTest (tOp rLtI (tVar 4) (tC (.int 6)))) (tRet (tTup (tCons (tVar 2) (tCons (tOp (rCatA K) (tOp (rCatA K) (tSl (rSlA K) (tVar 3) tNoPart (tPart (tVar 5))) (tTup (tCons (tCall spOddV [] E0 (tCons (tVar 0) (tCons (tVar 2) (tCons (tOp (rIxT K) (tVar 3) (tVar 5)) tNil)))) tNil))) (tSl (rSlA K) (tVar 3) (tPart (tOp rAddI (tVar 5) (tC (.int 1)))) tNoPart)) tNil)))) tNext)
def rd__law_spoilt_8 (K : PySem.W.Frag) : TS := (tIfS (tTest (tOp rEq (tVar 4) (tC (.int 6)))) (tRet (tTup (tCons (tVar 2) (tCons (tOp (rCatA K) (tOp (rCatA K) (tSl (rSlA K) (tVar 3) tNoPart (tPart (tVar 5))) (tTup (tCons (tOp (rIxT K) (tVar 3) (tVar 5)) tNil))) (tSl (rSlA K) (tVar 3) (tPart (tVar 5)) tNoPart)) tNil)))) tNext)
def rd__law_spoilt_9 (K : PySem.W.Frag) : TS := (tIfS (tTest (tOp rEq (tVar 4) (tC (.int 7)))) (tSeq (tAsg (tCall spDraw [] E0 (tCons (tVar 0) (tCons (tCB (rLen K) (tCons (tVar 3) tNil)) tNil))) (gName 7)) (tSeq (tAsg (tOp (rCatA K) (tSl (rSlA K) (tVar 3) tNoPart (tPart (tVar 7))) (tSl (rSlA K) (tVar 3) (tPart (tOp rAddI (tVar 7) (tC (.int 1)))) tNoPart)) (gName 8)) (tRet (tTup (tCons (tVar 2) (tCons (tOp (rCatA K) (tOp (rCatA K) (tSl (rSlA K) (tVar 8) tNoPart (tPart (tVar 5))) (tTup (tCons (tOp (rIxT K) (tVar 3) (tVar 7)) tNil))) (tSl (rSlA K) (tVar 8) (tPart (tVar 5)) tNoPart)) tNil)))))) tNext)
def rd__law_spoilt_10 (K : PySem.W.Frag) : TS := (tRet (tTup (tCons (tVar 2) (tCons (tOp (rCatA K) (tVar 3) (tTup (tCons (tCall spOddV [] E0 (tCons (tVar 0) (tCons (tVar 2) (tCons (tOp (rIxT K) (tVar 3) (tVar 5)) tNil)))) tNil))) tNil))))
def rdS__law_spoilt_10 (K : PySem.W.Frag) : TS := rd__law_spoilt_10 K
def rdS__law_spoilt_9 (K : PySem.W.Frag) : TS := tSeq (rd__law_spoilt_9 K) (rdS__law_spoilt_10 K)
def rdS__law_spoilt_8 (K : PySem.W.Frag) : TS := tSeq (rd__law_spoilt_8 K) (rdS__law_spoilt_9 K)
def rdS__law_spoilt_7 (K : PySem.W.Frag) : TS := tSeq (rd__law_spoilt_7 K) (rdS__law_spoilt_8 K)
def rdS__law_spoilt_6 (K : PySem.W.Frag) : TS := tSeq (rd__law_spoilt_6 K) (rdS__law_spoilt_7 K)
def rdS__law_spoilt_5 (K : PySem.W.Frag) : TS := tSeq (rd__law_spoilt_5 K) (rdS__law_spoilt_6 K)
def rdS__law_spoilt_4 (K : PySem.W.Frag) : TS := tSeq (rd__law_spoilt_4 K) (rdS__law_spoilt_5 K)
def rdS__law_spoilt_3 (K : PySem.W.Frag) : TS := tSeq (rd__law_spoilt_3 K) (rdS__law_spoilt_4 K)
def rdS__law_spoilt_2 (K : PySem.W.Frag) : TS := tSeq (rd__law_spoilt_2 K) (rdS__law_spoilt_3 K)
def rdS__law_spoilt_1 (K : PySem.W.Frag) : TS := tSeq (rd__law_spoilt_1 K) (rdS__law_spoilt_2 K)
section
variable {D : Ends} {S : List Addr} {s d c : Addr} {H : Hp} {n : Nat} {a t : Addr} {xs : List V} {ps : List Pr} {wy : Nat} {at_ kk : Nat} {y6 y7 y8 y9 : Option V}
theorem ties_gp {S : List Addr} (ht : H t = some (.tup xs)) (tx : Tps H xs (dPs ps)) (hp : ∀ p ∈ ps, p.1 < 12 ∧ p.2 < 12) (hl : ps.length ≤ 70) (hkk : ps.length + 2 ≤ kk) : GP (TupLe kk) 2 9170 S H (.ref t) :=
  ⟨dT ps, Tp.dy (.tup ht tx), (sm_dPs (m := 70) (fun p m => by have := hp p m; omega) hl).sq, fun ts z => by
    cases z
    rw [List.length_map]
    omega⟩
theorem gp_pair {S : List Addr} {H : Hp} {p : Addr} {x y : V} {n w : Nat} (h : H p = some (.tup [x, y])) (h1 : GZ n w S H x) (h2 : GP (TupLe kk) n w S H y) : GP (Lim kk) (n + 1) (2 * (w + 1)) S H (.ref p) := by
  obtain ⟨d, d1, d2⟩ := h1
  obtain ⟨e, e1, e2, e3⟩ := h2
  refine ⟨.tuple [d, e], .tup h (.cons d1 (.cons e1 .nil)), Sq.tup (m := 2) (fun z m => ?_) (Nat.le_refl _), Lim.two e3⟩
  simp only [List.mem_cons, List.not_mem_nil, or_false] at m
  rcases m with rfl | rfl
  · exact d2
  · exact e2
theorem ties_gz {S : List Addr} (ht : H t = some (.tup xs)) (tx : Tps H xs (dPs ps)) (hp : ∀ p ∈ ps, p.1 < 12 ∧ p.2 < 12) (hl : ps.length ≤ 70) : GZ 2 9170 S H (.ref t) :=
  ⟨dT ps, Tp.dy (.tup ht tx), (sm_dPs (m := 70) (fun p m => by have := hp p m; omega) hl).sq⟩
theorem web_gz {S : List Addr} (ha : H a = some (.tup [.int n, .ref t])) (hn : n ≤ 12) (g : GZ 2 9170 S H (.ref t)) : GZ 3 18342 S H (.ref a) :=
  gz_tup (n := 2) (w := 9170) (m := 2) ha (by
    intro y m
    simp only [List.mem_cons, List.not_mem_nil, or_false] at m
    rcases m with rfl | rfl
    · exact gz_int (by omega) (by decide)
    · exact g) (Nat.le_refl _)
/-- a pair of good values is good -/
theorem gz_pair {S : List Addr} {H : Hp} {p : Addr} {x y : V} {n w : Nat} (h : H p = some (.tup [x, y])) (h1 : GZ n w S H x) (h2 : GZ n w S H y) : GZ (n + 1) (2 * (w + 1)) S H (.ref p) :=
  gz_tup (m := 2) h (by
    intro z m
    simp only [List.mem_cons, List.not_mem_nil, or_false] at m
    rcases m with rfl | rfl
    · exact h1
    · exact h2) (Nat.le_refl _)
theorem so_3 (kp : Kp S s d H) (hk : Stk s d c H) (hn : n ≤ 12) (g : GP (TupLe kk) 2 9170 S H (.ref t)) {y1 y5 : Option V}
    (hkk : ps.length + 2 ≤ kk) (ret : ∀ H' r, Fr [s, d] H H' → Stk s d c H' → GP (Lim kk) 6 40000 S H' r → D.rt r H')
    (go : D.nx [some (.ref s), y1, some (.int n), some (.ref t), some (.int wy), y5, y6, y7, y8, y9] H) :
    rd__law_spoilt_3 K D [some (.ref s), y1, some (.int n), some (.ref t), some (.int wy), y5, y6, y7, y8, y9] H := by
  refine ⟨_, rfl, rfl, _, rfl, ite2 (fun _ => ?_) (fun _ => go)⟩
  have st := GZ.stays (n := 2) (w := 9170) (S := S)
  refine (BldA.asg (G := GZ 2 9170 S) (H0 := H) (n := 15) ?_ st (by decide) Fr.refl fun H1 l zs f1 n1 e1 l1 g1 => ?_)
  · refine .cons st (fun H1 f Q k => ⟨_, rfl, _, _, rfl, rfl, k _ _ Fr.refl (gz_int (by omega) (by decide))⟩) ?_
    refine .cons st (fun H1 f Q k => ⟨_, rfl, _, _, rfl, rfl, k _ _ Fr.refl (gz_int (by omega) (by decide))⟩) ?_
    refine .cons st .int (.cons st .int (.cons st .int ?_))
    refine .cons st (fun H1 f Q k => ⟨1, rfl, k _ _ Fr.refl (gz_int (by decide) (by decide))⟩) ?_
    refine .cons st .int (.cons st .bl (.cons st .bl (.cons st .non ?_)))
    refine .cons st (fun H1 f Q k => ⟨_, rfl, _, rfl, log_lt (k := 1920) (by omega) (by decide), k _ _ Fr.refl ((item_str13 n (by omega)).up (by decide) (by decide))⟩) ?_
    refine .cons st (.up (.tup (n := 0) (w := 64) (m := 1) (.cons GZ.stays (.var rfl (gz_int (by omega) (by decide))) .nil))) ?_
    refine .cons st (.up (.lst (n := 0) (w := 64) (m := 1) (.cons GZ.stays (.var rfl (gz_int (by omega) (by decide))) .nil) (fun _ _ => kp.off))) ?_
    refine .cons st (fun H1 f Q k => ⟨_, _, rfl, rfl, ⟨by decide, by decide, by decide⟩, k _ _ Fr.refl ⟨_, .int _, ⟨by decide +kernel, by decide +kernel, by decide +kernel, by decide +kernel⟩⟩⟩) ?_
    exact .cons st (.dnew (fun _ _ => kp.off)) .nil
  · have nl := kp.off Fr.refl n1
    have m1 : l ≠ s := fun z => nl (z ▸ kp.s)
    have m2 : l ≠ d := fun z => nl (z ▸ kp.d)
    refine ⟨_, rfl, _, rfl, s, d, c, l, zs, rfl, hk.fr0' f1, e1, by omega, by omega, m1, m2, fun H3 r mr f3 k3 => ?_⟩
    refine ⟨_, rfl, szl (Nat.le_of_ble_eq_true rfl), fun p hp => ?_⟩
    have f4 := Fr.new (S := [s, d]) (o := .tup [r, .ref t]) hp
    have g3 := ((g1 r mr).fr (kp.more f3)).fr (kp.more f4)
    have gt := ((g.fr0 f1).fr (kp.more f3)).fr (kp.more f4)
    exact ret _ _ (((f1.of0).trans f3).trans f4) (k3.fr0' (Fr.new hp)) ((gp_pair (n := 2) (w := 9170) upd_same g3 gt).up (by decide) (by decide))
theorem so_4 (kp : Kp S s d H) (hk : Stk s d c H) (hn : n ≤ 12) (ht : H t = some (.tup xs)) (tx : Tps H xs (dPs ps)) (hp : ∀ p ∈ ps, p.1 < 12 ∧ p.2 < 12) (hl : ps.length ≤ 70) {y1 y5 : Option V}
    (hkk : ps.length + 2 ≤ kk) (ret : ∀ H' r, Fr [s, d] H H' → Stk s d c H' → GP (Lim kk) 6 40000 S H' r → D.rt r H')
    (go : D.nx [some (.ref s), y1, some (.int n), some (.ref t), some (.int wy), y5, y6, y7, y8, y9] H) :
    rd__law_spoilt_4 K D [some (.ref s), y1, some (.int n), some (.ref t), some (.int wy), y5, y6, y7, y8, y9] H := by
  refine ⟨_, rfl, rfl, _, rfl, ite2 (fun _ => ?_) (fun _ => go)⟩
  have st := GP.stays (q := TupLe kk) (n := 3) (w := 18340) (S := S)
  have no : ∀ {e : PyData}, (∀ ts, e ≠ .tuple ts) → TupLe kk e := fun h => TupLe.of h
  have lx := tx.len
  have gt : GZ 2 9170 S H (.ref t) := ties_gz ht tx hp hl
  refine (BldA.asg (G := GP (TupLe kk) 3 18340 S) (H0 := H) (n := 9) ?_ st (by decide) Fr.refl fun H1 l zs f1 n1 e1 l1 g1 => ?_)
  · refine .cons st (fun H1 f Q k => ⟨_, rfl, t, xs, rfl, .inr (SqT.of (f.tups _ _ ht)), fun l nl => k _ _ (Fr.new nl) ?_⟩) ?_
    · exact ⟨.list (dPs ps), .lst upd_same (kp.off f nl) (Tps.dy (tx.fr (f.trans (Fr.new nl)))), (sm_lPs (m := 70) (fun p m => by have := hp p m; omega) hl).sq.up (by decide) (by decide), no (fun _ z => nomatch z)⟩
    refine .cons st (.cq (fun _ => .non) (Sq.non.up (by decide) (by decide)) (no (fun _ z => nomatch z))) (.cons st (.cq (fun _ => .str _) ⟨by decide +kernel, by decide +kernel, by decide +kernel, by decide +kernel⟩ (no (fun _ z => nomatch z))) (.cons st (.dnewq (fun _ _ => kp.off) (no (fun _ z => nomatch z))) ?_))
    refine .cons st (.upq (.tupq (n := 2) (w := 9170) (m := 1) (.cons GZ.stays (.var rfl gt) .nil) (TupLe.len (by omega)))) ?_
    refine .cons st (.upq (.tupq (n := 0) (w := 64) (m := 2) (.cons GZ.stays .int (.cons GZ.stays .int .nil)) (TupLe.len (by omega)))) ?_
    refine .cons st (.upq (.tupq (n := 1) (w := 0) (m := 1) (.cons GZ.stays (.up (.tup (n := 0) (w := 0) (m := 0) .nil)) .nil) (TupLe.len (by omega)))) ?_
    refine .cons st (fun H1 f Q k => ?_) (.cons st (.cq (fun _ => .bl _) ((Sq.bl _).up (by decide) (by decide)) (no (fun _ z => nomatch z))) .nil)
    refine ⟨_, rfl, t, rfl, ⟨xs, SqT.of (f.tups _ _ ht)⟩, fun D1 nD => ?_⟩
    refine lct (K := K) (S := []) (J := fun _ => True) (M := fun i ds => ds = (ps.take i).map dP1) (Qd := _) ⟨nD, List.not_mem_nil, fun _ _ _ => trivial⟩ (f.tups _ _ ht) trivial rfl ?_ ?_
    · intro i x H2 ys ds ex L
      obtain ⟨p, ep, hx⟩ := tx.pr_at ex
      refine ⟨rfl, tyes ?_⟩
      refine ⟨_, rfl, szl (Nat.le_of_ble_eq_true rfl), fun q hq => ?_⟩
      have fq := Fr.new (S := []) (o := .tup [x, .int 1]) hq
      have hi : i < 50000 := by
        have := (List.getElem?_eq_some_iff.mp ex).1
        omega
      refine L.put (f := fq) ⟨nD, List.not_mem_nil, fun _ _ _ => trivial⟩ hi trivial (d := dP1 p) (.tup upd_same (.cons (hx.fr ((f.trans L.fr).trans fq)) (.cons (.int 1) .nil))) ?_
      rw [L.m, List.take_add_one, ep, List.map_append]
      rfl
    · intro H2 ys ds L
      have em := L.m
      rw [List.take_of_length_le (by omega)] at em
      have td := L.dat
      rw [em] at td
      obtain ⟨as, rfl, kvs, k1, k2, k3⟩ := ent_pairs (K := K) td hp
      refine ⟨D1, as, kvs, rfl, SqL.of L.at_, k3, fun p np => ?_⟩
      have fp := L.fr.trans (Fr.new (S := []) (o := .dT (mergeT [] kvs)) np)
      refine k _ _ fp ?_
      obtain ⟨es, e1, e2, e3⟩ := ent_data (S := S) (H := upd H2 p (.dT (mergeT [] kvs))) (mergeT_ent (kvs := []) (more := kvs) (fun _ m => absurd m List.not_mem_nil) k2)
      have hm := mergeT_length kvs []
      refine ⟨.dict es, .dT upd_same (kp.off (f.trans L.fr) np) e1, ((SqK.of e3).dict (m := 70) ?_).up (by decide) (by decide), no (fun _ z => nomatch z)⟩
      rw [List.length_nil] at hm
      omega
  · have nl := kp.off Fr.refl n1
    have m1 : l ≠ s := fun z => nl (z ▸ kp.s)
    have m2 : l ≠ d := fun z => nl (z ▸ kp.d)
    refine ⟨_, rfl, _, rfl, _, rfl, s, d, c, l, zs, rfl, hk.fr0' f1, e1, by omega, by omega, m1, m2, fun H3 r mr f3 k3 => ?_⟩
    refine ⟨szl (Nat.le_of_ble_eq_true rfl), fun p hp => ?_⟩
    have f4 := Fr.new (S := [s, d]) (o := .tup [.int n, r]) hp
    have g3 := ((g1 r mr).fr (kp.more f3)).fr (kp.more f4)
    exact ret _ _ (((f1.of0).trans f3).trans f4) (k3.fr0' (Fr.new hp)) ((gp_pair (n := 3) (w := 18340) upd_same (gz_int (by omega) (by decide)) g3).up (by decide) (by decide))
theorem so_5 (kp : Kp S s d H) (hk : Stk s d c H) (hn : n ≤ 12) (ha : H a = some (.tup [.int n, .ref t])) (gp : GP (TupLe kk) 2 9170 S H (.ref t)) {y5 : Option V}
    (hkk : ps.length + 2 ≤ kk) (ret : ∀ H' r, Fr [s, d] H H' → Stk s d c H' → GP (Lim kk) 6 40000 S H' r → D.rt r H')
    (go : D.nx [some (.ref s), some (.ref a), some (.int n), some (.ref t), some (.int wy), y5, y6, y7, y8, y9] H) :
    rd__law_spoilt_5 K D [some (.ref s), some (.ref a), some (.int n), some (.ref t), some (.int wy), y5, y6, y7, y8, y9] H := by
  refine ⟨_, rfl, rfl, _, rfl, ite2 (fun _ => ?_) (fun _ => go)⟩
  have st := GP.stays (q := Lim kk) (n := 4) (w := 36690) (S := S)
  have gt := gp.z
  have no : ∀ {e : PyData}, (∀ ts, e ≠ .tuple ts) → Lim kk e := fun h => Lim.of h
  have st2 := GZ.stays (n := 2) (w := 9170) (S := S)
  have st3 := GZ.stays (n := 3) (w := 18342) (S := S)
  have gw : GZ 3 18342 S H (.ref a) := web_gz ha hn gt
  have gn : GZ 2 9170 S H (.int n) := gz_int (by omega) (by decide)
  refine (BldA.asg (G := GP (Lim kk) 4 36690 S) (H0 := H) (n := 12) ?_ st (by decide) Fr.refl fun H1 l zs f1 n1 e1 l1 g1 => ?_)
  · refine .cons st (fun H1 f Q k => ⟨_, rfl, a, _, rfl, .inr (SqT.of (f.tups _ _ ha)), fun l nl => k _ _ (Fr.new nl) ?_⟩) ?_
    · obtain ⟨e, e1, e2, _⟩ := gp
      have e3 := e1.fr (f.trans (Fr.new (o := .lst [.int n, .ref t]) nl)).of0
      refine ⟨.list [.int n, e], .lst upd_same (kp.off f nl) (.cons (.int _) (.cons e3 .nil)), (Sq.lst (n := 2) (w := 9170) (m := 2) (fun z m => ?_) (Nat.le_refl _)).up (by decide) (by decide), no (fun _ z => nomatch z)⟩
      simp only [List.mem_cons, List.not_mem_nil, or_false] at m
      rcases m with rfl | rfl
      · exact (Sq.nat (by omega)).up (by decide) (by decide)
      · exact e2
    refine .cons st (.upq (.tupq (n := 2) (w := 9170) (m := 1) (.cons st2 (.var rfl gn) .nil) (Lim.len (by decide)))) ?_
    refine .cons st (.upq (.tupq (n := 2) (w := 9170) (m := 3) (.cons st2 (.var rfl gn) (.cons st2 (.var rfl gt) (.cons st2 (.var rfl gt) .nil))) (Lim.len (by decide)))) ?_
    refine .cons st (fun H1 f Q k => ⟨_, rfl, _, rfl, szl (Nat.le_of_ble_eq_true rfl), fun p hp => k _ _ (Fr.new hp) ?_⟩) ?_
    · exact (gp_pair (n := 2) (w := 9170) upd_same (gt.fr0 (f.trans (Fr.new hp))) ⟨_, .int _, (Sq.nat (by omega)).up (by decide) (by decide), TupLe.of (fun _ z => nomatch z)⟩).up (by decide) (by decide)
    refine .cons st (.cq (fun _ => .non) (Sq.non.up (by decide) (by decide)) (no (fun _ z => nomatch z))) (.cons st (.cq (fun _ => .str _) ⟨by decide +kernel, by decide +kernel, by decide +kernel, by decide +kernel⟩ (no (fun _ z => nomatch z))) ?_)
    refine .cons st (.cq (fun _ => .int _) ((Sq.int (by decide)).up (by decide) (by decide)) (no (fun _ z => nomatch z))) (.cons st (.cq (fun _ => .bl _) ((Sq.bl _).up (by decide) (by decide)) (no (fun _ z => nomatch z))) (.cons st (.dnewq (fun _ _ => kp.off) (no (fun _ z => nomatch z))) ?_))
    refine .cons st (.upq (.tupq (n := 0) (w := 0) (m := 0) .nil (Lim.len (by decide)))) ?_
    refine .cons st (.upq (.lstq (n := 3) (w := 18342) (m := 1) (.cons st3 (.var rfl gw) .nil) (fun _ _ => kp.off) (fun _ => no (fun _ z => nomatch z)))) ?_
    refine .cons st (fun H1 f Q k => ⟨_, rfl, _, rfl, szl (Nat.le_of_ble_eq_true rfl), fun p hp => k _ _ (Fr.new hp) ?_⟩) .nil
    exact (gp_pair (n := 3) (w := 18342) upd_same (gw.fr0 (f.trans (Fr.new hp))) ((gp.fr0 (f.trans (Fr.new hp))).up (by decide) (by decide))).up (by decide) (by decide)
  · have nl := kp.off Fr.refl n1
    have m1 : l ≠ s := fun z => nl (z ▸ kp.s)
    have m2 : l ≠ d := fun z => nl (z ▸ kp.d)
    refine ⟨_, rfl, _, rfl, s, d, c, l, zs, rfl, hk.fr0' f1, e1, by omega, by omega, m1, m2, fun H3 r mr f3 k3 => ?_⟩
    exact ret _ _ ((f1.of0).trans f3) k3 (((g1 r mr).fr (kp.more f3)).up (by decide) (by decide))
/-- (many, ties) of good parts -/
theorem web_ret {S : List Addr} {H : Hp} {p u : Addr} {ys : List V} {ds : List PyData} {n w : Nat} (h : H p = some (.tup [.int n, .ref u])) (hn : n ≤ 12) (hu : H u = some (.tup ys)) (hy : DyA S H ys ds) (hs : SqA 2 w ds) (hw : w ≤ 30000) (hc : ds.length ≤ kk) : GP (Lim kk) 6 40000 S H (.ref p) := by
  have h2 := hs.tup
  have h3 : SqA 3 (65 + (w + 1)) [.int (n : Int), .tuple ds] := (SqA.one ((Sq.nat (i := n) (by omega)).up (Nat.zero_le _) (Nat.le_refl _))).app (SqA.one h2)
  exact ⟨_, .tup h (.cons (.int _) (.cons (.tup hu hy) .nil)), h3.tup.up (by decide) (by omega), Lim.two (TupLe.len (m := ds.length) hc ds rfl)⟩
theorem so_6 (kp : Kp S s d H) (hk : Stk s d c H) (hn : n ≤ 12) (ht : H t = some (.tup xs)) (tx : Tps H xs (dPs ps)) (hp : ∀ p ∈ ps, p.1 < 12 ∧ p.2 < 12) (hl : ps.length ≤ 70) {y1 y4 y5 : Option V}
    (hkk : ps.length + 2 ≤ kk) (ret : ∀ H' r, Fr [s, d] H H' → Stk s d c H' → GP (Lim kk) 6 40000 S H' r → D.rt r H')
    (go : ∀ H', Fr [] H H' → ps ≠ [] → D.nx [some (.ref s), y1, some (.int n), some (.ref t), y4, y5, y6, y7, y8, y9] H') :
    rd__law_spoilt_6 K D [some (.ref s), y1, some (.int n), some (.ref t), y4, y5, y6, y7, y8, y9] H := by
  refine ⟨_, rfl, szl (Nat.zero_le _), fun e he => ?_⟩
  have fe := Fr.new (S := []) (o := .tup []) he
  refine ⟨dT ps, .tuple [], .tup (SqT.of (fe.tups _ _ ht)) (tx.fr fe).dp, .tup (SqT.of upd_same) .nil, (sm_dPs (m := 70) (fun p m => by have := hp p m; omega) hl).shaped (by decide), (Sm.tup (n := 0) (w := 0) (m := 0) (ds := []) (fun _ m => absurd m List.not_mem_nil) (Nat.le_refl _)).shaped (by decide), _, rfl, ?_⟩
  cases ps with
  | cons p ps => exact iteF (go _ fe (List.cons_ne_nil _ _))
  | nil =>
    refine iteT ?_
    refine ⟨_, rfl, _, rfl, _, rfl, szl (Nat.le_of_ble_eq_true rfl), fun q hq => ?_⟩
    have fq := fe.trans (Fr.new (S := []) (o := .tup [.int 0, .int 1]) hq)
    refine ⟨S, s, d, c, _, n, (0, 1), rfl, kp.fr fq, hk.fr0' fq, hn, by decide, by decide, Tp.pr upd_same, fun H3 r f3 k3 g3 => ?_⟩
    refine ⟨szl (Nat.le_of_ble_eq_true rfl), fun u hu => ⟨szl (Nat.le_of_ble_eq_true rfl), fun v hv => ?_⟩⟩
    have fu := Fr.new (S := []) (o := .tup [r]) hu
    have fv := Fr.new (S := []) (o := .tup [.int n, .ref u]) hv
    obtain ⟨e1, e2, e3⟩ := (g3.fr0 fu).fr0 fv
    exact ret _ _ (((fq.of0.trans f3).trans fu.of0).trans fv.of0) ((k3.fr0' fu).fr0' fv) (web_ret upd_same hn (fv.tups _ _ upd_same) (.cons e2 .nil) (SqA.one e3) (by decide) (by show 1 ≤ kk; omega))
/-- a tie in the midst: front, one value, back -/
theorem mid_ret {as bs : List V} {ds es : List PyData} {r : V} (hd : DyA S H as ds) (he : DyA S H bs es) (g : GY S H r) (h1 : ∀ x ∈ ds, Sq 1 130 x) (h2 : ∀ x ∈ es, Sq 1 130 x) (h3 : ds.length ≤ 70) (h4 : es.length ≤ 70) (h5 : ds.length + 1 + es.length ≤ kk) {p u : Addr}
    (hu : H u = some (.tup (as ++ [r] ++ bs))) (hp : H p = some (.tup [.int n, .ref u])) (hn : n ≤ 12) : GP (Lim kk) 6 40000 S H (.ref p) := by
  obtain ⟨e, e1, e2⟩ := g
  have q := ((SqA.of h1 h3).up (n' := 2) (by decide) (Nat.le_refl _)).app (SqA.one e2)
  have q2 := q.app ((SqA.of h2 h4).up (n' := 2) (by decide) (Nat.le_refl _))
  exact web_ret hp hn hu ((hd.app (.cons e1 .nil)).app he) q2 (by decide) (by rw [List.length_append, List.length_append, List.length_singleton]; omega)
theorem dps_sq {ps : List Pr} (hp : ∀ p ∈ ps, p.1 < 12 ∧ p.2 < 12) : ∀ x ∈ dPs ps, Sq 1 130 x := fun x m => by
  obtain ⟨p, mp, rfl⟩ := List.mem_map.mp m
  have := hp p mp
  exact (sm_dP (by omega) (by omega)).sq
theorem so_7 (kp : Kp S s d H) (hk : Stk s d c H) (hn : n ≤ 12) (ht : H t = some (.tup xs)) (tx : Tps H xs (dPs ps)) (hp : ∀ p ∈ ps, p.1 < 12 ∧ p.2 < 12) (hl : ps.length ≤ 70) (hat : at_ < ps.length) {y1 : Option V}
    (hkk : ps.length + 2 ≤ kk) (ret : ∀ H' r, Fr [s, d] H H' → Stk s d c H' → GP (Lim kk) 6 40000 S H' r → D.rt r H')
    (go : D.nx [some (.ref s), y1, some (.int n), some (.ref t), some (.int wy), some (.int at_), y6, y7, y8, y9] H) :
    rd__law_spoilt_7 K D [some (.ref s), y1, some (.int n), some (.ref t), some (.int wy), some (.int at_), y6, y7, y8, y9] H := by
  refine ⟨_, rfl, _, _, rfl, rfl, _, rfl, ite2 (fun _ => ?_) (fun _ => go)⟩
  have lx := tx.len
  have ex : xs[at_]? = some xs[at_] := List.getElem?_eq_getElem (by omega)
  obtain ⟨p, ep, hx⟩ := tx.pr_at ex
  have bp := hp p (List.mem_of_getElem? ep)
  refine ⟨_, rfl, _, rfl, _, rfl, at_, rfl, slA_of ht (cut_to at_) fun H1 u1 f1 e1 => ?_⟩
  refine ⟨_, rfl, _, rfl, _, rfl, _, rfl, t, xs, at_, _, rfl, rfl, SqT.of (f1.tups _ _ ht), atI_nat ex, ?_⟩
  refine ⟨S, s, d, c, _, n, p, rfl, kp.fr f1, hk.fr0' f1, hn, bp.1, bp.2, hx.fr f1, fun H3 r f3 k3 g3 => ?_⟩
  refine ⟨szl (Nat.le_of_ble_eq_true rfl), fun u hu => ?_⟩
  have fu := Fr.new (S := []) (o := .tup [r]) hu
  refine catA_of (fu.tups _ _ (f3.tups _ _ e1)) upd_same (by rw [List.length_take]; show min at_ xs.length + 1 ≤ _; omega) fun H4 u4 f4 e4 => ?_
  have g14 : Fr [s, d] H H4 := ((f1.of0.trans f3).trans fu.of0).trans f4.of0
  refine ⟨_, rfl, _, rfl, _, _, rfl, rfl, _, rfl, noPart ?_⟩
  refine slA_of (g14.tups _ _ ht) (show cutV xs (some ((at_ : Int) + 1)) none = xs.drop (at_ + 1) from cut_from (at_ + 1)) fun H5 u5 f5 e5 => ?_
  refine catA_of (f5.tups _ _ e4) e5 (by rw [List.length_append, List.length_take, List.length_drop]; show min at_ xs.length + 1 + _ ≤ _; omega) fun H6 u6 f6 e6 => ?_
  refine ⟨szl (Nat.le_of_ble_eq_true rfl), fun v hv => ?_⟩
  have fv := Fr.new (S := []) (o := .tup [.int n, .ref u6]) hv
  have f36 := ((fu.trans f4).trans f5).trans f6
  have f37 := f36.trans fv
  have gA : Fr [s, d] H (upd H6 v (.tup [.int n, .ref u6])) := (f1.of0.trans f3).trans f37.of0
  have ty : DyA S _ xs (dPs ps) := Tps.dy (tx.fr gA)
  refine ret _ _ gA (k3.fr0' f37) (mid_ret (ty.take at_) (ty.drop (at_ + 1)) (g3.fr0 f37) (fun x m => dps_sq hp x (List.mem_of_mem_take m)) (fun x m => dps_sq hp x (List.mem_of_mem_drop m)) ?_ ?_ ?_ (fv.tups _ _ e6) upd_same hn)
  · rw [List.length_take, List.length_map]
    omega
  · rw [List.length_drop, List.length_map]
    omega
  · rw [List.length_take, List.length_drop, List.length_map]
    omega
theorem so_8 (kp : Kp S s d H) (hk : Stk s d c H) (hn : n ≤ 12) (ht : H t = some (.tup xs)) (tx : Tps H xs (dPs ps)) (hp : ∀ p ∈ ps, p.1 < 12 ∧ p.2 < 12) (hl : ps.length ≤ 70) (hat : at_ < ps.length) {y1 : Option V}
    (hkk : ps.length + 2 ≤ kk) (ret : ∀ H' r, Fr [s, d] H H' → Stk s d c H' → GP (Lim kk) 6 40000 S H' r → D.rt r H')
    (go : D.nx [some (.ref s), y1, some (.int n), some (.ref t), some (.int wy), some (.int at_), y6, y7, y8, y9] H) :
    rd__law_spoilt_8 K D [some (.ref s), y1, some (.int n), some (.ref t), some (.int wy), some (.int at_), y6, y7, y8, y9] H := by
  refine ⟨_, rfl, rfl, _, rfl, ite2 (fun _ => ?_) (fun _ => go)⟩
  have lx := tx.len
  have ex : xs[at_]? = some xs[at_] := List.getElem?_eq_getElem (by omega)
  obtain ⟨p, ep, hx⟩ := tx.pr_at ex
  have bp := hp p (List.mem_of_getElem? ep)
  refine ⟨_, rfl, _, rfl, _, rfl, at_, rfl, slA_of ht (cut_to at_) fun H1 u1 f1 e1 => ?_⟩
  refine ⟨_, rfl, _, rfl, t, xs, at_, _, rfl, rfl, SqT.of (f1.tups _ _ ht), atI_nat ex, ?_⟩
  refine ⟨szl (Nat.le_of_ble_eq_true rfl), fun u hu => ?_⟩
  have fu := Fr.new (S := []) (o := .tup [xs[at_]]) hu
  refine catA_of (fu.tups _ _ e1) upd_same (by rw [List.length_take]; show min at_ xs.length + 1 ≤ _; omega) fun H4 u4 f4 e4 => ?_
  have g14 : Fr [] H H4 := (f1.trans fu).trans f4
  refine ⟨_, rfl, _, rfl, at_, rfl, noPart ?_⟩
  refine slA_of (g14.tups _ _ ht) (cut_from at_) fun H5 u5 f5 e5 => ?_
  refine catA_of (f5.tups _ _ e4) e5 (by rw [List.length_append, List.length_take, List.length_drop]; show min at_ xs.length + 1 + _ ≤ _; omega) fun H6 u6 f6 e6 => ?_
  refine ⟨szl (Nat.le_of_ble_eq_true rfl), fun v hv => ?_⟩
  have fv := Fr.new (S := []) (o := .tup [.int n, .ref u6]) hv
  have gA : Fr [] H (upd H6 v (.tup [.int n, .ref u6])) := ((g14.trans f5).trans f6).trans fv
  have ty : DyA S _ xs (dPs ps) := Tps.dy (tx.fr gA)
  refine ret _ _ gA.of0 (hk.fr0' gA) (mid_ret (ty.take at_) (ty.drop at_) ⟨_, Tp.dy (hx.fr gA), (sm_dP (by omega) (by omega)).sq.up (by decide) (by decide)⟩ (fun x m => dps_sq hp x (List.mem_of_mem_take m)) (fun x m => dps_sq hp x (List.mem_of_mem_drop m)) ?_ ?_ ?_ (fv.tups _ _ e6) upd_same hn)
  · rw [List.length_take, List.length_map]
    omega
  · rw [List.length_drop, List.length_map]
    omega
  · rw [List.length_take, List.length_drop, List.length_map]
    omega
theorem so_9 (kp : Kp S s d H) (hk : Stk s d c H) (hn : n ≤ 12) (ht : H t = some (.tup xs)) (tx : Tps H xs (dPs ps)) (hp : ∀ p ∈ ps, p.1 < 12 ∧ p.2 < 12) (hl : ps.length ≤ 70) (hat : at_ < ps.length) {y1 : Option V}
    (hkk : ps.length + 2 ≤ kk) (ret : ∀ H' r, Fr [s, d] H H' → Stk s d c H' → GP (Lim kk) 6 40000 S H' r → D.rt r H')
    (go : D.nx [some (.ref s), y1, some (.int n), some (.ref t), some (.int wy), some (.int at_), y6, y7, y8, y9] H) :
    rd__law_spoilt_9 K D [some (.ref s), y1, some (.int n), some (.ref t), some (.int wy), some (.int at_), y6, y7, y8, y9] H := by
  refine ⟨_, rfl, rfl, _, rfl, ite2 (fun _ => ?_) (fun _ => go)⟩
  have lx := tx.len
  refine ⟨_, rfl, _, rfl, t, xs, rfl, .inr (SqT.of ht), s, d, c, xs.length, rfl, hk, by omega, by omega, fun H0 o ho k0 f0 => ?_⟩
  have ht0 := f0.tups _ _ ht
  have tx0 := tx.fr f0
  have ex : xs[o]? = some xs[o] := List.getElem?_eq_getElem (by omega)
  obtain ⟨p, ep, hx⟩ := tx0.pr_at ex
  have bp := hp p (List.mem_of_getElem? ep)
  refine ⟨_, rfl, _, rfl, o, rfl, slA_of ht0 (cut_to o) fun H1 u1 f1 e1 => ?_⟩
  refine ⟨_, rfl, _, rfl, _, _, rfl, rfl, _, rfl, noPart ?_⟩
  refine slA_of (f1.tups _ _ ht0) (show cutV xs (some ((o : Int) + 1)) none = xs.drop (o + 1) from cut_from (o + 1)) fun H2 u2 f2 e2 => ?_
  refine catA_of (f2.tups _ _ e1) e2 (by rw [List.length_take, List.length_drop]; omega) fun H3 u3 f3 e3 => ?_
  have f03 := (f1.trans f2).trans f3
  have lr : (xs.take o ++ xs.drop (o + 1)).length ≤ 70 ∧ (xs.take o ++ xs.drop (o + 1)).length + 1 = ps.length := by
    rw [List.length_append, List.length_take, List.length_drop]
    omega
  have tr : Tps H3 (xs.take o ++ xs.drop (o + 1)) ((dPs ps).take o ++ (dPs ps).drop (o + 1)) := ((tx0.fr f03).take o).app ((tx0.fr f03).drop (o + 1))
  have br : ∀ x ∈ (dPs ps).take o ++ (dPs ps).drop (o + 1), Sq 1 130 x := fun x m => dps_sq hp x ((List.mem_append.mp m).elim List.mem_of_mem_take List.mem_of_mem_drop)
  generalize (dPs ps).take o ++ (dPs ps).drop (o + 1) = ds at tr br
  generalize xs.take o ++ xs.drop (o + 1) = rs at lr e3 tr
  have ld := tr.length
  refine ⟨_, rfl, _, rfl, _, rfl, at_, rfl, slA_of e3 (cut_to at_) fun H4 u4 f4 e4 => ?_⟩
  refine ⟨_, rfl, _, rfl, t, xs, o, _, rfl, rfl, SqT.of ((f03.trans f4).tups _ _ ht0), atI_nat ex, ?_⟩
  refine ⟨szl (Nat.le_of_ble_eq_true rfl), fun u hu => ?_⟩
  have fu := Fr.new (S := []) (o := .tup [xs[o]]) hu
  refine catA_of (fu.tups _ _ e4) upd_same (by rw [List.length_take]; show min at_ rs.length + 1 ≤ _; omega) fun H5 u5 f5 e5 => ?_
  have g35 : Fr [] H3 H5 := (f4.trans fu).trans f5
  refine ⟨_, rfl, _, rfl, at_, rfl, noPart ?_⟩
  refine slA_of (g35.tups _ _ e3) (cut_from at_) fun H6 u6 f6 e6 => ?_
  refine catA_of (f6.tups _ _ e5) e6 (by rw [List.length_append, List.length_take, List.length_drop]; show min at_ rs.length + 1 + _ ≤ _; omega) fun H7 u7 f7 e7 => ?_
  refine ⟨szl (Nat.le_of_ble_eq_true rfl), fun v hv => ?_⟩
  have fv := Fr.new (S := []) (o := .tup [.int n, .ref u7]) hv
  have gA : Fr [] H3 (upd H7 v (.tup [.int n, .ref u7])) := ((g35.trans f6).trans f7).trans fv
  have gB := f03.trans gA
  have ty : DyA S _ rs ds := Tps.dy (tr.fr gA)
  refine ret _ _ (f0.trans gB.of0) (k0.fr0' gB) (mid_ret (ty.take at_) (ty.drop at_) ⟨_, Tp.dy (hx.fr gB), (sm_dP (by omega) (by omega)).sq.up (by decide) (by decide)⟩ (fun x m => br x (List.mem_of_mem_take m)) (fun x m => br x (List.mem_of_mem_drop m)) ?_ ?_ ?_ (fv.tups _ _ e7) upd_same hn)
  · rw [List.length_take]
    omega
  · rw [List.length_drop]
    omega
  · rw [List.length_take, List.length_drop]
    omega
theorem so_10 (kp : Kp S s d H) (hk : Stk s d c H) (hn : n ≤ 12) (ht : H t = some (.tup xs)) (tx : Tps H xs (dPs ps)) (hp : ∀ p ∈ ps, p.1 < 12 ∧ p.2 < 12) (hl : ps.length ≤ 70) (hat : at_ < ps.length) {y1 y4 : Option V}
    (hkk : ps.length + 2 ≤ kk) (ret : ∀ H' r, Fr [s, d] H H' → Stk s d c H' → GP (Lim kk) 6 40000 S H' r → D.rt r H') :
    rd__law_spoilt_10 K D [some (.ref s), y1, some (.int n), some (.ref t), y4, some (.int at_), y6, y7, y8, y9] H := by
  have lx := tx.len
  have ex : xs[at_]? = some xs[at_] := List.getElem?_eq_getElem (by omega)
  obtain ⟨p, ep, hx⟩ := tx.pr_at ex
  have bp := hp p (List.mem_of_getElem? ep)
  refine ⟨_, rfl, _, rfl, _, rfl, _, rfl, _, rfl, _, rfl, t, xs, at_, _, rfl, rfl, SqT.of ht, atI_nat ex, ?_⟩
  refine ⟨S, s, d, c, _, n, p, rfl, kp, hk, hn, bp.1, bp.2, hx, fun H3 r f3 k3 g3 => ?_⟩
  refine ⟨szl (Nat.le_of_ble_eq_true rfl), fun u hu => ?_⟩
  have fu := Fr.new (S := []) (o := .tup [r]) hu
  refine catA_of (fu.tups _ _ (f3.tups _ _ ht)) upd_same (by show xs.length + 1 ≤ _; omega) fun H4 u4 f4 e4 => ?_
  refine ⟨szl (Nat.le_of_ble_eq_true rfl), fun v hv => ?_⟩
  have fv := Fr.new (S := []) (o := .tup [.int n, .ref u4]) hv
  have f37 := (fu.trans f4).trans fv
  have gA : Fr [s, d] H (upd H4 v (.tup [.int n, .ref u4])) := f3.trans f37.of0
  have ty : DyA S _ xs (dPs ps) := Tps.dy (tx.fr gA)
  refine ret _ _ gA (k3.fr0' f37) (mid_ret (bs := []) (es := []) ty .nil (g3.fr0 f37) (dps_sq hp) (fun _ m => absurd m List.not_mem_nil) ?_ (Nat.zero_le _) ?_ (by rw [List.append_nil]; exact fv.tups _ _ e4) upd_same hn)
  · rw [List.length_map]
    exact hl
  · rw [List.length_map]
    show ps.length + 1 + 0 ≤ kk
    omega
end
theorem ok_spoilt (F : FnP K "_law_spoilt" s__law_spoilt f fd) (g_max : mg "max" = none) (g_str : mg "str" = none) (g_list : mg "list" = none) (g_dict : mg "dict" = none) (g_len : mg "len" = none) {f__law_draw : Addr} {fd__law_draw : FuncData} (F__law_draw : FnP K "_law_draw" s__law_draw f__law_draw fd__law_draw) (m__law_draw : mg "_law_draw" = some (.ref f__law_draw)) {f__law_pick : Addr} {fd__law_pick : FuncData} (F__law_pick : FnP K "_law_pick" s__law_pick f__law_pick fd__law_pick) (m__law_pick : mg "_law_pick" = some (.ref f__law_pick)) {f__law_odd : Addr} {fd__law_odd : FuncData} (F__law_odd : FnP K "_law_odd" s__law_odd f__law_odd fd__law_odd) (m__law_odd : mg "_law_odd" = some (.ref f__law_odd)) (G__law_draw : FnG P w K mg base CX0 1 f__law_draw fd__law_draw ["stock", "size"] spDraw) (G__law_pick : FnG P w K mg base CX0 2 f__law_pick fd__law_pick ["stock", "row"] spPickV)
    (G__law_odd : FnG P w K mg base CX0 3 f__law_odd fd__law_odd ["stock", "many", "tie"] spOddV) : FnG P w K mg base CX0 4 f fd ["stock", "web"] spSpoilt := by
  have b__law_draw : Binds K fd__law_draw ["stock", "size"] [] := F__law_draw.bindsN fun _ _ _ _ _ _ us hl => match us, hl with | [_, _], _ => rfl
  have b__law_pick : Binds K fd__law_pick ["stock", "row"] [] := F__law_pick.bindsN fun _ _ _ _ _ _ us hl => match us, hl with | [_, _], _ => rfl
  have b__law_odd : Binds K fd__law_odd ["stock", "many", "tie"] [] := F__law_odd.bindsN fun _ _ _ _ _ _ us hl => match us, hl with | [_, _, _], _ => rfl
  refine okG0 F sc__law_spoilt (fun vs H Q E h => ?_) (fun cdv A outer s0 H vs Q E hS hr h => ?_)
  · obtain ⟨_, _, _, _, _, _, _, rfl, _⟩ := h
    rfl
  · obtain ⟨S, s, d, c, vt, n, ps, rfl, kp, hk, hv, h1, hn, hp, hl, q⟩ := h
    refine ⟨rdS__law_spoilt_1 K, (pss_cons (ps_asg (pv 1) (pg_tupK K (n := 2) (by rfl) (pgs_cons (pg_name (i := 2) sc__law_spoilt.nd rfl (Or.inl rfl)) (pgs_cons (pg_name (i := 3) sc__law_spoilt.nd rfl (Or.inl rfl)) pgs_nil))))
      (pss_cons (ps_par (i := 4) (j := 5) (by rfl) sc__law_spoilt.nd rfl rfl (by decide) rfl rfl (pa_cons (pe_callG G__law_draw hS (hr.mono (by decide)) (by rfl) m__law_draw F__law_draw.kp b__law_draw .nil pass0 (pa_cons (pv 0) (pa_cons pe_int pa_nil))) (pa_cons (pe_callG G__law_draw hS (hr.mono (by decide)) (by rfl) m__law_draw F__law_draw.kp b__law_draw .nil pass0 (pa_cons (pv 0) (pa_cons (pe_callB (call_max2 rfl) (by rfl) g_max (by decide +kernel) (pa_cons pe_int (pa_cons (pe_callB (lenK K) (by rfl) g_len (by decide +kernel) (pa_cons (pv 3) pa_nil)) pa_nil))) pa_nil))) pa_nil)) (by rfl))
      (pss_cons (ps_if (pt_cmpR op_eq (pv 4) pe_int (nomark _)) (pss_cons (ps_set (i := 6) sc__law_spoilt.nd rfl (Or.inl rfl) (pe_lst (pa_cons (pe_op op_sub (pv 2) pe_int) (pa_cons (pe_op op_add (pv 2) pe_int) (pa_cons pe_int (pa_cons pe_int (pa_cons pe_int (pa_cons (pe_un un_neg pe_int) (pa_cons pe_int (pa_cons pe_bl (pa_cons pe_bl (pa_cons pe_non (pa_cons (pe_callTy call_str_int (by rfl) g_str (by decide +kernel) (pa_cons (pv 2) pa_nil)) (pa_cons (pe_tup (pa_cons (pv 2) pa_nil)) (pa_cons (pe_lst (pa_cons (pv 2) pa_nil)) (pa_cons (pe_op op_pow pe_int pe_int) (pa_cons pe_dnewK pa_nil)))))))))))))))))
      (pss_one (ps_ret (pe_tup (pa_cons (pe_callG G__law_pick hS (hr.mono (by decide)) (by rfl) m__law_pick F__law_pick.kp b__law_pick .nil pass0 (pa_cons (pv 0) (pa_cons (pv 6) pa_nil))) (pa_cons (pv 3) pa_nil)))))) pss_nil)
      (pss_cons (ps_if (pt_cmpR op_eq (pv 4) pe_int (nomark _)) (pss_cons (ps_set (i := 6) sc__law_spoilt.nd rfl (Or.inl rfl) (pe_lst (pa_cons (pe_callTy (lstOfK K) (by rfl) g_list (by decide +kernel) (pa_cons (pv 3) pa_nil)) (pa_cons pe_non (pa_cons pe_str (pa_cons pe_dnewK (pa_cons (pe_tup (pa_cons (pv 3) pa_nil)) (pa_cons (pe_tup (pa_cons pe_int (pa_cons pe_int pa_nil))) (pa_cons (pe_tup (pa_cons (pe_tup pa_nil) pa_nil)) (pa_cons (pe_callTy (dictTK rfl (hu80_of hr) K) (by rfl) g_dict (by decide +kernel) (pa_cons (pe_lc (own := [("tie", 9)]) (g := (gName 9)) (tt := tYes) rfl sc__law_spoilt.nd (pi_tup (pv 3)) (blkOk_by (own := [("tie", 9)]) (N := N__law_spoilt) (sc := defScope s__law_spoilt) (by decide +kernel)) (fun _ _ _ _ _ => (pg_name (i := 9) sc__law_spoilt.nd rfl (Or.inl rfl))) (fun _ _ _ _ _ => pts_nil) (fun _ _ _ _ _ => (pe_tup (pa_cons (pv 9) (pa_cons pe_int pa_nil))))) pa_nil)) (pa_cons pe_bl pa_nil)))))))))))
      (pss_one (ps_ret (pe_tup (pa_cons (pv 2) (pa_cons (pe_callG G__law_pick hS (hr.mono (by decide)) (by rfl) m__law_pick F__law_pick.kp b__law_pick .nil pass0 (pa_cons (pv 0) (pa_cons (pv 6) pa_nil))) pa_nil)))))) pss_nil)
      (pss_cons (ps_if (pt_cmpR op_eq (pv 4) pe_int (nomark _)) (pss_cons (ps_set (i := 6) sc__law_spoilt.nd rfl (Or.inl rfl) (pe_lst (pa_cons (pe_callTy (lstOfK K) (by rfl) g_list (by decide +kernel) (pa_cons (pv 1) pa_nil)) (pa_cons (pe_tup (pa_cons (pv 2) pa_nil)) (pa_cons (pe_tup (pa_cons (pv 2) (pa_cons (pv 3) (pa_cons (pv 3) pa_nil)))) (pa_cons (pe_tup (pa_cons (pv 3) (pa_cons (pv 2) pa_nil))) (pa_cons pe_non (pa_cons pe_str (pa_cons pe_int (pa_cons pe_bl (pa_cons pe_dnewK (pa_cons (pe_tup pa_nil) (pa_cons (pe_lst (pa_cons (pv 1) pa_nil)) (pa_cons (pe_tup (pa_cons (pv 1) (pa_cons (pv 3) pa_nil))) pa_nil))))))))))))))
      (pss_one (ps_ret (pe_callG G__law_pick hS (hr.mono (by decide)) (by rfl) m__law_pick F__law_pick.kp b__law_pick .nil pass0 (pa_cons (pv 0) (pa_cons (pv 6) pa_nil)))))) pss_nil)
      (pss_cons (ps_if (pt_cmpR (eqK K hr.units) (pv 3) (pe_tup pa_nil) (nomark _)) (pss_one (ps_ret (pe_tup (pa_cons (pv 2) (pa_cons (pe_tup (pa_cons (pe_callG G__law_odd hS (hr.mono (by decide)) (by rfl) m__law_odd F__law_odd.kp b__law_odd .nil pass0 (pa_cons (pv 0) (pa_cons (pv 2) (pa_cons (pe_tup (pa_cons pe_int (pa_cons pe_int pa_nil))) pa_nil)))) pa_nil)) pa_nil))))) pss_nil)
      (pss_cons (ps_if (pt_cmpR op_lt (pv 4) pe_int (nomark _)) (pss_one (ps_ret (pe_tup (pa_cons (pv 2) (pa_cons (pe_op (catAK K) (pe_op (catAK K) (pe_slice (slAK K) (pv 3) po_none (po_some (pv 5))) (pe_tup (pa_cons (pe_callG G__law_odd hS (hr.mono (by decide)) (by rfl) m__law_odd F__law_odd.kp b__law_odd .nil pass0 (pa_cons (pv 0) (pa_cons (pv 2) (pa_cons (pe_ix (ixT K) (pv 3) (pv 5) (fun _ _ => rfl)) pa_nil)))) pa_nil))) (pe_slice (slAK K) (pv 3) (po_some (pe_op op_add (pv 5) pe_int)) po_none)) pa_nil))))) pss_nil)
      (pss_cons (ps_if (pt_cmpR op_eq (pv 4) pe_int (nomark _)) (pss_one (ps_ret (pe_tup (pa_cons (pv 2) (pa_cons (pe_op (catAK K) (pe_op (catAK K) (pe_slice (slAK K) (pv 3) po_none (po_some (pv 5))) (pe_tup (pa_cons (pe_ix (ixT K) (pv 3) (pv 5) (fun _ _ => rfl)) pa_nil))) (pe_slice (slAK K) (pv 3) (po_some (pv 5)) po_none)) pa_nil))))) pss_nil)
      (pss_cons (ps_if (pt_cmpR op_eq (pv 4) pe_int (nomark _)) (pss_cons (ps_set (i := 7) sc__law_spoilt.nd rfl (Or.inl rfl) (pe_callG G__law_draw hS (hr.mono (by decide)) (by rfl) m__law_draw F__law_draw.kp b__law_draw .nil pass0 (pa_cons (pv 0) (pa_cons (pe_callB (lenK K) (by rfl) g_len (by decide +kernel) (pa_cons (pv 3) pa_nil)) pa_nil))))
      (pss_cons (ps_set (i := 8) sc__law_spoilt.nd rfl (Or.inl rfl) (pe_op (catAK K) (pe_slice (slAK K) (pv 3) po_none (po_some (pv 7))) (pe_slice (slAK K) (pv 3) (po_some (pe_op op_add (pv 7) pe_int)) po_none)))
      (pss_one (ps_ret (pe_tup (pa_cons (pv 2) (pa_cons (pe_op (catAK K) (pe_op (catAK K) (pe_slice (slAK K) (pv 8) po_none (po_some (pv 5))) (pe_tup (pa_cons (pe_ix (ixT K) (pv 3) (pv 7) (fun _ _ => rfl)) pa_nil))) (pe_slice (slAK K) (pv 8) (po_some (pv 5)) po_none)) pa_nil))))))) pss_nil)
      (pss_one (ps_ret (pe_tup (pa_cons (pv 2) (pa_cons (pe_op (catAK K) (pv 3) (pe_tup (pa_cons (pe_callG G__law_odd hS (hr.mono (by decide)) (by rfl) m__law_odd F__law_odd.kp b__law_odd .nil pass0 (pa_cons (pv 0) (pa_cons (pv 2) (pa_cons (pe_ix (ixT K) (pv 3) (pv 5) (fun _ _ => rfl)) pa_nil)))) pa_nil))) pa_nil)))))))))))))), ?_⟩
    obtain ⟨a, t, xs, rfl, ha, ht, tx⟩ := hv.web_inv
    have lx := tx.len
    refine ⟨_, rfl, a, _, rfl, SqT.of ha, rfl, _, _, rfl, _, _, rfl, rfl, ?_⟩
    have em : (if ((xs.length : Nat) : Int) > 1 then ((xs.length : Nat) : Int) else 1) = ((max 1 xs.length : Nat) : Int) := by
      split <;> omega
    refine ⟨_, rfl, s, d, c, 9, rfl, hk, by decide, by decide, fun H1 wy hwy k1 f1 => ?_⟩
    refine ⟨_, rfl, _, rfl, t, xs, rfl, .inr (SqT.of (f1.tups _ _ ht)), _, _, rfl, s, d, c, max 1 xs.length, congrArg (fun z => [V.ref s, V.int z]) em, k1, by omega, by omega, fun H2 at_ hat k2 f2 => ?_⟩
    refine ⟨_, _, rfl, ?_⟩
    have f12 := f1.trans f2
    have kp2 := kp.fr f12
    have ht2 := f12.tups _ _ ht
    have tx2 := tx.fr f12
    have ret : ∀ H0, Fr [s, d] H H0 → ∀ H' r, Fr [s, d] H0 H' → Stk s d c H' → GP (Lim (ps.length + 2)) 6 40000 S H' r → Q r H' := fun H0 f0 H' r f kk g => q H' r (f0.trans f) kk g
    refine so_3 (K := K) kp2 k2 hn (ties_gp ht2 tx2 hp hl (Nat.le_refl _)) (Nat.le_refl _) (ret _ f12) ?_
    refine so_4 (K := K) kp2 k2 hn ht2 tx2 hp hl (Nat.le_refl _) (ret _ f12) ?_
    refine so_5 (K := K) kp2 k2 hn (f12.tups _ _ ha) (ties_gp ht2 tx2 hp hl (Nat.le_refl _)) (Nat.le_refl _) (ret _ f12) ?_
    refine so_6 (K := K) kp2 k2 hn ht2 tx2 hp hl (Nat.le_refl _) (ret _ f12) fun H3 f3 ne => ?_
    have hat2 : at_ < ps.length := by
      cases ps with
      | nil => exact absurd rfl ne
      | cons p ps =>
        rw [List.length_cons] at lx ⊢
        omega
    have f13 := f12.trans f3.of0
    have k3 := k2.fr0' f3
    have ht3 := f3.tups _ _ ht2
    have tx3 := tx2.fr f3
    refine so_7 (K := K) (kp2.fr f3) k3 hn ht3 tx3 hp hl hat2 (Nat.le_refl _) (ret _ f13) ?_
    refine so_8 (K := K) (kp2.fr f3) k3 hn ht3 tx3 hp hl hat2 (Nat.le_refl _) (ret _ f13) ?_
    refine so_9 (K := K) (kp2.fr f3) k3 hn ht3 tx3 hp hl hat2 (Nat.le_refl _) (ret _ f13) ?_
    exact so_10 (K := K) (kp2.fr f3) k3 hn ht3 tx3 hp hl hat2 (Nat.le_refl _) (ret _ f13)
end
end Lt

set_option Elab.async false
set_option linter.all false
set_option maxRecDepth 100000
set_option maxHeartbeats 8000000
namespace Lt
open PySem PySem.Spec PyProof.Rows L2
theorem ErrR.sq {d e : PyData} (h : ErrR d e) (hw : d.weight ≤ 100000) : Sq 1 200 e := by
  have twoS : ∀ (x : Str) (i : Nat), PyData.leavesShort 40 (.str x) = true → PyData.weight (.str x) ≤ 100 → i < 100000 → Sq 1 200 (.tuple [.str x, .int i]) := fun x i h1 h2 h3 =>
    (SqA.app (n := 0) (a := 101) (b := 65) (SqA.one (w := 100) ⟨rfl, h1, Nat.le_refl _, h2⟩) (SqA.one (w := 64) (Sq.nat (i := i) (by omega)))).tup.up (by decide) (by decide)
  have lt : ∀ {n : Nat} {ts : List PyData}, formN d = some (n, ts) → ts.length ≤ 100000 := fun {n ts} c => by
    obtain ⟨rfl, _, _⟩ := formN_inv c
    have h3 := len_weight ts
    have h4 : PyData.weight (.tuple [.int n, .tuple ts]) = PyData.weight (.int n) + 1 + (PyData.weightAll ts + 1 + 0) := rfl
    omega
  cases h with
  | form _ => exact ⟨by decide +kernel, by decide +kernel, by decide +kernel, by decide +kernel⟩
  | tie c et _ _ =>
    have h1 := (List.getElem?_eq_some_iff.mp et).1
    have h2 := lt c
    exact twoS _ _ (by decide +kernel) (by decide +kernel) (by omega)
  | ord c _ _ h1 _ _ =>
    have h2 := lt c
    exact twoS _ _ (by decide +kernel) (by decide +kernel) (by omega)
  | ok _ _ _ => exact Sq.non.up (by decide) (by decide)
/-- a pair of places as pairs -/
theorem pr_pr {n : Nat} {t : PyData} (hn : n ≤ 12) (h : prD n t = true) : ∃ p : Pr, t = dP p ∧ p.1 < 12 ∧ p.2 < 12 := by
  obtain ⟨i, j, rfl, _⟩ := pr_ints h
  have h : (plD n (.int i) && plD n (.int j) && ltD (.int i) (.int j)) = true := h
  obtain ⟨h1, _⟩ := Bool.and_eq_true_iff.mp h
  obtain ⟨h2, h3⟩ := Bool.and_eq_true_iff.mp h1
  have h2 := of_decide_eq_true (show decide (0 ≤ i ∧ i < (n : Int)) = true from h2)
  have h3 := of_decide_eq_true (show decide (0 ≤ j ∧ j < (n : Int)) = true from h3)
  obtain ⟨a, rfl⟩ := Int.eq_ofNat_of_zero_le h2.1
  obtain ⟨b, rfl⟩ := Int.eq_ofNat_of_zero_le h3.1
  exact ⟨(a, b), rfl, by show a < 12; omega, by show b < 12; omega⟩
theorem prs_prs {n : Nat} (hn : n ≤ 12) : ∀ {ts : List PyData}, (∀ t ∈ ts, prD n t = true) → ∃ qs : List Pr, ts = dPs qs ∧ ∀ p ∈ qs, p.1 < 12 ∧ p.2 < 12
  | [], _ => ⟨[], rfl, fun _ m => absurd m List.not_mem_nil⟩
  | t :: ts, h => by
    obtain ⟨p, rfl, h1⟩ := pr_pr hn (h t List.mem_cons_self)
    obtain ⟨qs, rfl, h2⟩ := prs_prs hn fun t m => h t (List.mem_cons_of_mem _ m)
    refine ⟨p :: qs, rfl, fun x m => ?_⟩
    rcases List.mem_cons.mp m with rfl | m
    · exact h1
    · exact h2 x m
mutual
/-- data without lists and dicts -/
theorem Dy.tp {S : List Addr} {H : Hp} : ∀ {d : PyData} {v : V}, tupOnly d = true → Dy S H v d → Tp H v d
  | _, _, _, .non => .non
  | _, _, _, .bl b => .bl b
  | _, _, _, .int i => .int i
  | _, _, _, .str x => .str x
  | _, _, c, .tup h t => .tup h (DyA.tp (by unfold tupOnly at c; exact c) t)
  | _, _, c, .lst _ _ _ => by unfold tupOnly at c; cases c
  | _, _, c, .dK _ _ _ => by unfold tupOnly at c; cases c
  | _, _, c, .dT _ _ _ => by unfold tupOnly at c; cases c
theorem DyA.tp {S : List Addr} {H : Hp} : ∀ {ds : List PyData} {vs : List V}, tupOnlyA ds = true → DyA S H vs ds → Tps H vs ds
  | _, _, _, .nil => .nil
  | _, _, c, .cons a t => by
    unfold tupOnlyA at c
    obtain ⟨c1, c2⟩ := Bool.and_eq_true_iff.mp c
    exact .cons (Dy.tp c1 a) (DyA.tp c2 t)
end
theorem tupOnly_dPs : ∀ qs : List Pr, tupOnlyA (dPs qs) = true
  | [] => rfl
  | q :: qs => by
    show (tupOnly (dP q) && tupOnlyA (dPs qs)) = true
    rw [tupOnly_dPs qs]
    rfl
theorem tupOnly_dW (n : Nat) (qs : List Pr) : tupOnly (dW n qs) = true := by
  show (tupOnly (.int n) && (tupOnly (dT qs) && true)) = true
  rw [show tupOnly (dT qs) = tupOnlyA (dPs qs) from rfl, tupOnly_dPs]
  rfl
theorem Sq.sy {n w : Nat} {d : PyData} (h : Sq n w d) (hn : n ≤ 60 := by decide) (hw : w ≤ 100000 := by decide) : Sy d := ⟨h.sh, h.ls, Nat.le_trans h.dep hn, Nat.le_trans h.wt hw⟩
section
variable {P : Program} {w : World} {K : PySem.W.Frag} {mg : Str → Option Value} {base : Heap} {f : Addr} {fd : FuncData}
def spLaw (K : PySem.W.Frag) : Sp := fun vs H Q _ => ∃ (a : Addr) (ns : List Int), vs = [.ref a] ∧ SqL K H a (ns.map V.int) ∧ ns.length ≤ 63 ∧ ∀ H', Q (.bl true) H'
def rd_law_1 (K : PySem.W.Frag) : TS := (tAsg (tCall (spStock K) [] E0 (tCons (tVar 0) tNil)) (gName 1))
def rd_law_2_1 (K : PySem.W.Frag) : TS := (tAsg (tCall spWeb [] E0 (tCons (tVar 1) (tCons (tC (.int 1)) (tCons (tOp (rIxL K) (tLst (tCons (tC (.int 12)) (tCons (tC (.int 6)) tNil))) (tOp rModI (tVar 2) (tC (.int 2)))) tNil)))) (gName 3))
def rd_law_2_2 (K : PySem.W.Frag) : TS := (tAsg (tLst (tCons (tVar 3) (tCons (tCall spSpoilt [] E0 (tCons (tVar 1) (tCons (tVar 3) tNil))) (tCons (tCall spSpoilt [] E0 (tCons (tVar 1) (tCons (tVar 3) tNil))) (tCons (tCall spSpoilt [] E0 (tCons (tVar 1) (tCons (tVar 3) tNil))) tNil))))) (gName 4))
def rd_law_2_3 (K : PySem.W.Frag) : TS := (tAsg (tCall spSpoilt [] E0 (tCons (tVar 1) (tCons (tVar 3) tNil))) (gName 5))
def rd_law_2_4 (K : PySem.W.Frag) : TS := (tIfS (tOr (tTest (tOp rIsNo (tCall spFaultY [] E0 (tCons (tVar 5) tNil)) (tC .non))) (tTest (tOp rEq (tOp (rIx K) (tCall spFaultY [] E0 (tCons (tVar 5) tNil)) (tC (.int 0))) (tC (.str "order"))))) (tDrop (tBM K "list" rAppend (tVar 4) (tCons (tCall spSpoilt [] E0 (tCons (tVar 1) (tCons (tVar 5) tNil))) tNil))) tNext)
def rd_law_2_5 (K : PySem.W.Frag) : TS := (tFor (iList K (tVar 4)) (gName 6) (tSeq (tPar 7 8 (tCons (tCB (rReprZ K) (tCons (tVar 6) tNil)) (tCons (tCall spFaultY [] E0 (tCons (tVar 6) tNil)) tNil))) (tSeq (tAsg (tLst (tCons (tCall spWebErrY [] E0 (tCons (tVar 6) tNil)) (tCons (tCallN spWebErrY (fun ws => match ws with | [a0] => [a0] | _ => []) E0 (tCons (tVar 6) tNil)) (tCons (tCall spWebErrY [] E0 (tCons (tVar 6) tNil)) tNil)))) (gName 9)) (tIfS (tOr (tTest (tOp rNe (tCB (rReprZ K) (tCons (tVar 9) tNil)) (tCB (rReprZ K) (tCons (tOp rRep (tLst (tCons (tVar 8) tNil)) (tC (.int 3))) tNil)))) (tTest (tOp rNe (tCB (rReprZ K) (tCons (tVar 6) tNil)) (tVar 7)))) (tRet (tC (.bl false))) tNext))))
def rdS_law_2_5 (K : PySem.W.Frag) : TS := rd_law_2_5 K
def rdS_law_2_4 (K : PySem.W.Frag) : TS := tSeq (rd_law_2_4 K) (rdS_law_2_5 K)
def rdS_law_2_3 (K : PySem.W.Frag) : TS := tSeq (rd_law_2_3 K) (rdS_law_2_4 K)
def rdS_law_2_2 (K : PySem.W.Frag) : TS := tSeq (rd_law_2_2 K) (rdS_law_2_3 K)
def rdS_law_2_1 (K : PySem.W.Frag) : TS := tSeq (rd_law_2_1 K) (rdS_law_2_2 K)
def rd_law_2 (K : PySem.W.Frag) : TS := tFor (iRng1 (tCons (tC (.int 8)) tNil)) (gName 2) (rdS_law_2_1 K)
def rd_law_3 (K : PySem.W.Frag) : TS := (tAsg (tTup (tCons (tC (.int 12)) (tCons (tCB (rTupOf K) (tCons (tCall spPairs [] E0 (tCons (tC (.int 12)) tNil)) tNil)) tNil))) (gName 10))
def rd_law_4 (K : PySem.W.Frag) : TS := (tAsg (tLst (tCons (tCall spWebErrY [] E0 (tCons (tVar 10) tNil)) (tCons (tCall spWebErrY [] E0 (tCons (tTup (tCons (tC (.int 13)) (tCons (tOp (rIxT K) (tVar 10) (tC (.int 1))) tNil))) tNil)) (tCons (tCall spWebErrY [] E0 (tCons (tTup (tCons (tC (.int 11)) (tCons (tOp (rIxT K) (tVar 10) (tC (.int 1))) tNil))) tNil)) (tCons (tCall spWebErrY [] E0 (tCons (tTup (tCons (tC (.int 12)) (tCons (tOp (rCatA K) (tOp (rIxT K) (tVar 10) (tC (.int 1))) (tTup (tCons (tTup (tCons (tC (.int 10)) (tCons (tC (.int 11)) tNil))) tNil))) tNil))) tNil)) tNil))))) (gName 9))
def rd_law_5 (K : PySem.W.Frag) : TS := (tRet (tOp rEq (tCB (rReprZ K) (tCons (tVar 9) tNil)) (tCB (rReprZ K) (tCons (tLst (tCons (tC .non) (tCons (tC (.str "form")) (tCons (tTup (tCons (tC (.str "tie")) (tCons (tC (.int 10)) tNil))) (tCons (tTup (tCons (tC (.str "order")) (tCons (tC (.int 66)) tNil))) tNil))))) tNil))))
def rdS_law_5 (K : PySem.W.Frag) : TS := rd_law_5 K
def rdS_law_4 (K : PySem.W.Frag) : TS := tSeq (rd_law_4 K) (rdS_law_5 K)
def rdS_law_3 (K : PySem.W.Frag) : TS := tSeq (rd_law_3 K) (rdS_law_4 K)
def rdS_law_2 (K : PySem.W.Frag) : TS := tSeq (rd_law_2 K) (rdS_law_3 K)
def rdS_law_1 (K : PySem.W.Frag) : TS := tSeq (rd_law_1 K) (rdS_law_2 K)
section
variable {D : Ends} {s d c : Addr} {H : Hp} {n : Nat} {ps : List Pr} {v : V} {y0 y2 y3 y4 y5 y6 y7 y8 y9 y10 : Option V}
abbrev Good1 (l s d : Addr) (H : Hp) (x : V) : Prop := GZ 6 40000 [l, s, d] H x
theorem kp_of (hk : Stk s d c H) : Kp [s, d] s d H := ⟨fun x m => by
  simp only [List.mem_cons, List.not_mem_nil, or_false] at m
  rcases m with rfl | rfl
  · exact hk.live.1
  · exact hk.live.2.1, by simp, by simp⟩
theorem web_lt {n : Nat} {ps : List Pr} (hw : WebOk n ps) : ∀ p ∈ ps, p.1 < 12 ∧ p.2 < 12 := fun p m => by
  have := mem_pairsOf.mp (hw.ins p m)
  have := hw.hi
  omega
theorem lw_2_2 (hk : Stk s d c H) (hw : WebOk n ps) (hv : Tp H v (dW n ps))
    (k : ∀ H' l xs, Fr [s, d] H H' → Stk s d c H' → l ∉ [s, d] → l ≠ c → H' l = some (.lst xs) → xs.length = 4 → (∀ x ∈ xs, Good1 l s d H' x) → D.nx [y0, some (.ref s), y2, some v, some (.ref l), y5, y6, y7, y8, y9, y10] H') :
    rd_law_2_2 K D [y0, some (.ref s), y2, some v, y4, y5, y6, y7, y8, y9, y10] H := by
  have hl := hw.len
  have hb := web_lt hw
  obtain ⟨a, t, xs, rfl, ha, ht, tx⟩ := hv.web_inv
  refine ⟨_, rfl, _, rfl, _, rfl, [s, d], s, d, c, _, n, ps, rfl, kp_of hk, hk, hv, hw.lo, hw.hi, hb, by omega, fun H1 r1 f1 k1 g1 => ?_⟩
  refine ⟨_, rfl, _, rfl, [s, d], s, d, c, _, n, ps, rfl, kp_of k1, k1, hv.fr f1, hw.lo, hw.hi, hb, by omega, fun H2 r2 f2 k2 g2 => ?_⟩
  refine ⟨_, rfl, _, rfl, [s, d], s, d, c, _, n, ps, rfl, kp_of k2, k2, (hv.fr f1).fr f2, hw.lo, hw.hi, hb, by omega, fun H3 r3 f3 k3 g3 => ?_⟩
  refine ⟨szl (Nat.le_of_ble_eq_true rfl), fun l nl => ?_⟩
  have fl := Fr.new (S := []) (o := .lst [.ref a, r1, r2, r3]) nl
  have f13 := (f1.trans f2).trans f3
  obtain ⟨l1, l2, l3⟩ := k3.apart nl
  refine k _ l [.ref a, r1, r2, r3] (f13.trans fl.of0) (k3.fr0' fl) (by simp [l1, l2]) l3 upd_same rfl fun x m => ?_
  simp only [List.mem_cons, List.not_mem_nil, or_false] at m
  have gt : GZ 2 9170 [l, s, d] H3 (.ref t) := ties_gz (f13.tups _ _ ht) (tx.fr f13) hb (by omega)
  rcases m with rfl | rfl | rfl | rfl
  · exact ((web_gz (f13.tups _ _ ha) hw.hi gt).up (by decide) (by decide)).fr0 fl
  · exact (GZ.off nl ((g1.z.fr f2).fr f3)).fr0 fl
  · exact (GZ.off nl (g2.z.fr f3)).fr0 fl
  · exact (GZ.off nl g3.z).fr0 fl
theorem lw_2_3 {l : Addr} {xs : List V} (hk : Stk s d c H) (el : H l = some (.lst xs)) (hw : WebOk n ps) (hv : Tp H v (dW n ps))
    (k : ∀ H' r, Fr [s, d] H H' → Stk s d c H' → GP (Lim 70) 6 40000 [l, s, d] H' r → D.nx [y0, some (.ref s), y2, some v, y4, some r, y6, y7, y8, y9, y10] H') :
    rd_law_2_3 K D [y0, some (.ref s), y2, some v, y4, y5, y6, y7, y8, y9, y10] H := by
  have hl := hw.len
  have kp : Kp [l, s, d] s d H := ⟨fun x m => by
    rcases List.mem_cons.mp m with rfl | m
    · rw [el]
      simp
    · exact (kp_of hk).live x m, by simp, by simp⟩
  refine ⟨_, rfl, _, rfl, [l, s, d], s, d, c, v, n, ps, rfl, kp, hk, hv, hw.lo, hw.hi, web_lt hw, by omega, fun H1 r1 f1 k1 g1 => ?_⟩
  refine k H1 r1 f1 k1 ?_
  obtain ⟨e, e1, e2, e3⟩ := g1
  refine ⟨e, e1, e2, fun x ts z => ?_⟩
  have := e3 x ts z
  omega
theorem f_order : (⟨#[102]⟩ : Str) ≠ "order" := by decide +kernel
theorem tie_order : ("tie" : Str) ≠ "order" := by decide +kernel
theorem lw_2_4 {l : Addr} {xs : List V} {r : V} (hk : Stk s d c H) (el : H l = some (.lst xs)) (nl : l ∉ [s, d]) (nc : l ≠ c) (hl : xs.length = 4) (hx : ∀ x ∈ xs, Good1 l s d H x) (hr : GP (Lim 70) 6 40000 [l, s, d] H r)
    (k : ∀ H' zs, Stk s d c H' → H' l = some (.lst zs) → zs.length ≤ 5 → (∀ x ∈ zs, Good1 l s d H' x) → D.nx [y0, some (.ref s), y2, y3, some (.ref l), some r, y6, y7, y8, y9, y10] H') :
    rd_law_2_4 K D [y0, some (.ref s), y2, y3, some (.ref l), some r, y6, y7, y8, y9, y10] H := by
  obtain ⟨e, e1, e2, e3⟩ := hr
  have we := e2.wt
  have e1n := e1.mono (S' := []) (fun _ m => absurd m List.not_mem_nil)
  obtain ⟨l1, l2⟩ : l ≠ s ∧ l ≠ d := by simpa using nl
  -- append, where the ties are pairs
  have put : ∀ H1 n ts, Fr [] H H1 → formN e = some (n, ts) → (∀ t ∈ ts, prD n t = true) → (tDrop (tBM K "list" rAppend (tVar 4) (tCons (tCall spSpoilt [] E0 (tCons (tVar 1) (tCons (tVar 5) tNil))) tNil))) D [y0, some (.ref s), y2, y3, some (.ref l), some r, y6, y7, y8, y9, y10] H1 := fun H1 n ts f1 hf hp => by
    obtain ⟨rfl, b1, b2⟩ := formN_inv hf
    obtain ⟨qs, rfl, hq⟩ := prs_prs b2 hp
    have lq := e3 _ _ rfl
    rw [List.length_map] at lq
    have tr : Tp H r (dW n qs) := Dy.tp (tupOnly_dW n qs) e1
    have k1 := hk.fr0' f1
    have el1 := f1.keep _ _ el List.not_mem_nil
    have kp : Kp [l, s, d] s d H1 := ⟨fun x m => by
      rcases List.mem_cons.mp m with rfl | m
      · rw [el1]
        simp
      · exact (kp_of k1).live x m, by simp, by simp⟩
    refine ⟨_, rfl, .inl ⟨rfl, xs, SqL.of el1⟩, ?_⟩
    refine ⟨_, rfl, _, rfl, [l, s, d], s, d, c, r, n, qs, rfl, kp, k1, tr.fr f1, b1, b2, hq, lq, fun H2 r2 f2 k2 g2 => ?_⟩
    have el2 := f2.keep _ _ el1 nl
    refine ⟨l, xs, _, rfl, rfl, el2, szlt (by omega), ?_⟩
    have fw : Fr [l, s, d] H2 (upd H2 l (.lst (xs ++ [r2]))) := Fr.refl.set (.inr List.mem_cons_self) (fun xs z => by rw [el2] at z; cases z)
    refine k _ (xs ++ [r2]) (k2.far l1 l2 nc) upd_same (by rw [List.length_append, hl]; exact Nat.le_refl _) fun x m => ?_
    rcases List.mem_append.mp m with m | m
    · exact (((hx x m).fr0 f1).fr (kp.more f2)).fr fw
    · rw [List.mem_singleton.mp m]
      exact g2.z.fr fw
  have go : ∀ H1, Fr [] H H1 → D.nx [y0, some (.ref s), y2, y3, some (.ref l), some r, y6, y7, y8, y9, y10] H1 := fun H1 f1 =>
    k H1 xs (hk.fr0' f1) (f1.keep _ _ el List.not_mem_nil) (by omega) fun x m => (hx x m).fr0 f1
  refine ⟨_, rfl, r, e, rfl, e1n, by omega, fun H1 r1 e4 f1 h1 t1 => ?_⟩
  cases h1 with
  | ok c1 c2 c3 =>
    cases t1
    exact ⟨rfl, _, rfl, iteT (put H1 _ _ f1 c1 c2)⟩
  | form c1 =>
    cases t1
    refine ⟨rfl, _, rfl, iteF ?_⟩
    refine ⟨_, rfl, r, e, rfl, e1n.fr f1, by omega, fun H2 r2 e5 f2 h2 t2 => ?_⟩
    have ee := h2.uniq (.form c1)
    subst ee
    cases t2
    refine .inr (.inr ⟨_, 0, _, rfl, rfl, szl (by decide +kernel), rfl, ?_⟩)
    exact ⟨rfl, _, rfl, Eq.mpr (if_neg (fun z => f_order (V.str.inj (of_decide_eq_true z)))) (go H2 (f1.trans f2))⟩
  | tie c1 c2 c3 c4 =>
    cases t1 with
    | tup ea ta =>
    refine ⟨rfl, _, rfl, iteF ?_⟩
    refine ⟨_, rfl, r, e, rfl, e1n.fr f1, by omega, fun H2 r2 e5 f2 h2 t2 => ?_⟩
    have ee := h2.uniq (.tie c1 c2 c3 c4)
    subst ee
    cases t2 with
    | @tup b ys _ eb tb =>
    cases tb with
    | cons tb1 tb2 =>
    cases tb1
    refine .inr (.inl ⟨b, _, 0, _, rfl, rfl, SqT.of eb, atI_nat (j := 0) rfl, ?_⟩)
    exact ⟨rfl, _, rfl, Eq.mpr (if_neg (fun z => tie_order (V.str.inj (of_decide_eq_true z)))) (go H2 (f1.trans f2))⟩
  | ord c1 c2 c3 c4 c5 c6 =>
    cases t1 with
    | tup ea ta =>
    refine ⟨rfl, _, rfl, iteF ?_⟩
    refine ⟨_, rfl, r, e, rfl, e1n.fr f1, by omega, fun H2 r2 e5 f2 h2 t2 => ?_⟩
    have ee := h2.uniq (.ord c1 c2 c3 c4 c5 c6)
    subst ee
    cases t2 with
    | @tup b ys _ eb tb =>
    cases tb with
    | cons tb1 tb2 =>
    cases tb1
    refine .inr (.inl ⟨b, _, 0, _, rfl, rfl, SqT.of eb, atI_nat (j := 0) rfl, ?_⟩)
    exact ⟨rfl, _, rfl, Eq.mpr (if_pos (decide_eq_true rfl)) (put H2 _ _ (f1.trans f2) c1 c2)⟩
theorem three_sy {g : PyData} (h : Sq 1 200 g) : Sy (.list [g, g, g]) :=
  (Sq.lst (n := 1) (w := 200) (m := 3) (ds := [g, g, g]) (fun x m => by
    simp only [List.mem_cons, List.not_mem_nil, or_false, or_self] at m
    rw [m]
    exact h) (Nat.le_refl _)).sy
theorem lw_2_5 {l : Addr} {zs : List V} (el : H l = some (.lst zs)) (hz : ∀ x ∈ zs, GZ 6 40000 [] H x)
    (k : ∀ H' y6 y7 y8 y9, Fr [] H H' → D.nx [y0, some (.ref s), y2, y3, some (.ref l), y5, y6, y7, y8, y9, y10] H') :
    rd_law_2_5 K D [y0, some (.ref s), y2, y3, some (.ref l), y5, y6, y7, y8, y9, y10] H := by
  refine ⟨_, rfl, l, rfl, ⟨zs, SqL.of el⟩, ?_⟩
  refine for_list (K := K) (a := l) (xs := zs) (fun _ σ H' => (∃ y6 y7 y8 y9, σ = [y0, some (.ref s), y2, y3, some (.ref l), y5, y6, y7, y8, y9, y10]) ∧ Fr [] H H') ⟨⟨_, _, _, _, rfl⟩, Fr.refl⟩ (fun _ σ H' _ ⟨_, f⟩ => SqL.of (f.keep _ _ el List.not_mem_nil)) ?_ ?_
  · rintro j x σ H1 hx ⟨⟨z6, z7, z8, z9, rfl⟩, f1⟩
    obtain ⟨e, e1, e2⟩ := (hz x (List.mem_of_getElem? hx)).fr0 f1
    have we := e2.wt
    refine ⟨_, rfl, x, e, rfl, e1, e2.sy, ?_⟩
    refine ⟨_, rfl, x, e, rfl, e1, by omega, fun H2 r1 g f2 h1 t1 => ⟨_, _, rfl, ?_⟩⟩
    have sg := h1.sq (by omega)
    refine ⟨_, rfl, x, e, rfl, e1.fr f2, by omega, fun H3 r2 g2 f3 h2 t2 => ?_⟩
    have f23 := f2.trans f3
    refine ⟨_, rfl, x, e, rfl, e1.fr f23, by omega, fun H4 r3 g3 f4 h3 t3 => ?_⟩
    have f24 := f23.trans f4
    refine ⟨_, rfl, x, e, rfl, e1.fr f24, by omega, fun H5 r4 g4 f5 h4 t4 => ?_⟩
    have f25 := f24.trans f5
    have q2 := h2.uniq h1
    have q3 := h3.uniq h1
    have q4 := h4.uniq h1
    subst q2 q3 q4
    refine ⟨szl (Nat.le_of_ble_eq_true rfl), fun p hp => ?_⟩
    have fp := Fr.new (S := []) (o := .lst [r2, r3, r4]) hp
    have f35 := f4.trans f5
    refine ⟨_, rfl, .ref p, .list [_, _, _], rfl, .lst upd_same List.not_mem_nil (.cons (Tp.dy ((t2.fr f35).fr fp)) (.cons (Tp.dy ((t3.fr f5).fr fp)) (.cons (Tp.dy (t4.fr fp)) .nil))), three_sy sg, ?_⟩
    refine ⟨_, rfl, szl (Nat.le_of_ble_eq_true rfl), fun q hq => ?_⟩
    have fq := Fr.new (S := []) (o := .lst [r1]) hq
    refine ⟨q, 3, [r1], rfl, rfl, upd_same, by decide, by decide, szl (Nat.le_of_ble_eq_true rfl), fun u hu => ?_⟩
    have fu := Fr.new (S := []) (o := .lst (List.replicate (3 : Int).toNat [r1]).flatten) hu
    have g15 := (((f3.trans f35).trans fp).trans fq).trans fu
    have tr := Tp.dy (S := []) (t1.fr g15)
    refine ⟨.ref u, .list [_, _, _], rfl, .lst upd_same List.not_mem_nil (.cons tr (.cons tr (.cons tr .nil))), three_sy sg, rfl, _, rfl, ?_⟩
    refine Eq.mpr (if_neg ?_) ?_
    · simp
    refine ⟨_, rfl, x, e, rfl, e1.fr (((f25.trans fp).trans fq).trans fu), e2.sy, _, rfl, rfl, _, rfl, ?_⟩
    refine Eq.mpr (if_neg ?_) ?_
    · simp
    exact ⟨⟨_, _, _, _, rfl⟩, ((((f1.trans f25).trans fp).trans fq).trans fu)⟩
  · rintro σ H1 ⟨⟨z6, z7, z8, z9, rfl⟩, f1⟩
    exact k H1 z6 z7 z8 z9 f1
def p12 : List Pr := pairsOf 12
theorem all_pr {n : Nat} {ts : List PyData} (h : (ts.all fun t => prD n t) = true) : ∀ t ∈ ts, prD n t = true := List.all_eq_true.mp h
theorem le_no {ts : List PyData} {m : Nat} (h : ((List.range m).all fun j => j == 0 || !leAt ts j) = true) : ∀ j, 1 ≤ j → j < m → leAt ts j = false := fun j h1 h2 => by
  have := List.all_eq_true.mp h j (List.mem_range.mpr h2)
  simpa [show j ≠ 0 by omega] using this
theorem err_a : ErrR (dW 12 p12) .none := .ok (n := 12) (ts := dPs p12) rfl (all_pr (by decide +kernel)) (fun j h1 h2 => le_no (m := 66) (by decide +kernel) j h1 h2)
theorem err_b : ErrR (dW 13 p12) (.str "form") := .form rfl
theorem err_c : ErrR (dW 11 p12) (.tuple [.str "tie", .int 10]) := .tie (n := 11) (ts := dPs p12) (i := 10) (t := .tuple [.int 0, .int 11]) rfl (by
  rw [List.getElem?_map, show p12[10]? = some (0, 11) by decide +kernel]
  rfl) (by decide +kernel) (fun j u h e => by
  have h2 : ((dPs p12).take 10).all (fun t => prD 11 t) = true := by decide +kernel
  refine List.all_eq_true.mp h2 u ?_
  exact List.mem_of_getElem? (i := j) (by rw [List.getElem?_take, if_pos h]; exact e))
theorem err_d : ErrR (dW 12 (p12 ++ [(10, 11)])) (.tuple [.str "order", .int 66]) := .ord (n := 12) (ts := dPs (p12 ++ [(10, 11)])) (i := 66) rfl (all_pr (by decide +kernel)) (by decide) (by decide +kernel) (by decide +kernel) (fun j h1 h2 => le_no (m := 66) (by decide +kernel) j h1 h2)
def dueF : List PyData := [.none, .str "form", .tuple [.str "tie", .int 10], .tuple [.str "order", .int 66]]
theorem sy_due : Sy (.list dueF) := ⟨by decide +kernel, by decide +kernel, by decide +kernel, by decide +kernel⟩
theorem lw_3 (k : ∀ H' u t xs, H' u = some (.tup [.int 12, .ref t]) → H' t = some (.tup xs) → Tps H' xs (dPs p12) → D.nx [y0, some (.ref s), y2, y3, y4, y5, y6, y7, y8, y9, some (.ref u)] H') :
    rd_law_3 K D [y0, some (.ref s), y2, y3, y4, y5, y6, y7, y8, y9, y10] H := by
  refine ⟨12, rfl, by decide, fun H1 p xs f1 _ e1 t1 => ?_⟩
  refine ⟨p, xs, rfl, .inl ⟨SqL.of e1, fun t ht => ?_⟩⟩
  have ft := Fr.new (S := []) (o := .tup xs) ht
  refine ⟨szl (Nat.le_of_ble_eq_true rfl), fun u hu => ?_⟩
  have fu := Fr.new (S := []) (o := .tup [.int 12, .ref t]) hu
  exact k _ u t xs upd_same (fu.tups _ _ upd_same) ((t1.fr ft).fr fu)
theorem w_wt : PyData.weight (dW 13 p12) ≤ 100000 ∧ PyData.weight (dW 12 p12) ≤ 100000 ∧ PyData.weight (dW 11 p12) ≤ 100000 ∧ PyData.weight (dW 12 (p12 ++ [(10, 11)])) ≤ 100000 := by decide +kernel
theorem lw_45 {u t : Addr} {xs : List V} (eu : H u = some (.tup [.int 12, .ref t])) (et : H t = some (.tup xs)) (tx : Tps H xs (dPs p12))
    (k : ∀ H', D.rt (.bl true) H') :
    rdS_law_4 K D [y0, some (.ref s), y2, y3, y4, y5, y6, y7, y8, y9, some (.ref u)] H := by
  obtain ⟨w1, w2, w3, w4⟩ := w_wt
  have lx := tx.len
  refine ⟨_, rfl, _, _, rfl, Tp.dy (Tp.web eu et tx), w2, fun H1 r1 e1 f1 h1 t1 => ?_⟩
  have q1 := h1.uniq err_a
  subst q1
  refine ⟨_, rfl, u, _, 1, _, rfl, rfl, SqT.of (f1.tups _ _ eu), atI_nat (j := 1) rfl, szl (Nat.le_of_ble_eq_true rfl), fun p2 hp2 => ?_⟩
  have fp2 := f1.trans (Fr.new (S := []) (o := .tup [.int 13, .ref t]) hp2)
  refine ⟨_, _, rfl, Tp.dy (Tp.web (n := 13) upd_same (fp2.tups _ _ et) (tx.fr fp2)), w1, fun H2 r2 e2 f2 h2 t2 => ?_⟩
  have q2 := h2.uniq err_b
  subst q2
  have f02 := fp2.trans f2
  refine ⟨_, rfl, u, _, 1, _, rfl, rfl, SqT.of (f02.tups _ _ eu), atI_nat (j := 1) rfl, szl (Nat.le_of_ble_eq_true rfl), fun p3 hp3 => ?_⟩
  have fn3 := Fr.new (S := []) (o := .tup [.int 11, .ref t]) hp3
  have fp3 := f02.trans fn3
  refine ⟨_, _, rfl, Tp.dy (Tp.web (n := 11) upd_same (fp3.tups _ _ et) (tx.fr fp3)), w3, fun H3 r3 e3 f3 h3 t3 => ?_⟩
  have q3 := h3.uniq err_c
  subst q3
  have f03 := fp3.trans f3
  refine ⟨_, rfl, u, _, 1, _, rfl, rfl, SqT.of (f03.tups _ _ eu), atI_nat (j := 1) rfl, ?_⟩
  refine ⟨szl (Nat.le_of_ble_eq_true rfl), fun p4 hp4 => ⟨szl (Nat.le_of_ble_eq_true rfl), fun p5 hp5 => ?_⟩⟩
  have fn4 := Fr.new (S := []) (o := .tup [.int 10, .int 11]) hp4
  have fn5 := Fr.new (S := []) (o := .tup [.ref p4]) hp5
  have f05 := (f03.trans fn4).trans fn5
  refine catA_of (f05.tups _ _ et) upd_same (by rw [lx]; show p12.length + 1 ≤ 100000; decide +kernel) fun H6 u6 f6 e6 => ?_
  refine ⟨szl (Nat.le_of_ble_eq_true rfl), fun p7 hp7 => ?_⟩
  have fn7 := Fr.new (S := []) (o := .tup [.int 12, .ref u6]) hp7
  have f67 := f6.trans fn7
  have f07 := f05.trans f67
  have tl : Tps (upd H6 p7 (.tup [.int 12, .ref u6])) (xs ++ [.ref p4]) (dPs (p12 ++ [(10, 11)])) := by
    rw [dPs_app]
    exact (tx.fr f07).app (Tps.one (Tp.pr (p := (10, 11)) ((fn5.trans f67).tups _ _ upd_same)))
  refine ⟨_, _, rfl, Tp.dy (Tp.web (n := 12) upd_same (fn7.tups _ _ e6) tl), w4, fun H8 r4 e4 f8 h4 t4 => ?_⟩
  have q4 := h4.uniq err_d
  subst q4
  refine ⟨szl (Nat.le_of_ble_eq_true rfl), fun p9 hp9 => ?_⟩
  have fn9 := Fr.new (S := []) (o := .lst [r1, r2, r3, r4]) hp9
  have g4 := ((fn4.trans fn5).trans f67).trans (f8.trans fn9)
  have g3 := f3.trans g4
  have g2 := fn3.trans g3
  have t4' := t4.fr fn9
  have t3' := t3.fr g4
  have t2' := t2.fr g2
  have t1' := t1.fr ((Fr.new (S := []) (o := .tup [.int 13, .ref t]) hp2).trans (f2.trans g2))
  have e9 : upd H8 p9 (.lst [r1, r2, r3, r4]) p9 = some (.lst [r1, r2, r3, r4]) := upd_same
  generalize upd H8 p9 (.lst [r1, r2, r3, r4]) = H9 at e9 t1' t2' t3' t4' ⊢
  show rd_law_5 K D _ H9
  refine ⟨_, rfl, .ref p9, .list dueF, rfl, .lst e9 List.not_mem_nil (.cons (Tp.dy t1') (.cons (Tp.dy t2') (.cons (Tp.dy t3') (.cons (Tp.dy t4') .nil)))), sy_due, ?_⟩
  refine ⟨szl (Nat.le_of_ble_eq_true rfl), fun a1 ha1 => ⟨szl (Nat.le_of_ble_eq_true rfl), fun a2 ha2 => ⟨szl (Nat.le_of_ble_eq_true rfl), fun a3 ha3 => ?_⟩⟩⟩
  have fa2 := Fr.new (S := []) (o := .tup [.str "order", .int 66]) ha2
  have fa3 := Fr.new (S := []) (o := .lst [.non, .str "form", .ref a1, .ref a2]) ha3
  refine ⟨.ref a3, .list dueF, rfl, .lst upd_same List.not_mem_nil (.cons .non (.cons (.str _) (.cons (.tup ((fa2.trans fa3).tups _ _ upd_same) (.cons (.str _) (.cons (.int _) .nil))) (.cons (.tup (fa3.tups _ _ upd_same) (.cons (.str _) (.cons (.int _) .nil))) .nil)))), sy_due, rfl, ?_⟩
  rw [decide_eq_true rfl]
  exact k _
end
theorem ok_law (F : FnP K "law" s_law f fd) (g_range : mg "range" = none) (g_tuple : mg "tuple" = none) (g_repr : mg "repr" = none) {f__law_stock : Addr} {fd__law_stock : FuncData} (F__law_stock : FnP K "_law_stock" s__law_stock f__law_stock fd__law_stock) (m__law_stock : mg "_law_stock" = some (.ref f__law_stock)) {f__law_web : Addr} {fd__law_web : FuncData} (F__law_web : FnP K "_law_web" s__law_web f__law_web fd__law_web) (m__law_web : mg "_law_web" = some (.ref f__law_web)) {f__law_spoilt : Addr} {fd__law_spoilt : FuncData} (F__law_spoilt : FnP K "_law_spoilt" s__law_spoilt f__law_spoilt fd__law_spoilt) (m__law_spoilt : mg "_law_spoilt" = some (.ref f__law_spoilt)) {f_web_error : Addr} {fd_web_error : FuncData} (F_web_error : FnP K "web_error" s_web_error f_web_error fd_web_error) (m_web_error : mg "web_error" = some (.ref f_web_error)) {f__law_pairs : Addr} {fd__law_pairs : FuncData} (F__law_pairs : FnP K "_law_pairs" s__law_pairs f__law_pairs fd__law_pairs) (m__law_pairs : mg "_law_pairs" = some (.ref f__law_pairs)) {f__law_fault : Addr} {fd__law_fault : FuncData} (F__law_fault : FnP K "_law_fault" s__law_fault f__law_fault fd__law_fault) (m__law_fault : mg "_law_fault" = some (.ref f__law_fault)) (sd : SysD K) (G__law_stock : FnG P w K mg base CX0 1 f__law_stock fd__law_stock ["script"] (spStock K)) (G__law_web : FnG P w K mg base CX0 3 f__law_web fd__law_web ["stock", "least", "most"] spWeb)
    (G__law_spoilt : FnG P w K mg base CX0 4 f__law_spoilt fd__law_spoilt ["stock", "web"] spSpoilt) (G__law_fault : FnG P w K mg base CX0 3 f__law_fault fd__law_fault ["value"] spFaultY)
    (G_web_error : FnG P w K mg base CX0 3 f_web_error fd_web_error ["value"] spWebErrY) (G__law_pairs : FnG P w K mg base CX0 1 f__law_pairs fd__law_pairs ["many"] spPairs) : FnG P w K mg base CX0 5 f fd ["script"] (spLaw K) := by
  have b__law_stock : Binds K fd__law_stock ["script"] [] := F__law_stock.bindsN fun _ _ _ _ _ _ us hl => match us, hl with | [_], _ => rfl
  have b__law_web : Binds K fd__law_web ["stock", "least", "most"] [] := F__law_web.bindsN fun _ _ _ _ _ _ us hl => match us, hl with | [_, _, _], _ => rfl
  have b__law_spoilt : Binds K fd__law_spoilt ["stock", "web"] [] := F__law_spoilt.bindsN fun _ _ _ _ _ _ us hl => match us, hl with | [_, _], _ => rfl
  have b__law_fault : Binds K fd__law_fault ["value"] [] := F__law_fault.bindsN fun _ _ _ _ _ _ us hl => match us, hl with | [_], _ => rfl
  have b_web_error : Binds K fd_web_error ["value"] [] := F_web_error.bindsN fun _ _ _ _ _ _ us hl => match us, hl with | [_], _ => rfl
  have n_web_error_value : NBinds K fd_web_error ["value"] ["value"] (fun ws => match ws with | [a0] => [a0] | _ => []) := nbinds F_web_error (fun _ _ _ _ _ _ ws hl => match ws, hl with | [a0], _ => rfl) (fun {zs ws} r => ?_)
  have b__law_pairs : Binds K fd__law_pairs ["many"] [] := F__law_pairs.bindsN fun _ _ _ _ _ _ us hl => match us, hl with | [_], _ => rfl
  · refine okG0 F sc_law (fun vs H Q E h => ?_) (fun cdv A outer s0 H vs Q E hS hr h => ?_)
    · obtain ⟨_, _, rfl, _⟩ := h
      rfl
    · obtain ⟨a, ns0, rfl, ha, hl, q⟩ := h
      refine ⟨rdS_law_1 K, (pss_cons (ps_set (i := 1) sc_law.nd rfl (Or.inl rfl) (pe_callG G__law_stock hS (hr.mono (by decide)) (by rfl) m__law_stock F__law_stock.kp b__law_stock .nil pass0 (pa_cons (pv 0) pa_nil)))
      (pss_cons (ps_for PassesOwn.never rfl (pi_range1 rfl g_range (pa_cons pe_int pa_nil)) (pg_name (i := 2) sc_law.nd rfl (Or.inl rfl)) (pss_cons (ps_set (i := 3) sc_law.nd rfl (Or.inl rfl) (pe_callG G__law_web hS (hr.mono (by decide)) (by rfl) m__law_web F__law_web.kp b__law_web .nil pass0 (pa_cons (pv 1) (pa_cons pe_int (pa_cons (pe_ix (ixL K) (pe_lst (pa_cons pe_int (pa_cons pe_int pa_nil))) (pe_op op_mod (pv 2) pe_int) (fun _ _ => rfl)) pa_nil)))))
      (pss_cons (ps_set (i := 4) sc_law.nd rfl (Or.inl rfl) (pe_lst (pa_cons (pv 3) (pa_cons (pe_callG G__law_spoilt hS (hr.mono (by decide)) (by rfl) m__law_spoilt F__law_spoilt.kp b__law_spoilt .nil pass0 (pa_cons (pv 1) (pa_cons (pv 3) pa_nil))) (pa_cons (pe_callG G__law_spoilt hS (hr.mono (by decide)) (by rfl) m__law_spoilt F__law_spoilt.kp b__law_spoilt .nil pass0 (pa_cons (pv 1) (pa_cons (pv 3) pa_nil))) (pa_cons (pe_callG G__law_spoilt hS (hr.mono (by decide)) (by rfl) m__law_spoilt F__law_spoilt.kp b__law_spoilt .nil pass0 (pa_cons (pv 1) (pa_cons (pv 3) pa_nil))) pa_nil))))))
      (pss_cons (ps_set (i := 5) sc_law.nd rfl (Or.inl rfl) (pe_callG G__law_spoilt hS (hr.mono (by decide)) (by rfl) m__law_spoilt F__law_spoilt.kp b__law_spoilt .nil pass0 (pa_cons (pv 1) (pa_cons (pv 3) pa_nil))))
      (pss_cons (ps_if (PW.pt (pw_or (pt_cmpR op_isN (pe_callG G__law_fault hS (hr.mono (by decide)) (by rfl) m__law_fault F__law_fault.kp b__law_fault .nil pass0 (pa_cons (pv 5) pa_nil)) pe_non (nomark _)) (pw_or1 (pt_cmpR op_eq (pe_ix (ixSK K) (pe_callG G__law_fault hS (hr.mono (by decide)) (by rfl) m__law_fault F__law_fault.kp b__law_fault .nil pass0 (pa_cons (pv 5) pa_nil)) pe_int (fun _ _ => rfl)) pe_str (nomark _))))) (pss_one (ps_expr (pe_bm PySem.F.plainAttrs_list PySem.F.slot_list_append PySem.F.type_list_append mt_append (pv 4) (pa_cons (pe_callG G__law_spoilt hS (hr.mono (by decide)) (by rfl) m__law_spoilt F__law_spoilt.kp b__law_spoilt .nil pass0 (pa_cons (pv 1) (pa_cons (pv 5) pa_nil))) pa_nil)))) pss_nil)
      (pss_one (ps_for PassesOwn.never rfl (pi_list (pv 4)) (pg_name (i := 6) sc_law.nd rfl (Or.inl rfl)) (pss_cons (ps_par (i := 7) (j := 8) (by rfl) sc_law.nd rfl rfl (by decide) rfl rfl (pa_cons (pe_callB (reprZK hS (hu80_of hr) K sd) (by rfl) g_repr (by decide +kernel) (pa_cons (pv 6) pa_nil)) (pa_cons (pe_callG G__law_fault hS (hr.mono (by decide)) (by rfl) m__law_fault F__law_fault.kp b__law_fault .nil pass0 (pa_cons (pv 6) pa_nil)) pa_nil)) (by rfl))
      (pss_cons (ps_set (i := 9) sc_law.nd rfl (Or.inl rfl) (pe_lst (pa_cons (pe_callG G_web_error hS (hr.mono (by decide)) (by rfl) m_web_error F_web_error.kp b_web_error .nil pass0 (pa_cons (pv 6) pa_nil)) (pa_cons (pe_callGN G_web_error hS (hr.mono (by decide)) (by rfl) m_web_error F_web_error.kp n_web_error_value pass0 (pk_cons (pv 6) pk_nil)) (pa_cons (pe_callG G_web_error hS (hr.mono (by decide)) (by rfl) m_web_error F_web_error.kp b_web_error .nil pass0 (pa_cons (pv 6) pa_nil)) pa_nil)))))
      (pss_one (ps_if (PW.pt (pw_or (pt_cmpR op_ne (pe_callB (reprZK hS (hu80_of hr) K sd) (by rfl) g_repr (by decide +kernel) (pa_cons (pv 9) pa_nil)) (pe_callB (reprZK hS (hu80_of hr) K sd) (by rfl) g_repr (by decide +kernel) (pa_cons (pe_op op_rep (pe_lst (pa_cons (pv 8) pa_nil)) pe_int) pa_nil)) (nomark _)) (pw_or1 (pt_cmpR op_ne (pe_callB (reprZK hS (hu80_of hr) K sd) (by rfl) g_repr (by decide +kernel) (pa_cons (pv 6) pa_nil)) (pv 7) (nomark _))))) (pss_one (ps_ret pe_bl)) pss_nil)))))))))))
      (pss_cons (ps_set (i := 10) sc_law.nd rfl (Or.inl rfl) (pe_tup (pa_cons pe_int (pa_cons (pe_callTy (tupOfK K) (by rfl) g_tuple (by decide +kernel) (pa_cons (pe_callG G__law_pairs hS (hr.mono (by decide)) (by rfl) m__law_pairs F__law_pairs.kp b__law_pairs .nil pass0 (pa_cons pe_int pa_nil)) pa_nil)) pa_nil))))
      (pss_cons (ps_set (i := 9) sc_law.nd rfl (Or.inl rfl) (pe_lst (pa_cons (pe_callG G_web_error hS (hr.mono (by decide)) (by rfl) m_web_error F_web_error.kp b_web_error .nil pass0 (pa_cons (pv 10) pa_nil)) (pa_cons (pe_callG G_web_error hS (hr.mono (by decide)) (by rfl) m_web_error F_web_error.kp b_web_error .nil pass0 (pa_cons (pe_tup (pa_cons pe_int (pa_cons (pe_ix (ixT K) (pv 10) pe_int (fun _ _ => rfl)) pa_nil))) pa_nil)) (pa_cons (pe_callG G_web_error hS (hr.mono (by decide)) (by rfl) m_web_error F_web_error.kp b_web_error .nil pass0 (pa_cons (pe_tup (pa_cons pe_int (pa_cons (pe_ix (ixT K) (pv 10) pe_int (fun _ _ => rfl)) pa_nil))) pa_nil)) (pa_cons (pe_callG G_web_error hS (hr.mono (by decide)) (by rfl) m_web_error F_web_error.kp b_web_error .nil pass0 (pa_cons (pe_tup (pa_cons pe_int (pa_cons (pe_op (catAK K) (pe_ix (ixT K) (pv 10) pe_int (fun _ _ => rfl)) (pe_tup (pa_cons (pe_tup (pa_cons pe_int (pa_cons pe_int pa_nil))) pa_nil))) pa_nil))) pa_nil)) pa_nil))))))
      (pss_one (ps_ret (pe_cmpR op_eq (pe_callB (reprZK hS (hu80_of hr) K sd) (by rfl) g_repr (by decide +kernel) (pa_cons (pv 9) pa_nil)) (pe_callB (reprZK hS (hu80_of hr) K sd) (by rfl) g_repr (by decide +kernel) (pa_cons (pe_lst (pa_cons pe_non (pa_cons pe_str (pa_cons (pe_tup (pa_cons pe_str (pa_cons pe_int pa_nil))) (pa_cons (pe_tup (pa_cons pe_str (pa_cons pe_int pa_nil))) pa_nil))))) pa_nil)) (nomark _)))))))), ?_⟩
      refine ⟨_, rfl, a, ns0, rfl, ha, hl, fun H1 s d c f1 k1 => ?_⟩
      refine ⟨8, rfl, by decide, by decide, ?_⟩
      refine for_range (lo := 0) (n := 8) (fun i σ H' => ∃ y2 y3 y4 y5 y6 y7 y8 y9, σ = [some (.ref a), some (.ref s), y2, y3, y4, y5, y6, y7, y8, y9, none] ∧ Stk s d c H')
        ⟨none, none, none, none, none, none, none, none, rfl, k1⟩ ?_ ?_
      · rintro i σ H3 hi ⟨y2, y3, y4, y5, y6, y7, y8, y9, rfl, k3⟩
        show rdS_law_2_1 K _ _ _
        rw [show ((0 : Int) + (i : Nat)) = (i : Nat) from Int.zero_add _]
        refine ⟨_, rfl, szl (Nat.le_of_ble_eq_true rfl), fun l hl2 => ?_⟩
        have fl := Fr.new (S := []) (o := .lst [.int 12, .int 6]) hl2
        obtain ⟨j, hi2, ej, e2, b1, b2⟩ : ∃ (j hi2 : Nat), ((i : Nat) : Int) % 2 = (j : Int) ∧ ([.int 12, .int 6] : List V)[j]? = some (.int hi2) ∧ 1 ≤ hi2 ∧ hi2 ≤ 12 := by
          rcases Nat.mod_two_eq_zero_or_one i with h | h
          · exact ⟨0, 12, by omega, rfl, by decide, by decide⟩
          · exact ⟨1, 6, by omega, rfl, by decide, by decide⟩
        refine ⟨_, rfl, _, _, rfl, rfl, (show (0 : Int) < 2 by decide), l, _, _, _, rfl, rfl, SqL.of upd_same, (by rw [ej]; exact atI_nat e2), s, d, c, 1, hi2, rfl, k3.fr0' fl, by decide, b1, b2, fun H4 v n ps _ _ hw f4 k4 hv => ?_⟩
        refine lw_2_2 (K := K) k4 hw hv fun H5 l xs f5 k5 nl nc el hl5 hx => ?_
        refine lw_2_3 (K := K) k5 el hw (hv.fr f5) fun H6 r f6 k6 hr6 => ?_
        have kp : Kp [l, s, d] s d H5 := ⟨fun x m => by
          rcases List.mem_cons.mp m with rfl | m
          · rw [el]
            simp
          · exact (kp_of k5).live x m, by simp, by simp⟩
        refine lw_2_4 (K := K) k6 (f6.keep _ _ el nl) nl nc hl5 (fun x m => (hx x m).fr (kp.more f6)) hr6 fun H7 zs k7 e7 l7 h7 => ?_
        refine lw_2_5 (K := K) e7 (fun x m => (h7 x m).no) fun H8 z6 z7 z8 z9 f8 => ?_
        exact ⟨_, _, _, _, _, _, _, _, rfl, k7.fr0' f8⟩
      · rintro σ H3 ⟨y2, y3, y4, y5, y6, y7, y8, y9, rfl, k3⟩
        refine lw_3 (K := K) fun H4 u t xs eu et tx => ?_
        exact lw_45 (K := K) eu et tx fun H' => q H'
  · match zs, ws, r with
    | [_], [_], h => exact h
    | [], [], _ => exact .nil
    | _ :: _ :: _, _ :: _ :: _, _ => exact .nil
end
end Lt

set_option Elab.async false
set_option linter.all false
set_option maxRecDepth 100000
set_option maxHeartbeats 4000000
namespace Lt
/-! ## an own error: def __init__(self, f): super().__init__("..") ; self.f = f -/
section
open PySem PySem.W PySem.Calls PyProof.Rows PySem.HandSPX
structure EPos where
  a : Pos
  b : Pos
  c : Pos
  d : Pos
  e : Pos
  f : Pos
  g : Pos
  h : Pos
  i : Pos
  j : Pos
  k : Pos
  l : Pos
def eA (f : Str) (p : EPos) : Arguments := { posonlyargs := [], args := [{ arg := "self", annotation := none, pos := p.a }, { arg := f, annotation := none, pos := p.b }], vararg := none, kwonlyargs := [], kw_defaults := [], kwarg := none, defaults := [] }
def eB (f msg : Str) (p : EPos) : List Stmt :=
  [.Expr (.Call (.Attribute (.Call (.Name "super" p.c) [] [] p.d) "__init__" p.e) [.Constant (.str msg) 0 p.f] [] p.g) p.h, .Assign [.Attribute (.Name "self" p.i) f p.j] (.Name f p.k) p.l]
def eS (f : Str) : Scope := { kind := .function, names := [(PySem.Str.ofString "self", .local), (f, .local), (PySem.Str.ofString "__class__", .free), (PySem.Str.ofString "super", .globalImplicit)], isGenerator := false, isCoroutine := false, more := [] }
/-- the field's name is none of the others -/
structure FOk (f : Str) : Prop where
  s : (("self" : Str) == f) = false
  s' : (f == ("self" : Str)) = false
  c : (("__class__" : Str) == f) = false
  u : (("super" : Str) == f) = false
  d : (f == ("__debug__" : Str)) = false
  b : ∀ (q : Str) (p : EPos) (B : List Stmt) (doc pm : Value) (an : Option Addr) (cd ct : Value) (cc : Addr) (a v : Value), bindArgs (ksFn "__init__" q (eA f p) B (eS f) .none .none doc pm an cd ct cc) ⟨[a, v], []⟩ = pure [(("self" : Str), a), (f, v)]
/-- what the written part says of the class x at C, and of its __init__, at fI -/
structure ErrTxt (P : Program) (K : Frag) (mg : Str → Option Value) (x f msg : Str) (C fI : Addr) : Prop where
  gC : mg x = some (.ref C)
  gS : mg "super" = none
  fok : FOk f
  cls : ∃ nm q N bs bm sn sub ab col dd k0 k1 k2 k3 k5, K.lookup C = some (excClassObj nm q C N bs bm true sn sub ab col dd k0 k1 k2 k3 k5 "ValueError.__new__") ∧ refsVE bm = true
  sa : findIn K (.ref C) "__setattr__" = some (some (.builtin "object.__setattr__"))
  ga : findIn K (.ref C) "__getattribute__" = some (some (.builtin "BaseException.__getattribute__"))
  gg : findIn K (.ref C) "__getattr__" = some none
  noN : findIn K (.ref C) f = some none
  iC : findIn K (.ref C) "__init__" = some (some (.ref fI))
  tC : typeIn K (.ref fI) = some (.type "function")
  kC : keepIn K (.ref C) = true
  exC : subIn K (.ref C) (.type "BaseException") = some true
  tyC : typeIn K (.ref C) = some (.type "type")
  hdC : hasDictIn K C = true
  te : exmOne K (.ref C) (.ref C) = some true
  op : nsIn K cStatics "thirdparty.any" = some none
  sup : ks_superIn K C C "__init__" = some (some (.builtin "ValueError.__init__"))
  sVE : subIn K (.ref C) (.type "ValueError") = some true
  self : mroIn K C (.ref C) = some true
  top : (P.main.scope.names.lookup ("super" : Str)).isSome = false
  fn : ∃ (oc : Value) (od : Option Addr) (q : Str) (p : EPos) (doc pm : Value) (an : Option Addr) (cda cc : Addr) (ct : Value) (osl : Array (Option Value)) (ccl : Value) (cdd : Option Addr) (vs : Array Value) (ccs : Array (Option Value)) (file : Str) (tf : Tok) (cl : Value) (cld : Option Addr) (csl : Array (Option Value)),
    K.lookup fI = some ⟨oc, od, .func (ksFn "__init__" q (eA f p) (eB f msg p) (eS f) .none .none doc pm an (.ref cda) ct cc), osl⟩ ∧ codeIn K (.ref cda) q = true ∧
    K.lookup cda = some ⟨ccl, cdd, .fields vs, ccs⟩ ∧ vs[2]? = some (.str file tf) ∧ ((P.main.file : Str) == file) = true ∧ K.lookup cc = some ⟨cl, cld, .cell (some (.ref C)), csl⟩ ∧ (p.e.endLine == p.g.line) = true
/-- what __init__ leaves of a fresh exception at x -/
structure InitEnd (h h' : Heap) (x C dx t1 : Addr) (f : Str) (v : Value) : Prop where
  keep : ∀ b o, b ≠ x → h.get? b = some o → h'.get? b = some o
  obj : h'.get? x = some { cls := .ref C, dict := some dx, data := .fields #[.ref t1, .none, .none, .none, .bool false, .none] }
  dbig : h.objs.size ≤ dx
  dne : dx ≠ x
  ns : h'.Ns1 dx (fun y => if y = f then some v else none)
theorem one_size (v : Value) : [v].length ≤ sizeLine := by
  rw [sizeLine_eq]
  exact (by decide : 1 ≤ 16777216)
theorem ev_call {o a : Expr} {name : Str} {apos pos : Pos} {env : Env} (hp : (apos.endLine == pos.line) = true) (hs : starEach [a] env = [(false, eval a env)]) : eval (.Call (.Attribute o name apos) [a] [] pos) env = (do
      let ov ← attributeBase o name env (eval o env)
      standAt apos.atName
      let (f, first) ← holding [ov] (getMethod ov name (do return (← importBound o env).getD true))
      callWith pos f first (backTo pos (starEach [a] env)) []) := by
  show (do
    let ov ← attributeBase o name env (eval o env)
    standAt apos.atName
    methodCall o name apos pos env ov 1 (backTo pos (starEach [a] env)) []) = _
  have hfew : methodCallForm 1 (backTo pos (starEach [a] env)) [] = true := by
    rw [hs]
    rfl
  unfold methodCall methodCallPos calleeOf
  simp only [hfew, hp, Bool.or_true, if_true, Bool.not_true, pure_bind]
variable {P : Program} {w : World} {A : Around} {E : Value → Shared → Prop} {R : Result → Shared → Prop} {s : Shared} {K : Frag} {mg mb : Str → Option Value} {x f msg : Str} {C fI : Addr}
theorem err_init (T : ErrTxt P K mg x f msg C fI) {e t0 : Addr} {v : Value} (X : K.In s.heap) (hg : s.heap.Ns mainGlobals mg) (hb : s.heap.Ns builtinsNs mb) (hbb : ∀ y : Str, y ≠ "__name__" → mb y = bootBuiltins y) (hlim : s.heap.NoLimit)
    (hx : s.heap.get? e = some (excO C t0)) (hnx : K.lookup e = none) (hroom : A.depth < recursionLimit)
    (hq : ∀ h' tk dx t1, InitEnd s.heap h' e C dx t1 f v → R (.ok (.ret .none)) { s with heap := h', toks := tk }) :
    codeAny (model P w) A (.call (.ref fI) ⟨[.ref e, v], []⟩) R s := by
  obtain ⟨oc, od, q, p, doc, pm, an, cda, cc, ct, osl, ccl, cdd, vs, ccs, file, tf, cl, cld, csl, ho, hcd, hcode, hvs, hfile, hcell, hline⟩ := T.fn
  obtain ⟨nm, qq, N, bs, bm, sn, sub, ab, col, dd, k0, k1, k2, k3, k5, hC, hbm⟩ := T.cls
  have Ff := T.fok
  have hclK : clsIn K C = some { name := nm, bases := bs, mro := .ref C :: bm, ns := N, qualname := qq, hasDict := true, slotNames := sn, subclasses := sub, abstract := ab, collection := col, hasDel := false } := by unfold clsIn; rw [hC] <;> rfl
  have kf : (eS f).names.lookup f = some .local := by
    show List.lookup f ((PySem.Str.ofString "self", NameKind.local) :: (f, .local) :: _) = _
    simp [List.lookup, Ff.s']
  have kc : (eS f).names.lookup ("__class__" : Str) = some .free := by
    show List.lookup ("__class__" : Str) [(PySem.Str.ofString "self", NameKind.local), (f, .local), (PySem.Str.ofString "__class__", .free), (PySem.Str.ofString "super", .globalImplicit)] = _
    have h0 : (("__class__" : Str) == PySem.Str.ofString "self") = false := by decide
    have h1 := Ff.c
    simp [List.lookup, h0, h1]
  have ku : (eS f).names.lookup ("super" : Str) = some .globalImplicit := by
    show List.lookup ("super" : Str) [(PySem.Str.ofString "self", NameKind.local), (f, .local), (PySem.Str.ofString "__class__", .free), (PySem.Str.ofString "super", .globalImplicit)] = _
    have h0 : (("super" : Str) == PySem.Str.ofString "self") = false := by decide
    have h2 : (("super" : Str) == PySem.Str.ofString "__class__") = false := by decide
    have h1 := Ff.u
    simp [List.lookup, h0, h1, h2]
  refine ks_codeAny_call_defAt (fd := ksFn "__init__" q (eA f p) (eB f msg p) (eS f) .none .none doc pm an (.ref cda) ct cc) (body := eB f msg p) (binds := [("self", .ref e), (f, v)]) hroom (X _ _ ho) rfl hlim (codeRec_of X hcd) rfl (BindsTo.of_eq (Ff.b _ _ _ _ _ _ _ _ _ _ _)) ?_ ?_ (fun h₁ hns k => ?_) rfl rfl rfl
  · intro y hy
    simp only [eS, List.mem_cons, List.not_mem_nil, or_false] at hy
    rcases hy with rfl | rfl | rfl | rfl <;> (intro z; cases z)
  · intro y hy
    simp only [List.mem_cons, List.not_mem_nil, or_false] at hy
    rcases hy with rfl | rfl
    · rfl
    · exact kf
  have X₁ : K.In h₁ := X.keeps k
  have hx₁ := k _ _ hx
  have hg₁ : h₁.Ns mainGlobals mg := hg.keeps k
  have hb₁ : h₁.Ns builtinsNs mb := hb.keeps k
  have hself : ∀ y : Str, y = "self" → ([("self", Value.ref e), (f, v)] : List (Str × Value)).reverse.lookup y = some (.ref e) := by
    intro y hy
    subst hy
    simp [List.lookup, Ff.s]
  have hf : ([("self", Value.ref e), (f, v)] : List (Str × Value)).reverse.lookup f = some v := by
    simp [List.lookup]
  have hD : h₁.get? C = _ := X₁ _ _ hC
  have hnc : ∀ c, (excO C t0).data ≠ .cls c := fun c z => by cases z
  have hxC : e ≠ C := fun z => by
    rw [z, hD] at hx₁
    cases hx₁
  have hBI : Looks (model P w) h₁ (isInstance (.ref e) (.type "ValueError")) true :=
    (show Looks (model P w) h₁ (typeOf (.ref e)) (.ref C) from fun A Q E s k' q' => wpAny_typeOf_ref (k' _ _ hx₁) q').andThen (looks_subIn X₁ T.sVE)
  refine ks_wpAt_execs_cons (ks_wpAt_Expr_any (ks_wpAt_MethodCall (he := ev_call hline rfl) ?_))
  refine ks_wpAt_super_base (f := fI) (cc := cda) (ar := { arg := "self", annotation := none, pos := p.a }) (fd := ksFn "__init__" q (eA f p) (eB f msg p) (eS f) .none .none doc pm an (.ref cda) ct cc) ku kc (by decide) rfl (X₁ _ _ ho) rfl rfl rfl (X₁ _ _ hcode) rfl hvs hfile T.top ?_
  refine ks_loadName_global rfl ku (loadGlobal_builtin hg₁ T.gS hb₁ ((hbb _ (by decide)).trans (by first | rfl | kernel_rfl)) ⟨rfl, ?_⟩)
  refine wpAny_loadName_free rfl kc rfl ⟨_, X₁ _ _ hcell, rfl⟩ ?_
  refine wpAny_loadName_local rfl rfl hns (hself _ rfl) ?_
  refine ks_wpAny_isType_cls hD rfl ⟨rfl, ?_⟩
  refine ks_wpAny_call_super hD rfl hx₁ rfl hnc (looks_mroIn X₁ T.self) (fun h₂ hso k₂ => ?_)
  have X₂ : K.In h₂ := X₁.keeps k₂
  have hx₂ := k₂ _ _ hx₁
  refine kxs_getMethod kxs_ValueError hso (looks_opaque X₂ T.op) (l₀ := .ref C :: bm) ?_ rfl X₂ ?_ (hBI.keeps k₂) hxC (by decide) ?_
  · exact fun A Q E s k q => wpAny_bind ((looks_clsIn X₂ hclK) A _ E s k (wpAny_pure q))
  · have z := T.sup
    unfold ks_superIn at z
    rw [hclK] at z
    exact z
  have k₃ : ∀ b o, h₂.get? b = some o → (h₂.push (kxs_mw "ValueError.__init__" e)).get? b = some o := fun b o z => Heap.get?_push_of_some _ z
  have hu : (h₂.push (kxs_mw "ValueError.__init__" e)).get? h₂.objs.size = some (kxs_mw "ValueError.__init__" e) := Heap.get?_push_at rfl rfl
  have hC₃ := k₃ _ _ (k₂ _ _ (X₁ _ _ hC))
  have hx₃ := k₃ _ _ hx₂
  refine kxs_callWith (i := "ValueError.__init__") (x := e) rfl ?_
  refine evalArgs_plain (spliced_cons (Constant_str (k := 0) (pos := p.f) (spliced_nil ⟨hu, ?_⟩)))
  show wpAny _ _ (call (.ref h₂.objs.size) [_]) _ _ _
  refine wpAny_call (codeAny_of_tree ?_)
  show wpAny _ _ (callAny (.ref h₂.objs.size) ⟨[_], []⟩) _ _ _
  simp only [callAny]
  refine wpAny_bind (wpAny_load hu ?_)
  simp only [kxs_mw, show (Value.type "method-wrapper" == Value.type "method" || Value.type "method-wrapper" == Value.type "builtin_function_or_method" || Value.type "method-wrapper" == Value.type "method-wrapper") = true by decide, if_true]
  refine KFB.if_so (by decide) ?_
  refine wpAny_bind (check_bound_init F.excBase_ValueError.toExcCallFacts hC₃ hx₃ rfl ?_)
  refine wpAny_bind (wpAny_pure (wpAny_pure ?_))
  refine ⟨plainId_quiet F.excBase_ValueError.init.plain _, codeAny_builtin F.excBase_ValueError.initEntry ?_⟩
  refine exc_init_tree (cls := .ref C) (t0 := t0) (dv := none) (c2 := .none) (c3 := .none) (b4 := .bool false) hx₃ (one_size _) (fun h₄ k₄ hx₄ _ => ?_)
  have keep : ∀ b o, b ≠ e → s.heap.get? b = some o → h₄.get? b = some o := fun b o nb z => k₄ b o nb (k₃ b o (k₂ b o (k b o z)))
  have X₄ : K.In h₄ := fun b o z => keep b o (fun y => by rw [y, hnx] at z; cases z) (X b o z)
  obtain ⟨oL, es, ep, hL, rL⟩ := hns
  have hLe : s.heap.objs.size ≠ e := Nat.ne_of_gt (Heap.lt_size hx)
  have hn₄ : h₄.Ns s.heap.objs.size (fun y => ([("self", Value.ref e), (f, v)] : List (Str × Value)).reverse.lookup y) := ⟨oL, es, ep, k₄ _ _ hLe (k₃ _ _ (k₂ _ _ hL)), rL⟩
  have size4 : s.heap.objs.size ≤ h₄.objs.size := Nat.le_of_lt (Heap.lt_size (k₄ _ _ hLe (k₃ _ _ (k₂ _ _ hL))))
  show PySem.wpAt _ _ _ (execs [.Assign [.Attribute (.Name "self" p.i) f p.j] (.Name f p.k) p.l] _) _ _ _
  refine wpAt_of_wpAny (wpAny_execs_cons (plainObj_wpAny_Assign_Attribute (hs := by rfl) ?_))
  refine wpAny_Name (wpAny_loadName_local rfl kf hn₄ hf ?_) Ff.d
  refine wpAny_Name (wpAny_loadName_local rfl rfl hn₄ (hself _ rfl) ?_) (by decide)
  refine set_plain X₄ (ox := excO C (h₂.push (kxs_mw "ValueError.__init__" e)).objs.size) (od := none) ⟨hx₄, rfl, rfl, trivial⟩ T.sa ?_
  refine exc_osa X₄ hx₄ hclK (show refsVE (.ref C :: bm) = true from hbm) rfl T.noN (fun h₅ tk₅ dx k₅ dn dne hx₅ hn₅ => ?_)
  show wpAny _ _ (execs _ _) _ _ _
  exact wpAny_execs_nil (hq h₅ tk₅ dx _ ⟨fun b o nb z => k₅ b o nb (keep b o nb z), hx₅, Nat.le_trans size4 dn, dne, hn₅⟩)
end
end Lt

set_option Elab.async false
set_option linter.all false
set_option maxRecDepth 100000
set_option maxHeartbeats 4000000
namespace Lt
/-! ## the error made, raised, read -/
section
open PySem PySem.W PySem.Calls PyProof.Rows PySem.HandSPX
structure ErrMade (h h' : Heap) (e C d : Addr) (f : Str) (v : Value) : Prop where
  keep : ∀ b o, h.get? b = some o → h'.get? b = some o
  new : h.objs.size ≤ e
  obj : ∃ oe vs, h'.get? e = some oe ∧ oe.cls = .ref C ∧ oe.dict = some d ∧ oe.data = .fields vs ∧ vs[1]? = some .none
  dbig : h.objs.size ≤ d
  dne : d ≠ e
  ns : h'.Ns1 d (fun y => if y = f then some v else none)
variable {P : Program} {w : World} {A : Around} {R : Result → Shared → Prop} {s : Shared} {K : Frag} {mg mb : Str → Option Value} {x f msg : Str} {C fI : Addr}
theorem err_made (T : ErrTxt P K mg x f msg C fI) {v : Value} (X : K.In s.heap) (hg : s.heap.Ns mainGlobals mg) (hb : s.heap.Ns builtinsNs mb) (hbb : ∀ y : Str, y ≠ "__name__" → mb y = bootBuiltins y) (hlim : s.heap.NoLimit) (hroom : A.depth + 1 < recursionLimit)
    (hq : ∀ h' tk e d, ErrMade s.heap h' e C d f v → R (.ok (.ret (.ref e))) { s with heap := h', toks := tk }) : codeAny (model P w) A (.call (.ref C) ⟨[v], []⟩) R s := by
  obtain ⟨nm, q, N, bs, bm, sn, sub, ab, col, dd, k0, k1, k2, k3, k5, hC, hbm⟩ := T.cls
  obtain ⟨hp, g, dr, tk, os⟩ := s
  have k : ∀ b o, hp.get? b = some o → ((hp.push (kdv_tup [v])).push (excO C hp.objs.size)).get? b = some o := fun b o e => Heap.get?_push_of_some _ (Heap.get?_push_of_some _ e)
  have hget : ((hp.push (kdv_tup [v])).push (excO C hp.objs.size)).get? (hp.objs.size + 1) = some (excO C hp.objs.size) := by heap_get
  have hnx : K.lookup (hp.objs.size + 1) = none := by
    cases e : K.lookup (hp.objs.size + 1) with
    | none => rfl
    | some o =>
      have z : hp.get? (hp.objs.size + 1) = some o := X _ _ e
      exact absurd (Nat.lt_of_succ_lt (Heap.lt_size z)) (Nat.lt_irrefl _)
  refine call_own F.excBase_ValueError (fun X => refsVE_contains X bm hbm) (X _ _ hC) (looks_findIn X T.iC) (fun self => bind_fn X self T.tC) (one_size v) ?_
  refine err_init (s := ⟨(hp.push (kdv_tup [v])).push (excO C hp.objs.size), g, dr, tk, os⟩) T (X.keeps k) (hg.keeps k) (hb.keeps k) hbb (hlim.keeps k) hget hnx hroom fun h' tk' dx t1 ⟨k', hx, dn, dne, hns⟩ => ?_
  have old : ∀ b o, hp.get? b = some o → h'.get? b = some o := fun b o e => k' b o (Nat.ne_of_lt (Nat.lt_succ_of_lt (Heap.lt_size e))) (k b o e)
  have z : hp.objs.size + 1 + 1 ≤ dx := by
    have q := dn
    rw [Heap.size_push, Heap.size_push] at q
    exact q
  exact ⟨rfl, hq h' tk' (hp.objs.size + 1) dx ⟨old, Nat.le_succ _, ⟨_, _, hx, rfl, rfl, rfl, rfl⟩, Nat.le_trans (Nat.le_trans (Nat.le_succ _) (Nat.le_succ _)) z, dne, hns⟩⟩
end
section
open PySem PySem.Spec PyProof.Rows L2
theorem relO_one {v : V} {v' : Value} (r : RelV v v') (f g : Str) : RelO (List.lookup g [(f, v)]) (if g = f then some v' else none) := by
  rw [show List.lookup g [(f, v)] = (if g = f then some v else none) by
    by_cases h : g = f
    · subst h
      simp [List.lookup]
    · have e : (g == f) = false := by simpa using h
      simp [List.lookup, e, h]]
  by_cases h : g = f
  · rw [if_pos h, if_pos h]
    exact r
  · rw [if_neg h, if_neg h]
    trivial
variable {X : Cx} {C fI : Addr} {x f msg : Str}
/-- x(e) -/
def tMkErr (f : Str) (C : Addr) (ta : TA) : Slots → Hp → XK → Prop := fun σ H Q => ta σ H fun vs H1 => ∃ v, vs = [v] ∧ ∀ d, H1 d = none → Q (.ref C) (some d) (upd H1 d (.xd [(f, v)]))
theorem pmk_err {a : Expr} {ta : TA} {p pos : Pos} {k : Nat} (T : ErrTxt X.prog X.K X.mg x f msg C fI) (hr : Room k X.A) (ha : PA X [a] ta) (hg : Gl X x) (hdb : (x == ("__debug__" : Str)) = false := by decide)
    (he : starEach (a :: []) X.env = (false, eval a X.env) :: starEach [] X.env := by rfl) (hpl : (backTo pos (starEach [] X.env)).any (·.1) = false := by rfl) :
    PMk X (.Call (.Name x p) [a] [] pos) (tMkErr f C ta) := by
  intro pins s σ H Q I h
  refine wpAny_Call_Name_kw (ld_glob I hg T.gC ?_ hdb)
  refine PySem.W.callWith_K (h₀ := X.base) I.ok.mod.kin T.kC (thn (ha.run pos pins s σ H _ I h) fun us s1 hh => ?_) he hpl
  obtain ⟨vs, H1, I1, r1, v, ev, q1⟩ := hh
  subst ev
  refine ⟨I1.kIn, ?_⟩
  cases r1 with
  | cons rv rn =>
    rename_i v' us'
    cases rn
    show wpAny _ _ (call (.ref C) [v']) _ _ _
    have hlim := I1.nolimit
    have hgl := I1.mod.glob.keeps I1.bk
    obtain ⟨mb, hbl, hbb⟩ := I1.mod.blt
    have hbl' := hbl.keeps I1.bk
    obtain ⟨hp, g, dr, tk, os⟩ := s1
    refine wpAny_call (err_made T I1.kIn hgl hbl' hbb hlim (by have := hr.dp; omega) fun h' tk' e d M => ?_)
    show MkP X pins σ Q (.ref e) ⟨h', g, dr, tk', os⟩
    obtain ⟨oe, fv, hoe, hc, hd, hdat, h1⟩ := M.obj
    have hns := M.ns
    obtain ⟨G', g1, g2⟩ := restrict h' fun b => decide (b ≠ e)
    have gk : ∀ b, b ≠ e → G'.get? b = h'.get? b := fun b hb => g1 b (decide_eq_true hb)
    have ge : G'.get? e = none := g2 e (by simp)
    have old : ∀ b o, hp.get? b = some o → G'.get? b = some o := fun b o q => (gk b (Nat.ne_of_lt (Nat.lt_of_lt_of_le (Heap.lt_size q) M.new))).trans (M.keep b o q)
    have ob : ObjOk X.prog X.w (upd H1 d (.xd [(f, v)])) G' d (.xd [(f, v)]) := ⟨_, hns.at (fun o q => (gk d M.dne).trans q), fun g => relO_one rv f g⟩
    have J : Inv X pins σ (upd H1 d (.xd [(f, v)])) ⟨G', g, dr, tk', os⟩ := I1.laid (t' := tk') old M.dbig ob
    refine ⟨e, oe, fv, ⟨G', g, dr, tk', os⟩, _, .ref C, some d, rfl, J, fun b o q => ?_, ge, hoe, ⟨hc, hd⟩, hdat, h1, ?_, rfl, I1.bare, raises_own T.exC T.tyC, q1 d (I1.hok.fresh M.dbig)⟩
    · by_cases hb : b = e
      · have q' : G'.get? b = some o := q
        rw [hb, ge] at q'
        cases q'
      · exact (gk b hb).symm.trans q
    · rw [upd_ne (Ne.symm M.dne)]
      exact I1.hok.fresh M.new
/-- raise x(e) -/
def tRaiseErr (f : Str) (C : Addr) (W : WX) (ta : TA) : TS := fun _ σ H => tMkErr f C ta σ H fun cls d H' => W cls d σ H'
theorem ps_raiseErr {a : Expr} {ta : TA} {W : WX} {p pos pos2 : Pos} {k : Nat} (hc : X.calm = true) (T : ErrTxt X.prog X.K X.mg x f msg C fI) (hr : Room k X.A) (tk : Takes X W) (ha : PA X [a] ta) (hg : Gl X x := by rfl) (hdb : (x == ("__debug__" : Str)) = false := by decide)
    (he : starEach (a :: []) X.env = (false, eval a X.env) :: starEach [] X.env := by rfl) (hpl : (backTo pos (starEach [] X.env)).any (·.1) = false := by rfl) :
    PS X (.Raise (some (.Call (.Name x p) [a] [] pos)) none pos2) (tRaiseErr f C W ta) := ps_raise hc tk (pmk_err T hr ha hg hdb he hpl)
/-- n.f, n the exception that the suite holds (at a; its class cls, its dict d) -/
def tByErr (f : Str) (C : Addr) (a : Addr) (cls : Value) (d : Option Addr) (te : TE) : TE := fun σ H Q => te σ H fun x H1 => x = .ref a ∧ cls = .ref C ∧ ∃ (dd : Addr) (v : V), d = some dd ∧ H1 dd = some (.xd [(f, v)]) ∧ Q v H1
theorem pe_byErr {a : Addr} {oe : Obj} {cls : Value} {d : Option Addr} {pn : List (Addr × Obj)} {e : Expr} {te : TE} {pos : Pos} (T : ErrTxt X.prog X.K X.mg x f msg C fI) (hz : Zc cls d oe) (hf : ∃ vs, oe.data = .fields vs) (he : PE (X.suite a ((a, oe) :: pn)) e te)
    (hb : attributeBase e f X.env (eval e X.env) = eval e X.env := by rfl) :
    PE (X.suite a ((a, oe) :: pn)) (.Attribute e f pos) (tByErr f C a cls d te) := by
  refine ⟨fun pins s σ H Q I h => ?_⟩
  refine attr_of hb (thn (he.run pins s σ H _ I h) fun u s1 hh => ?_)
  obtain ⟨x, H1, I1, rx, ex, ec, dd, v, ed, ea, q⟩ := hh
  subst ex
  obtain rfl : u = Value.ref a := rx
  subst ec
  subst ed
  obtain ⟨ha, _⟩ := I1.pin (a, oe) (List.mem_append_left _ List.mem_cons_self)
  obtain ⟨vs, hd⟩ := hf
  have hx : ObjOk X.prog X.w H1 s1.heap dd (.xd [(f, v)]) := I1.hok dd _ ea
  obtain ⟨mA, hns, hr⟩ := hx
  obtain ⟨od, ho, hl⟩ := lookIn_ns hns
  have l : List.lookup f [(f, v)] = some v := by simp [List.lookup]
  obtain ⟨u, hu, ru⟩ := RelO.some_of (v := v) (o := mA f) (by rw [← l]; exact hr f)
  have J : PySem.W.InstAt s1.heap a oe C (some od) := ⟨ha, hz.1, by unfold PySem.W.notCls; rw [hd] <;> rfl, by rw [hz.2]; exact ho⟩
  exact PySem.HandSPX.exc_get I1.kIn J T.ga T.gg T.exC (PySem.W.findObj_own T.hdC T.noN rfl (by rw [hl, hu])) (handed_of ru) ⟨v, H1, I1.tok _, ru, q⟩
/-! ## calls whose error a clause takes -/
variable {CX : CXT} {k : Nat} {g : Addr} {fd : FuncData} {ps : List Str} {sp : Sp} {dvs : List V} {ds : List Value} {E : Slots → XK} {p pos : Pos} {e : Expr} {es : List Expr} {t : TA}
theorem goGS {pins : List (Addr × Obj)} {σ : Slots} {H : Hp} {s : Shared} {Q : VK} {us ws : List Value} {vs : List V} {kw : List (Str × Value)}
    (F : FnG X.prog X.w X.K X.mg X.base CX k g fd ps sp) (hg : Still X.A) (hr : Room k X.A) (hx : PassesAt CX X σ (E σ)) (I : Inv X pins σ H s)
    (hb : ws.length = ps.length → BindsTo s fd ⟨us, kw⟩ (ps.zip ws)) (rv : Vals vs ws) (h : sp vs H Q (E σ)) :
    wpAny (model X.prog X.w) X.A (call (.ref g) us kw) (EP X pins σ Q) X.xe s := by
  have hlen : ws.length = ps.length := rv.length.symm.trans (F.arity _ _ _ _ h)
  have run := F.go X.A X.stack s H ⟨us, kw⟩ ws vs Q (E σ) hg hr I.env0 (hb hlen) rv h
  refine wpAny_call (codeAny_mono run fun r s' z => ?_)
  rcases r with er | fl
  · exact hx pins H s er s' I z
  · obtain ⟨u, rfl, q⟩ := back_ok I z
    exact q
def tCallX (sp : Sp) (dvs : List V) (E : Slots → XK) (t : TA) : TE := fun σ H Q => t σ H fun vs H1 => sp (vs ++ dvs) H1 Q (E σ)
theorem pe_callGS {y : Str} (F : FnG X.prog X.w X.K X.mg X.base CX k g fd ps sp) (hs : Still X.A) (hr : Room k X.A) (hg : Gl X y) (hm : X.mg y = some (.ref g))
    (hk : PySem.W.keepIn X.K (.ref g) = true) (hb : Binds X.K fd ps ds) (hd : Vals dvs ds) (hx : ∀ σ, PassesAt CX X σ (E σ)) (ha : PA X (e :: es) t)
    (hdb : (y == ("__debug__" : Str)) = false := by decide) (he : starEach (e :: es) X.env = (false, eval e X.env) :: starEach es X.env := by rfl)
    (hpl : (backTo pos (starEach es X.env)).any (·.1) = false := by rfl) : PE X (.Call (.Name y p) (e :: es) [] pos) (tCallX sp dvs E t) := by
  constructor
  intro pins s σ H Q I h
  apply wpAny_Call_Name_kw
  apply ld_glob I hg hm ?_ hdb
  apply PySem.W.callWith_K (h₀ := X.base) I.ok.mod.kin hk ?_ he hpl
  refine thn (ha.run pos pins s σ H _ I h) ?_
  rintro us s1 ⟨vs, H1, I1, r, q⟩
  exact ⟨I1.kIn, goGS F hs hr (hx σ) I1 (fun hl => hb s1 us I1.kIn hl) (r.append hd) q⟩
def tCallNX (sp : Sp) (g : {α : Type} → List α → List α) (E : Slots → XK) (tk : TA) : TE := fun σ H Q => tk σ H fun zs H1 => sp (g zs) H1 Q (E σ)
theorem pe_callGNS {y : Str} {kws : List Keyword} {tk : TA} {ks : List Str} {γ : {α : Type} → List α → List α}
    (F : FnG X.prog X.w X.K X.mg X.base CX k g fd ps sp) (hs : Still X.A) (hr : Room k X.A) (hg : Gl X y) (hm : X.mg y = some (.ref g))
    (hk : PySem.W.keepIn X.K (.ref g) = true) (hb : NBinds X.K fd ps ks γ) (hx : ∀ σ, PassesAt CX X σ (E σ)) (hkw : PK X kws tk)
    (hall : (backToKw pos (keywordEach kws X.env)).all (·.1.isSome) = true := by rfl) (hks : (backToKw pos (keywordEach kws X.env)).filterMap (·.1) = ks := by rfl)
    (hdb : (y == ("__debug__" : Str)) = false := by decide)
    (hpl : ((backTo pos (starEach [] X.env)).any (·.1) || (backToKw pos (keywordEach kws X.env)).any (·.1.isNone)) = false := by rfl) :
    PE X (.Call (.Name y p) [] kws pos) (tCallNX sp γ E tk) := by
  constructor
  intro pins s σ H Q I h
  apply wpAny_Call_Name_kw
  apply ld_glob I hg hm ?_ hdb
  apply PySem.W.callWith_KW0 (h₀ := X.base) I.ok.mod.kin hk hall ?_ hpl
  refine thn (hkw.run pos pins s σ H _ I h) ?_
  rintro ws s1 ⟨zs, H1, I1, r, q⟩
  refine ⟨I1.kIn, ?_⟩
  rw [hks]
  exact goGS F hs hr (hx σ) I1 (fun hl => hb.to s1 ws I1.kIn hl) (hb.rel r) q
end
end Lt

set_option Elab.async false
set_option linter.all false
set_option maxRecDepth 100000
set_option maxHeartbeats 4000000
namespace Lt
open PySem PySem.Spec PyProof.Rows L2
/-! ## isinstance of the error that a suite holds -/
structure IsErr (K : PySem.W.Frag) (D B : Addr) : Prop where
  e : ExcC K D
  k : PySem.W.kitOne K (.ref D) (.ref B) = some true
def isB (K : PySem.W.Frag) (D B : Addr) : Bool :=
  He.eqO (PySem.W.findIn K (.ref D) "__getattribute__") (some (some (.builtin "BaseException.__getattribute__"))) && (He.eqO (PySem.W.findIn K (.ref D) "__getattr__") (some none) && (decide (PySem.W.subIn K (.ref D) (.type "BaseException") = some true) &&
  (PySem.W.hasDictIn K D && (He.eqO (PySem.W.findIn K (.ref D) "__class__") (some (some (.builtin "object.__class__"))) && (He.eqO (PySem.W.specialIn K (.builtin "object.__class__") "__get__") (some (some (.builtin "getset_descriptor.__get__"))) &&
  (decide (PySem.W.takesIn K (.builtin "object.__class__") = some true) && (decide (PySem.W.mroIn K D (.type "object") = some true) && decide (PySem.W.kitOne K (.ref D) (.ref B) = some true))))))))
theorem isB_ok {K : PySem.W.Frag} {D B : Addr} (c : isB K D B = true) : IsErr K D B := by
  unfold isB at c
  obtain ⟨c1, c⟩ := He.ba c
  obtain ⟨c2, c⟩ := He.ba c
  obtain ⟨c3, c⟩ := He.ba c
  obtain ⟨c4, c⟩ := He.ba c
  obtain ⟨c5, c⟩ := He.ba c
  obtain ⟨c6, c⟩ := He.ba c
  obtain ⟨c7, c⟩ := He.ba c
  obtain ⟨c8, c9⟩ := He.ba c
  exact ⟨⟨He.eqO_ok c1, He.eqO_ok c2, of_decide_eq_true c3, c4, He.eqO_ok c5, He.eqO_ok c6, of_decide_eq_true c7, of_decide_eq_true c8⟩, of_decide_eq_true c9⟩
/-- isinstance(n, B), n the error that the suite holds -/
def rIsErr (K : PySem.W.Frag) (D B a : Addr) (cls : Value) (d : Option Addr) : List V → Hp → VK → Prop := fun xs H Q => ∃ (dd : Addr) (fs : List (Str × V)), xs = [.ref a, .ref B] ∧ cls = .ref D ∧ d = some dd ∧ H dd = some (.xd fs) ∧ Q (.bl true) H
theorem call_isErr {X : Cx} {a D B : Addr} {oe : Obj} {cls : Value} {d : Option Addr} {pn : List (Addr × Obj)} (K : PySem.W.Frag) (C : IsErr K D B) (hz : Zc cls d oe) (hf : ∃ vs, oe.data = .fields vs) (hK : X.K = K := by rfl) :
    CallR (X.suite a ((a, oe) :: pn)) (.builtin "isinstance") (rIsErr K D B a cls d) := by
  subst hK
  intro pins s σ H xs us Q I r h
  obtain ⟨dd, fs, rfl, rfl, rfl, eH, q⟩ := h
  cases r with
  | cons rx rr =>
    cases rr with
    | cons rt rr =>
      cases rr
      cases rx
      cases rt
      obtain ⟨hget, _⟩ := I.pin (a, oe) (List.mem_append.mpr (.inl List.mem_cons_self))
      obtain ⟨vs, hv⟩ := hf
      have hx : ObjOk X.prog X.w H s.heap dd (.xd fs) := I.hok dd _ eH
      obtain ⟨mA, hns, hr⟩ := hx
      obtain ⟨od, ho, hl⟩ := lookIn_ns hns
      have J : PySem.W.InstAt s.heap a oe D (some od) := by
        obtain ⟨oc, odd, oda, osl⟩ := oe
        obtain ⟨h1, h2⟩ := hz
        dsimp only at h1 h2 hv
        subst h1 h2 hv
        exact ⟨hget, rfl, rfl, ho⟩
      have hcl : (PySem.W.clsIn X.K D).isSome = true := by
        obtain ⟨cd, hc, _⟩ := PySem.W.any_some C.e.hd
        rw [hc]
        rfl
      exact PySem.W.kia_one (PySem.W.kitx_exc hcl C.e.hg C.e.hk C.e.hs C.e.ha C.e.hn C.e.ht C.e.hm) I.kIn J C.k (fun z => nomatch z) fun tk => ⟨.bl true, H, I.kept (t' := tk) fun _ _ z => z, rfl, q⟩
end Lt

set_option Elab.async false
set_option linter.all false
set_option maxRecDepth 100000
set_option maxHeartbeats 4000000
namespace Lt
open PySem PySem.Spec PyProof.Rows L2
/-! ## the head's facts of an own error -/
/-- an error class x with the field f, its __init__ the def st with the qualified name q -/
structure ErrD where
  x : Str
  f : Str
  q : Str
  st : Stmt
/-- its __init__ stands at -/
abbrev ErrD.at_ (K : PySem.W.Frag) (d : ErrD) : Addr := He.ma K (He.ga K d.x) "__init__"
abbrev InV : Type := Option (Str × Str × Arguments × FuncBody × Scope × Addr × List Str × Value × Value × Addr)
def inObs (K : PySem.W.Frag) (d : ErrD) : InV := match K.lookup (d.at_ K) with
  | some ⟨_, _, .func fd, _⟩ => some (fd.name, fd.qualname, fd.params, fd.body, fd.scope, fd.globals, fd.closure.map (·.1), fd.defaults, fd.kwdefaults, fd.builtins)
  | _ => none
def ErrD.val (d : ErrD) : InV := some ("__init__", d.q, defArgs d.st, .stmts (defBody d.st), defScope d.st, mainGlobals, ["__class__"], .none, .none, builtinsNs)
def clsB (K : PySem.W.Frag) (C : Addr) : Bool := match K.lookup C with
  | some ⟨.type t, _, .cls cd, sl⟩ => decide (t = "type") && (match cd.mro, sl.toList with
    | .ref C' :: bm, [_, _, _, _, some (.builtin n), _] => decide (C' = C) && (decide (n = "ValueError.__new__") && (!cd.hasDel && (cd.hasDict && PySem.HandSPX.refsVE bm)))
    | _, _ => false)
  | _ => false
def codB (K : PySem.W.Frag) (file : Str) (C fI : Addr) : Bool := match K.lookup fI with
  | some ⟨_, _, .func fd, _⟩ => PySem.W.codeIn K fd.code fd.qualname && ((match fd.code with
    | .ref c => (match K.lookup c with
      | some ⟨_, _, .fields vs, _⟩ => (match vs[2]? with
        | some (Value.str z _) => file == z
        | _ => false)
      | _ => false)
    | _ => false) && (match fd.closure with
    | [(_, cc)] => (match K.lookup cc with
      | some ⟨_, _, .cell (some (.ref D)), _⟩ => decide (D = C)
      | _ => false)
    | _ => false))
  | _ => false
def errB (K : PySem.W.Frag) (file : Str) (d : ErrD) : Bool :=
  let C := He.ga K d.x
  let fI := d.at_ K
  He.eqO (PySem.W.nsIn K mainGlobals d.x) (some (some (.ref C))) && (He.eqO (PySem.W.nsIn K mainGlobals "super") (some none) && (clsB K C && (He.eqO (PySem.W.findIn K (.ref C) "__setattr__") (some (some (.builtin "object.__setattr__"))) &&
  (He.eqO (PySem.W.findIn K (.ref C) "__getattribute__") (some (some (.builtin "BaseException.__getattribute__"))) && (He.eqO (PySem.W.findIn K (.ref C) "__getattr__") (some none) && (He.eqO (PySem.W.findIn K (.ref C) d.f) (some none) &&
  (He.eqO (PySem.W.findIn K (.ref C) "__init__") (some (some (.ref fI))) && (decide (PySem.W.typeIn K (.ref fI) = some (.type "function")) && (PySem.W.keepIn K (.ref C) && (decide (PySem.W.subIn K (.ref C) (.type "BaseException") = some true) &&
  (decide (PySem.W.typeIn K (.ref C) = some (.type "type")) && (PySem.W.hasDictIn K C && (decide (PySem.W.exmOne K (.ref C) (.ref C) = some true) && (He.eqO (PySem.W.nsIn K cStatics "thirdparty.any") (some none) &&
  (He.eqO (PySem.W.ks_superIn K C C "__init__") (some (some (.builtin "ValueError.__init__"))) && (decide (PySem.W.subIn K (.ref C) (.type "ValueError") = some true) && (decide (PySem.W.mroIn K C (.ref C) = some true) && codB K file C fI)))))))))))))))))
theorem clsB_ok {K : PySem.W.Frag} {C : Addr} (h : clsB K C = true) : ∃ nm q N bs bm sn sub ab col dd k0 k1 k2 k3 k5, K.lookup C = some (excClassObj nm q C N bs bm true sn sub ab col dd k0 k1 k2 k3 k5 "ValueError.__new__") ∧ PySem.HandSPX.refsVE bm = true := by
  unfold clsB at h
  split at h
  · rename_i t dd cd sl ho
    obtain ⟨ht, h2⟩ := He.ba h
    have ht := of_decide_eq_true ht
    subst ht
    split at h2
    · rename_i C' bm k0 k1 k2 k3 n k5 hm hs
      obtain ⟨h3, h4⟩ := He.ba h2
      obtain ⟨h5, h6⟩ := He.ba h4
      obtain ⟨h7, h8⟩ := He.ba h6
      obtain ⟨h9, h10⟩ := He.ba h8
      have e1 := of_decide_eq_true h3
      have e2 := of_decide_eq_true h5
      subst e1 e2
      obtain ⟨nm, bs, mro, ns, qn, hd, sn, sb, ab, col, del⟩ := cd
      dsimp only at hm h7 h9
      subst hm
      simp only [Bool.not_eq_true'] at h7
      subst h7 h9
      have e3 : sl = #[k0, k1, k2, k3, some (.builtin "ValueError.__new__"), k5] := Array.toList_inj.mp hs
      subst e3
      exact ⟨_, _, _, _, bm, _, _, _, _, _, _, _, _, _, _, ho, h10⟩
    · cases h2
  · cases h
theorem err_ok {P : Program} {K : PySem.W.Frag} {h : Heap} {mg : Str → Option Value} {d : ErrD} {msg : Str} {p : EPos} (X : K.In h) (G : h.Ns mainGlobals mg) (fok : FOk d.f) (htop : (P.main.scope.names.lookup ("super" : Str)).isSome = false)
    (hA : defArgs d.st = eA d.f p) (hB : defBody d.st = eB d.f msg p) (hS : defScope d.st = eS d.f) (hl : (p.e.endLine == p.g.line) = true) (e : inObs K d = d.val) (c : errB K P.main.file d = true) :
    ErrTxt P K mg d.x d.f msg (He.ga K d.x) (d.at_ K) := by
  unfold errB at c
  obtain ⟨c1, c⟩ := He.ba c
  obtain ⟨c2, c⟩ := He.ba c
  obtain ⟨c3, c⟩ := He.ba c
  obtain ⟨c4, c⟩ := He.ba c
  obtain ⟨c5, c⟩ := He.ba c
  obtain ⟨c6, c⟩ := He.ba c
  obtain ⟨c7, c⟩ := He.ba c
  obtain ⟨c8, c⟩ := He.ba c
  obtain ⟨c9, c⟩ := He.ba c
  obtain ⟨c10, c⟩ := He.ba c
  obtain ⟨c11, c⟩ := He.ba c
  obtain ⟨c12, c⟩ := He.ba c
  obtain ⟨c13, c⟩ := He.ba c
  obtain ⟨c14, c⟩ := He.ba c
  obtain ⟨c15, c⟩ := He.ba c
  obtain ⟨c16, c⟩ := He.ba c
  obtain ⟨c17, c⟩ := He.ba c
  obtain ⟨c18, c19⟩ := He.ba c
  refine ⟨PySem.W.mg_of X G (He.eqO_ok c1), PySem.W.mg_none_of X G (He.eqO_ok c2), fok, clsB_ok c3, He.eqO_ok c4, He.eqO_ok c5, He.eqO_ok c6, He.eqO_ok c7, He.eqO_ok c8, of_decide_eq_true c9, c10, of_decide_eq_true c11, of_decide_eq_true c12, c13, of_decide_eq_true c14, He.eqO_ok c15, He.eqO_ok c16, of_decide_eq_true c17, of_decide_eq_true c18, htop, ?_⟩
  unfold codB at c19
  unfold inObs at e
  split at c19
  · rename_i oc od fd osl ho
    rw [ho] at e
    obtain ⟨k1, c20⟩ := He.ba c19
    obtain ⟨k2, k3⟩ := He.ba c20
    obtain ⟨n1, n2, n3, n4, n5, n6, n7, n8, n9, n10, n11, n12, n13, n14, n15⟩ := fd
    have e2 : (some (n1, n2, n3, n4, n5, n6, n7.map (·.1), n8, n9, n15) : InV) = d.val := e
    unfold ErrD.val at e2
    simp only [Option.some.injEq, Prod.mk.injEq] at e2
    obtain ⟨h1, h2, h3, h4, h5, h6, h7, h8, h9, h10⟩ := e2
    subst h1 h2 h3 h4 h5 h6 h8 h9 h10
    dsimp only at k1 k2 k3
    split at k2
    · rename_i cda
      split at k2
      · rename_i ccl cdd vs ccs hcode
        split at k2
        · rename_i z tf hvs
          split at k3
          · rename_i xx cc
            have hx : xx = "__class__" := by simpa using h7
            subst hx
            split at k3
            · rename_i cl cld D csl hcell
              have eD := of_decide_eq_true k3
              subst eD
              rw [hA, hB, hS] at ho
              exact ⟨_, _, _, p, _, _, _, cda, cc, _, _, _, _, vs, _, z, tf, _, _, _, ho, k1, hcode, hvs, k2, hcell, hl⟩
            · cases k3
          · cases k3
        · cases k2
      · cases k2
    · cases k2
  · cases c19
/-! ### the Hook: the defs, and the errors besides -/
def asQ (g : Addr → Option Obj) (n : Nat) : List Addr := He.asD g n ++ [cStatics, sysModules]
abbrev AlQ : Type := He.AlD × Bool × List InV
def obsQ (fa : List He.Fa) (fn : List He.DefD) (file : Str) (es : List ErrD) (ex : PySem.W.Frag → Bool) (K : PySem.W.Frag) : AlQ := (He.obsD fa fn K, (es.all fun d => errB K file d) && ex K, es.map fun d => inObs K d)
def valQ (fn : List He.DefD) (es : List ErrD) : AlQ := (He.valD fn, true, es.map ErrD.val)
def SaysQ (fa : List He.Fa) (fn : List He.DefD) (file : Str) (es : List ErrD) (ex : PySem.W.Frag → Bool) (K : PySem.W.Frag) : Prop := obsQ fa fn file es ex K = valQ fn es
def obsQG (n : Nat) (fa : List He.Fa) (fn : List He.DefD) (file : Str) (es : List ErrD) (ex : PySem.W.Frag → Bool) (g : Addr → Option Obj) : AlQ := obsQ fa fn file es ex (He.frG g (asQ g n))
def hookQ (n : Nat) (fa : List He.Fa) (fn : List He.DefD) (file : Str) (es : List ErrD) (ex : PySem.W.Frag → Bool) : PySem.W.Hook where
  α := AlQ
  obs := fun s => obsQG n fa fn file es ex s.heap.get?
  val := fun _ => valQ fn es
  says := fun _ h => ∃ K : PySem.W.Frag, K.In h ∧ SaysQ fa fn file es ex K
  of := fun _ _ e => ⟨_, He.frG_in, e⟩
  keeps := fun _ _ _ ⟨K, hK, c⟩ k => ⟨K, PySem.W.Frag.In.keeps hK k, c⟩
theorem obsQG_eq {n : Nat} {fa : List He.Fa} {fn : List He.DefD} {file : Str} {es : List ErrD} {ex : PySem.W.Frag → Bool} {g : Addr → Option Obj} {s : Shared} (h : ∀ a, g a = s.heap.get? a) : obsQG n fa fn file es ex g = (hookQ n fa fn file es ex).obs s := by
  have e : g = s.heap.get? := funext h
  rw [e] <;> rfl
section
variable {fa : List He.Fa} {fn : List He.DefD} {file : Str} {es : List ErrD} {ex : PySem.W.Frag → Bool} {K : PySem.W.Frag}
theorem SaysQ.d (c : SaysQ fa fn file es ex K) : He.SaysD fa fn K := congrArg (fun z : AlQ => z.1) c
theorem SaysQ.b (c : SaysQ fa fn file es ex K) (i : Nat) {d : ErrD} (h : es[i]? = some d := by rfl) : errB K file d = true := by
  have c2 := (He.ba (show ((es.all fun d => errB K file d) && ex K) = true from congrArg (fun z : AlQ => z.2.1) c)).1
  exact List.all_eq_true.mp c2 d (List.mem_of_getElem? h)
theorem SaysQ.x (c : SaysQ fa fn file es ex K) : ex K = true := (He.ba (show ((es.all fun d => errB K file d) && ex K) = true from congrArg (fun z : AlQ => z.2.1) c)).2
theorem SaysQ.i (c : SaysQ fa fn file es ex K) (i : Nat) {d : ErrD} (h : es[i]? = some d := by rfl) : inObs K d = d.val := by
  have e : es.map (fun d => inObs K d) = es.map ErrD.val := congrArg (fun z : AlQ => z.2.2) c
  have e2 : (es.map fun d => inObs K d)[i]? = (es.map ErrD.val)[i]? := by rw [e]
  rw [List.getElem?_map, List.getElem?_map, h] at e2
  exact Option.some.inj e2
end
/-- the i-th def of a class's body -/
def inDef (i : Nat) (s : Stmt) : Stmt := match s with
  | .ClassDef _ _ _ body .. => body.getD i (.Pass ⟨0, 0, 0, 0⟩)
  | _ => .Pass ⟨0, 0, 0, 0⟩
end Lt

set_option Elab.async false
set_option linter.all false
set_option maxRecDepth 100000
set_option maxHeartbeats 0
namespace Lt
open PySem PySem.Spec PyProof.Rows L2
def dd_is_place : He.DefD := ⟨("is_place", none), "is_place", "is_place", defArgs s_is_place, defBody s_is_place, defScope s_is_place, [], []⟩
def dd_is_pair : He.DefD := ⟨("is_pair", none), "is_pair", "is_pair", defArgs s_is_pair, defBody s_is_pair, defScope s_is_pair, [], []⟩
def dd_has_web_form : He.DefD := ⟨("has_web_form", none), "has_web_form", "has_web_form", defArgs s_has_web_form, defBody s_has_web_form, defScope s_has_web_form, [], []⟩
def dd_web_error : He.DefD := ⟨("web_error", none), "web_error", "web_error", defArgs s_web_error, defBody s_web_error, defScope s_web_error, [], []⟩
def dd__law_stock : He.DefD := ⟨("_law_stock", none), "_law_stock", "_law_stock", defArgs s__law_stock, defBody s__law_stock, defScope s__law_stock, [], []⟩
def dd__law_draw : He.DefD := ⟨("_law_draw", none), "_law_draw", "_law_draw", defArgs s__law_draw, defBody s__law_draw, defScope s__law_draw, [], []⟩
def dd__law_pick : He.DefD := ⟨("_law_pick", none), "_law_pick", "_law_pick", defArgs s__law_pick, defBody s__law_pick, defScope s__law_pick, [], []⟩
def dd__law_shuffled : He.DefD := ⟨("_law_shuffled", none), "_law_shuffled", "_law_shuffled", defArgs s__law_shuffled, defBody s__law_shuffled, defScope s__law_shuffled, [], []⟩
def dd__law_pairs : He.DefD := ⟨("_law_pairs", none), "_law_pairs", "_law_pairs", defArgs s__law_pairs, defBody s__law_pairs, defScope s__law_pairs, [], []⟩
def dd__law_named : He.DefD := ⟨("_law_named", none), "_law_named", "_law_named", defArgs s__law_named, defBody s__law_named, defScope s__law_named, [], []⟩
def dd__law_web : He.DefD := ⟨("_law_web", none), "_law_web", "_law_web", defArgs s__law_web, defBody s__law_web, defScope s__law_web, [], []⟩
def dd__law_is_whole : He.DefD := ⟨("_law_is_whole", none), "_law_is_whole", "_law_is_whole", defArgs s__law_is_whole, defBody s__law_is_whole, defScope s__law_is_whole, [], []⟩
def dd__law_fault : He.DefD := ⟨("_law_fault", none), "_law_fault", "_law_fault", defArgs s__law_fault, defBody s__law_fault, defScope s__law_fault, [], []⟩
def dd__law_odd : He.DefD := ⟨("_law_odd", none), "_law_odd", "_law_odd", defArgs s__law_odd, defBody s__law_odd, defScope s__law_odd, [], []⟩
def dd__law_spoilt : He.DefD := ⟨("_law_spoilt", none), "_law_spoilt", "_law_spoilt", defArgs s__law_spoilt, defBody s__law_spoilt, defScope s__law_spoilt, [], []⟩
def dd_law : He.DefD := ⟨("law", none), "law", "law", defArgs s_law, defBody s_law, defScope s_law, [], []⟩
def fnL : List He.DefD := [dd_is_place, dd_is_pair, dd_has_web_form, dd_web_error, dd__law_stock, dd__law_draw, dd__law_pick, dd__law_shuffled, dd__law_pairs, dd__law_named, dd__law_web, dd__law_is_whole, dd__law_fault, dd__law_odd, dd__law_spoilt, dd_law]
def faL : List He.Fa := [.glo "is_place", .glo "is_pair", .glo "has_web_form", .glo "web_error", .glo "_law_stock", .glo "_law_draw", .glo "_law_pick", .glo "_law_shuffled", .glo "_law_pairs", .glo "_law_named", .glo "_law_web", .glo "_law_is_whole", .glo "_law_fault", .glo "_law_odd", .glo "_law_spoilt", .glo "law", .free "int", .free "type", .free "tuple", .free "len", .free "enumerate", .free "range", .free "sum", .free "list", .free "sorted", .free "min", .free "max", .free "isinstance", .free "bool", .free "str", .free "dict", .free "repr", .int "MAX_PLACES" 12]
def esL : List ErrD := []
abbrev RR : PySem.W.OpenRow := PySem.W.OpenLaw.row PySem.Challenge.rw_liftedties_k01_what_is_a_web
abbrev PP : Program := (PySem.Challenge.rw_liftedties_k01_what_is_a_web).prog
def exL (K : PySem.W.Frag) : Bool := sysB K
abbrev hkL : PySem.W.Hook := hookQ 4 faL fnL PP.main.file esL exL
def obL (s : PySem.W.SharedT) : AlQ := obsQG 4 faL fnL PP.main.file esL exL (HandSHeadRun.getT s)
theorem obL_eq (s : PySem.W.SharedT) : obL s = hkL.obs s.abs := obsQG_eq (HandSHeadRun.getT_eq s)
theorem runL (w : World) : HandSHeadRun.RunEq RR (PySem.W.view RR.prog [18]) hkL obL 9000 ("is_place" :: "is_pair" :: "has_web_form" :: "web_error" :: "_law_stock" :: "_law_draw" :: "_law_pick" :: "_law_shuffled" :: "_law_pairs" :: "_law_named" :: "_law_web" :: "_law_is_whole" :: "_law_fault" :: "_law_odd" :: "_law_spoilt" :: "MAX_PLACES" :: ([] : List PySem.Str)) w := by
  intro os
  kernel_rfl
theorem top_super : (PP.main.scope.names.lookup ("super" : Str)).isSome = false := by kernel_rfl
theorem factsL {w : World} {K : PySem.W.Frag} {h : Heap} {mg : Str → Option Value} {f : Addr} (X : K.In h) (G : h.Ns mainGlobals mg) (hfa : mg ("law" : Str) = some (.ref f)) (cq : SaysQ faL fnL PP.main.file esL exL K) :
    ∃ fd : FuncData, (∀ (s : Shared) (v : Value), BindsTo s fd ⟨[v], []⟩ [("script", v)]) ∧ ∀ base : Heap, K.In base → base.Ns mainGlobals mg → FnG PP w K mg base CX0 5 f fd ["script"] (spLaw K) := by
  have c := cq.d
  obtain ⟨fd_is_place, F_is_place⟩ := c.def_ 0 (d := dd_is_place) rfl
  obtain ⟨fd_is_pair, F_is_pair⟩ := c.def_ 1 (d := dd_is_pair) rfl
  obtain ⟨fd_has_web_form, F_has_web_form⟩ := c.def_ 2 (d := dd_has_web_form) rfl
  obtain ⟨fd_web_error, F_web_error⟩ := c.def_ 3 (d := dd_web_error) rfl
  obtain ⟨fd__law_stock, F__law_stock⟩ := c.def_ 4 (d := dd__law_stock) rfl
  obtain ⟨fd__law_draw, F__law_draw⟩ := c.def_ 5 (d := dd__law_draw) rfl
  obtain ⟨fd__law_pick, F__law_pick⟩ := c.def_ 6 (d := dd__law_pick) rfl
  obtain ⟨fd__law_shuffled, F__law_shuffled⟩ := c.def_ 7 (d := dd__law_shuffled) rfl
  obtain ⟨fd__law_pairs, F__law_pairs⟩ := c.def_ 8 (d := dd__law_pairs) rfl
  obtain ⟨fd__law_named, F__law_named⟩ := c.def_ 9 (d := dd__law_named) rfl
  obtain ⟨fd__law_web, F__law_web⟩ := c.def_ 10 (d := dd__law_web) rfl
  obtain ⟨fd__law_is_whole, F__law_is_whole⟩ := c.def_ 11 (d := dd__law_is_whole) rfl
  obtain ⟨fd__law_fault, F__law_fault⟩ := c.def_ 12 (d := dd__law_fault) rfl
  obtain ⟨fd__law_odd, F__law_odd⟩ := c.def_ 13 (d := dd__law_odd) rfl
  obtain ⟨fd__law_spoilt, F__law_spoilt⟩ := c.def_ 14 (d := dd__law_spoilt) rfl
  obtain ⟨fd_law, F_law⟩ := c.def_ 15 (d := dd_law) rfl
  have e := hfa.symm.trans (He.glo_ok X G (c.fact 15 (f := .glo "law") rfl))
  cases e
  have b := FunD.bindsA (ps := ["script"]) F_law fun _ _ _ _ _ _ us hl => match us, hl with | [_], _ => rfl
  refine ⟨fd_law, fun s v => b s [v] rfl, fun base _ _ => ?_⟩
  have m_is_place := He.glo_ok X G (c.fact 0 (f := .glo "is_place") rfl)
  have m_is_pair := He.glo_ok X G (c.fact 1 (f := .glo "is_pair") rfl)
  have m_has_web_form := He.glo_ok X G (c.fact 2 (f := .glo "has_web_form") rfl)
  have m_web_error := He.glo_ok X G (c.fact 3 (f := .glo "web_error") rfl)
  have m__law_stock := He.glo_ok X G (c.fact 4 (f := .glo "_law_stock") rfl)
  have m__law_draw := He.glo_ok X G (c.fact 5 (f := .glo "_law_draw") rfl)
  have m__law_pick := He.glo_ok X G (c.fact 6 (f := .glo "_law_pick") rfl)
  have m__law_shuffled := He.glo_ok X G (c.fact 7 (f := .glo "_law_shuffled") rfl)
  have m__law_pairs := He.glo_ok X G (c.fact 8 (f := .glo "_law_pairs") rfl)
  have m__law_named := He.glo_ok X G (c.fact 9 (f := .glo "_law_named") rfl)
  have m__law_web := He.glo_ok X G (c.fact 10 (f := .glo "_law_web") rfl)
  have m__law_is_whole := He.glo_ok X G (c.fact 11 (f := .glo "_law_is_whole") rfl)
  have m__law_fault := He.glo_ok X G (c.fact 12 (f := .glo "_law_fault") rfl)
  have m__law_odd := He.glo_ok X G (c.fact 13 (f := .glo "_law_odd") rfl)
  have m__law_spoilt := He.glo_ok X G (c.fact 14 (f := .glo "_law_spoilt") rfl)
  have m_law := He.glo_ok X G (c.fact 15 (f := .glo "law") rfl)
  have g_int := He.free_ok X G (c.fact 16 (f := .free "int") rfl)
  have g_type := He.free_ok X G (c.fact 17 (f := .free "type") rfl)
  have g_tuple := He.free_ok X G (c.fact 18 (f := .free "tuple") rfl)
  have g_len := He.free_ok X G (c.fact 19 (f := .free "len") rfl)
  have g_enumerate := He.free_ok X G (c.fact 20 (f := .free "enumerate") rfl)
  have g_range := He.free_ok X G (c.fact 21 (f := .free "range") rfl)
  have g_sum := He.free_ok X G (c.fact 22 (f := .free "sum") rfl)
  have g_list := He.free_ok X G (c.fact 23 (f := .free "list") rfl)
  have g_sorted := He.free_ok X G (c.fact 24 (f := .free "sorted") rfl)
  have g_min := He.free_ok X G (c.fact 25 (f := .free "min") rfl)
  have g_max := He.free_ok X G (c.fact 26 (f := .free "max") rfl)
  have g_isinstance := He.free_ok X G (c.fact 27 (f := .free "isinstance") rfl)
  have g_bool := He.free_ok X G (c.fact 28 (f := .free "bool") rfl)
  have g_str := He.free_ok X G (c.fact 29 (f := .free "str") rfl)
  have g_dict := He.free_ok X G (c.fact 30 (f := .free "dict") rfl)
  have g_repr := He.free_ok X G (c.fact 31 (f := .free "repr") rfl)
  obtain ⟨tk_MAX_PLACES, M_MAX_PLACES⟩ := He.int_ok X G (c.fact 32 (f := .int "MAX_PLACES" 12) rfl)
  have sd : SysD K := sysB_ok cq.x
  have G_is_place := ok_is_placeY (P := PP) (w := w) (mg := mg) (base := base) F_is_place g_int g_type
  have G_is_pair := ok_is_pairY (P := PP) (w := w) (mg := mg) (base := base) F_is_pair g_tuple g_type g_len F_is_place m_is_place G_is_place
  have G_has_web_form := ok_formY (P := PP) (w := w) (mg := mg) (base := base) F_has_web_form g_tuple g_int g_type g_len M_MAX_PLACES
  have G_web_error := ok_web_errorY (P := PP) (w := w) (mg := mg) (base := base) F_web_error g_enumerate g_range g_len F_has_web_form m_has_web_form F_is_pair m_is_pair G_has_web_form G_is_pair
  have G__law_stock := ok_stock (P := PP) (w := w) (mg := mg) (base := base) F__law_stock g_sum g_len
  have G__law_draw := ok_draw (P := PP) (w := w) (mg := mg) (base := base) F__law_draw g_int g_len
  have G__law_pick := ok_pickV (P := PP) (w := w) (mg := mg) (base := base) F__law_pick g_len F__law_draw m__law_draw G__law_draw
  have G__law_shuffled := ok_shuffled (P := PP) (w := w) (mg := mg) (base := base) F__law_shuffled g_range g_list g_len F__law_draw m__law_draw G__law_draw
  have G__law_pairs := ok_law_pairs (P := PP) (w := w) (mg := mg) (base := base) F__law_pairs g_range
  have G__law_named := ok_named (P := PP) (w := w) (mg := mg) (base := base) F__law_named g_tuple g_sorted g_min g_max
  have G__law_web := ok_web (P := PP) (w := w) (mg := mg) (base := base) F__law_web g_list g_range g_int F__law_named m__law_named F__law_draw m__law_draw F__law_pairs m__law_pairs F__law_shuffled m__law_shuffled G__law_draw G__law_pairs G__law_named G__law_shuffled
  have G__law_is_whole := ok_wholeY (P := PP) (w := w) (mg := mg) (base := base) F__law_is_whole g_isinstance g_int g_bool
  have G__law_fault := ok_faultY (P := PP) (w := w) (mg := mg) (base := base) F__law_fault g_enumerate g_range g_len g_isinstance g_tuple F__law_is_whole m__law_is_whole G__law_is_whole
  have G__law_odd := ok_oddV (P := PP) (w := w) (mg := mg) (base := base) F__law_odd g_str F__law_pick m__law_pick G__law_pick
  have G__law_spoilt := ok_spoilt (P := PP) (w := w) (mg := mg) (base := base) F__law_spoilt g_max g_str g_list g_dict g_len F__law_draw m__law_draw F__law_pick m__law_pick F__law_odd m__law_odd G__law_draw G__law_pick G__law_odd
  have G_law := ok_law (P := PP) (w := w) (mg := mg) (base := base) F_law g_range g_tuple g_repr F__law_stock m__law_stock F__law_web m__law_web F__law_spoilt m__law_spoilt F_web_error m_web_error F__law_pairs m__law_pairs F__law_fault m__law_fault sd G__law_stock G__law_web G__law_spoilt G__law_fault G_web_error G__law_pairs
  exact G_law
end Lt
open PySem PySem.W PySem.Calls PyProof.Rows
theorem PySem.Challenge.cw_liftedties_k01_what_is_a_web_holds : PySem.Challenge.rw_liftedties_k01_what_is_a_web.Holds := by
  w_on; o_law
  refine HandSHeadRun.head_any (r := OpenLaw.row PySem.Challenge.rw_liftedties_k01_what_is_a_web) (q := view (OpenLaw.row PySem.Challenge.rw_liftedties_k01_what_is_a_web).prog [18]) (H := Lt.hkL) (ob := Lt.obL) (M := 9000) (loose := ("is_place" :: "is_pair" :: "has_web_form" :: "web_error" :: "_law_stock" :: "_law_draw" :: "_law_pick" :: "_law_shuffled" :: "_law_pairs" :: "_law_named" :: "_law_web" :: "_law_is_whole" :: "_law_fault" :: "_law_odd" :: "_law_spoilt" :: "MAX_PLACES" :: ([] : List PySem.Str))) (d := HandSHeadRun.topDef (OpenLaw.row PySem.Challenge.rw_liftedties_k01_what_is_a_web).prog 18) (kwd := []) Lt.obL_eq
    (by kernel_rfl) (fun s => by kernel_rfl) Lt.runL (by kernel_rfl) (by kernel_rfl) (by kernel_rfl) (by rfl) (by first | assumption | decide +kernel) (by decide +kernel) ⟨rfl, rfl, rfl, rfl, rfl, by decide +kernel⟩ ?hw ?hc
  case hw => w_witness2
  case hc =>
    refine Lt.walk_ofG (l := PySem.Challenge.rw_liftedties_k01_what_is_a_web) (n := 63) (k := 5) (x := "script") rfl (by decide) (by kernel_rfl) ⟨rfl, by decide, by decide⟩ ?F
    intro w mg fa h Y G hmg0
    obtain ⟨K, KX, c⟩ := Y
    have hmg : mg ("law" : PySem.Str) = some (.ref fa) := by
      have e : (HandSHeadRun.topDef (OpenLaw.row PySem.Challenge.rw_liftedties_k01_what_is_a_web).prog 18).name = ("law" : PySem.Str) := by kernel_rfl
      rw [← e]
      exact hmg0
    obtain ⟨fd, hb, hF⟩ := Lt.factsL (w := w) KX G hmg c
    exact ⟨K, fd, Lt.spLaw K, KX, hb, fun H a ns hl hS => ⟨a, ns, rfl, hS, hl, fun _ => rfl⟩, hF⟩

