import PyProof.Rows.All
import Wide.All
import OpenK.AllK
import Wide.FinOn
import KE.KStateDown
import HandS.ForMost
import HandS.Flow
import HandS.Deep
import HandS.Defaults
import HandS.SortRule
import HandS.SortInts
import HandS.Walk
import KE.GoesEnum
import KE.GoesZip
import KE.GoesMore
import HandS.Zip
import KE.KTupSum
import HandS.Conv
import HandS.HeadEnd
import HandS.HeadHook1
import HandS.HeadHook2
import HandS.Head0
import HandS.Head1
import HandS.Head2
import PySem.Challenge.RW_liftedties_k02_whole_rows_numbers_and_ne
set_option Elab.async false
set_option linter.all false
set_option maxRecDepth 100000
set_option maxHeartbeats 2000000
namespace Lt
open PySem PySem.Spec PyProof.Rows L2
abbrev Slots := L2.St
/-! ## nobody's repr is under way: defs whose promise may use it -/
abbrev Still (A : Around) : Prop := A.guards = some []
structure FnG (P : Program) (w : World) (K : PySem.W.Frag) (mg : Str → Option Value) (base : Heap) (CX : CXT)
    (k : Nat) (f : Addr) (fd : FuncData) (ps : List Str) (sp : Sp) : Prop where
  arity : ∀ vs H Q E, sp vs H Q E → vs.length = ps.length
  go : ∀ (A : Around) (outer : List Env) (s : Shared) (H : Hp) (args : Args) (us : List Value) (vs : List V) (Q : VK) (E : XK),
    Still A → Room k A → Env0 P w K mg base A outer s H →
    BindsTo s fd args (ps.zip us) → Vals vs us → sp vs H Q E → codeAny (model P w) A (.call (.ref f) args) (CR CX outer P w H s Q E) s
section
variable {P : Program} {w : World} {K : PySem.W.Frag} {mg : Str → Option Value} {base : Heap} {CX : CXT}
  {k j : Nat} {f : Addr} {fd : FuncData} {ps : List Str} {sp : Sp}
theorem FnG.of (F : FnOk P w K mg base CX k f fd ps sp) : FnG P w K mg base CX k f fd ps sp :=
  ⟨F.len, fun A outer s H args us vs Q E _ => F.run A outer s H args us vs Q E⟩
theorem FnG.up (F : FnG P w K mg base CX j f fd ps sp) (h : j ≤ k) : FnG P w K mg base CX k f fd ps sp :=
  ⟨F.arity, fun A outer s H args us vs Q E g r => F.go A outer s H args us vs Q E g (r.mono h)⟩
end
section
variable {X : Cx} {CX : CXT} {k : Nat} {f : Addr} {fd : FuncData} {ps : List Str} {sp : Sp} {dvs : List V} {ds : List Value}
  {E : XK} {x : Str} {p pos : Pos} {e : Expr} {es : List Expr} {t : TA}
/-- what a call that has ended leaves to its caller -/
theorem back_ok {pins : List (Addr × Obj)} {σ : Slots} {H : Hp} {s : Shared} {Q : VK} (I : Inv X pins σ H s) {fl : Flow} {s' : Shared}
    (z : CR CX X.stack X.prog X.w H s Q E (.ok fl) s') : ∃ u, fl = .ret u ∧ EP X pins σ Q u s' := by
  cases fl
  case ret u => exact ⟨u, rfl, I.after z⟩
  all_goals exact z.elim
theorem goG {pins : List (Addr × Obj)} {σ : Slots} {H : Hp} {s : Shared} {Q : VK} {us ws : List Value} {vs : List V} {kw : List (Str × Value)}
    (F : FnG X.prog X.w X.K X.mg X.base CX k f fd ps sp) (hg : Still X.A) (hr : Room k X.A) (hx : Passes CX X E) (I : Inv X pins σ H s)
    (hb : ws.length = ps.length → BindsTo s fd ⟨us, kw⟩ (ps.zip ws)) (rv : Vals vs ws) (h : sp vs H Q E) :
    wpAny (model X.prog X.w) X.A (call (.ref f) us kw) (EP X pins σ Q) X.xe s := by
  have hlen : ws.length = ps.length := rv.length.symm.trans (F.arity _ _ _ _ h)
  have run := F.go X.A X.stack s H ⟨us, kw⟩ ws vs Q E hg hr I.env0 (hb hlen) rv h
  refine wpAny_call (codeAny_mono run fun r s' z => ?_)
  rcases r with er | fl
  · exact hx pins σ H s er s' I z
  · obtain ⟨u, rfl, q⟩ := back_ok I z
    exact q
theorem pe_callG (F : FnG X.prog X.w X.K X.mg X.base CX k f fd ps sp) (hs : Still X.A) (hr : Room k X.A) (hg : Gl X x) (hm : X.mg x = some (.ref f))
    (hk : PySem.W.keepIn X.K (.ref f) = true) (hb : Binds X.K fd ps ds) (hd : Vals dvs ds) (hx : Passes CX X E) (ha : PA X (e :: es) t)
    (hdb : (x == ("__debug__" : Str)) = false := by decide) (he : starEach (e :: es) X.env = (false, eval e X.env) :: starEach es X.env := by rfl)
    (hpl : (backTo pos (starEach es X.env)).any (·.1) = false := by rfl) : PE X (.Call (.Name x p) (e :: es) [] pos) (tCall sp dvs E t) := by
  constructor
  intro pins s σ H Q I h
  apply wpAny_Call_Name_kw
  apply ld_glob I hg hm ?_ hdb
  apply PySem.W.callWith_K (h₀ := X.base) I.ok.mod.kin hk ?_ he hpl
  refine thn (ha.run pos pins s σ H _ I h) ?_
  rintro us s1 ⟨vs, H1, I1, r, q⟩
  exact ⟨I1.kIn, goG F hs hr hx I1 (fun hl => hb s1 us I1.kIn hl) (r.append hd) q⟩
/-- how a call by names alone binds: the values ws of the names ks, put in the parameters' order by g -/
structure NBinds (K : PySem.W.Frag) (fd : FuncData) (ps ks : List Str) (g : {α : Type} → List α → List α) : Prop where
  to : ∀ (s : Shared) (ws : List Value), K.In s.heap → (g ws).length = ps.length → BindsTo s fd ⟨[], ks.zip ws⟩ (ps.zip (g ws))
  rel : ∀ {zs : List V} {ws : List Value}, Vals zs ws → Vals (g zs) (g ws)
def tCallN (sp : Sp) (g : {α : Type} → List α → List α) (E : XK) (tk : TA) : TE := fun σ H Q => tk σ H fun zs H1 => sp (g zs) H1 Q E
theorem pe_callGN {kws : List Keyword} {tk : TA} {ks : List Str} {g : {α : Type} → List α → List α}
    (F : FnG X.prog X.w X.K X.mg X.base CX k f fd ps sp) (hs : Still X.A) (hr : Room k X.A) (hg : Gl X x) (hm : X.mg x = some (.ref f))
    (hk : PySem.W.keepIn X.K (.ref f) = true) (hb : NBinds X.K fd ps ks g) (hx : Passes CX X E) (hkw : PK X kws tk)
    (hall : (backToKw pos (keywordEach kws X.env)).all (·.1.isSome) = true := by rfl) (hks : (backToKw pos (keywordEach kws X.env)).filterMap (·.1) = ks := by rfl)
    (hdb : (x == ("__debug__" : Str)) = false := by decide)
    (hpl : ((backTo pos (starEach [] X.env)).any (·.1) || (backToKw pos (keywordEach kws X.env)).any (·.1.isNone)) = false := by rfl) :
    PE X (.Call (.Name x p) [] kws pos) (tCallN sp g E tk) := by
  constructor
  intro pins s σ H Q I h
  apply wpAny_Call_Name_kw
  apply ld_glob I hg hm ?_ hdb
  apply PySem.W.callWith_KW0 (h₀ := X.base) I.ok.mod.kin hk hall ?_ hpl
  refine thn (hkw.run pos pins s σ H _ I h) ?_
  rintro ws s1 ⟨zs, H1, I1, r, q⟩
  refine ⟨I1.kIn, ?_⟩
  rw [hks]
  exact goG F hs hr hx I1 (fun hl => hb.to s1 ws I1.kIn hl) (hb.rel r) q
end
/-! ## a def's body, where nobody's repr is under way -/
section
variable {P : Program} {w : World} {K : PySem.W.Frag} {mg : Str → Option Value} {base : Heap} {CX : CXT} {x qual : Str} {params : Arguments}
  {body : List Stmt} {scope : Scope} {dvs : List V} {kws : List (Str × V)} {f : Addr} {fd : FuncData} {N ps : List Str} {k : Nat} {sp : Sp}
theorem par_kind {us : List Value} {n : Nat} (S : FnScope N ps scope) : ∀ y ∈ ps.zip us, scope.names.lookup y.1 = some .local ∨
    (scope.names.lookup y.1 = some .cell ∧ ((cellsFrom n scope.names []).lookup y.1).isSome = true) := by
  rintro ⟨m, v⟩ hy
  have hm : m ∈ ps := (List.of_mem_zip hy).1
  cases S.par m hm with
  | inl q => exact .inl q
  | inr q => exact .inr ⟨q, PySem.W.cellsFrom_some _ _ _ (.inl q)⟩
theorem okG (F : FunD K x qual params body scope dvs kws f fd) (S : FnScope N ps scope) (len : ∀ vs H Q E, sp vs H Q E → vs.length = ps.length)
    (bodyOk : ∀ (cdv : Value) (A : Around) (outer : List Env) (s : Shared) (H : Hp) (vs : List V) (Q : VK) (E : XK), Still A →
      Room k (A.deeper (envOfC qual scope s.heap.objs.size f cdv)) → sp vs H Q E →
      ∃ t, PSs (cxOf CX P w K mg base N qual scope f cdv A outer s H E) body t ∧ t { nx := fun _ H' => Q .non H', rt := Q } (start N vs) H) :
    FnG P w K mg base CX (k + 1) f fd ps sp := by
  obtain ⟨oc, od, dV, kV, doc, pm, an, cdv, ct, osl, rfl, lk, hcd, _, _⟩ := F.ex
  constructor
  · exact len
  intro A outer s H args us vs Q E hg hr e0 hb rv hsp
  have kept : ∀ b o, base.get? b = some o → s.heap.get? b = some o := fun b o e => (e0.bs b o e).1
  have KX : K.In s.heap := e0.mod.kin.keeps kept
  apply codeAny_call_function hr.depth (KX _ _ lk) rfl S.co S.gen rfl (PySem.W.codeRec_of KX hcd)
  apply hb
  refine wpAny_newFunctionEnv_cells S.kind (par_kind S) ?_
  rintro env rfl s1 ic
  refine ⟨(e0.mod.nolimit.keeps kept).keeps ic.toInCall.keep, codeAny_func ?_⟩
  obtain ⟨t, ht, hq⟩ := bodyOk cdv A outer s H vs Q E hg (hr.deeper _) hsp
  have I := inv_start (CX := CX) (P := P) (w := w) (K := K) (mg := mg) (base := base) (E := E) S hr.hd e0 (len _ _ _ _ hsp) rv ic
  refine wpAny_mono (ht.run [] s1 (start N vs) H _ I hq) ?_ (fun er s' z => z)
  intro fl s' z
  cases fl
  case ret u =>
    obtain ⟨v, σ', H', J, rv', q⟩ := z
    exact ⟨v, H', J.os, J.bare, J.base, J.hok, rv', q⟩
  case next =>
    obtain ⟨σ', H', J, q⟩ := z
    exact ⟨.non, H', J.os, J.bare, J.base, J.hok, rfl, q⟩
  all_goals
    obtain ⟨_, _, _, q⟩ := z
    exact q.elim
/-- the same of a def that lets no error out -/
theorem okG0 (F : FunD K x qual params body scope dvs kws f fd) (S : FnScope N ps scope) (len : ∀ vs H Q E, sp vs H Q E → vs.length = ps.length)
    (bodyOk : ∀ (cdv : Value) (A : Around) (outer : List Env) (s : Shared) (H : Hp) (vs : List V) (Q : VK) (E : XK), Still A →
      Room k (A.deeper (envOfC qual scope s.heap.objs.size f cdv)) → sp vs H Q E →
      ∃ t, PSs (cxOf CX P w K mg base N qual scope f cdv A outer s H E).nox body t ∧ t { nx := fun _ H' => Q .non H', rt := Q } (start N vs) H) :
    FnG P w K mg base CX (k + 1) f fd ps sp :=
  okG F S len fun cdv A outer s H vs Q E g r h => let ⟨t, a, b⟩ := bodyOk cdv A outer s H vs Q E g r h; ⟨t, a.nox, b⟩
theorem nbinds {ks : List Str} {g : {α : Type} → List α → List α} (F : FunD K x qual params body scope [] kws f fd)
    (h : ∀ (kV doc pm : Value) (an : Option Addr) (cdv ct : Value) (ws : List Value), (g ws).length = ps.length →
      bindArgs (PySem.W.fnOf x qual params body scope .none kV doc pm an cdv ct) ⟨[], ks.zip ws⟩ = pure (ps.zip (g ws)))
    (hrel : ∀ {zs : List V} {ws : List Value}, Vals zs ws → Vals (g zs) (g ws)) : NBinds K fd ps ks g := by
  obtain ⟨oc, od, dV, kV, doc, pm, an, cdv, ct, osl, rfl, lk, hcd, hD, hK⟩ := F.ex
  rcases hD with ⟨_, rfl⟩ | ⟨e, _⟩
  · exact ⟨fun s ws _ hl => .of_eq (h kV doc pm an cdv ct ws hl), hrel⟩
  · exact absurd rfl e
end
/-! ## the law's own end -/
section
variable {P : Program} {w : World} {K : PySem.W.Frag} {mg mb : Str → Option Value} {k : Nat} {fa a : Addr} {fd : FuncData} {x : Str} {sp : Sp}
  {s₁ : Shared} {vs : List Value} {ns : List Int}
theorem law_callG (KX : K.In s₁.heap) (hns : s₁.heap.Ns mainGlobals mg) (hb : s₁.heap.Ns builtinsNs mb) (hbb : ∀ x : Str, x ≠ "__name__" → mb x = bootBuiltins x)
    (hlim : s₁.heap.NoLimit) (hg : s₁.gens = #[]) (ha : s₁.heap.get? a = some { cls := .type "list", data := .seq vs.toArray }) (hi : IntsAre vs ns)
    (hl : ns.length ≤ sizeLine) (hr : Room k callerA) (F : ∀ base : Heap, K.In base → base.Ns mainGlobals mg → FnG P w K mg base CX0 k fa fd [x] sp)
    (hbind : ∀ (s : Shared) (u : Value), BindsTo s fd ⟨[u], []⟩ [(x, u)])
    (hsp : ∀ H : Hp, SqL K H a (ns.map V.int) → sp [.ref a] H (fun v _ => v = .bl true) fun _ _ _ => False) :
    codeAny (model P w) callerA (.call (.ref fa) ⟨[.ref a], []⟩)
      (fun r s' => r = .ok (.ret (.bool true)) ∧ OldK s₁.heap s'.heap ∧ s'.os = s₁.os ∧ AllBare s'.gens) s₁ := by
  have rv := vals_ints hi
  -- the script is tracked, locked, unless it is one of the module's own objects
  let ob : Obj := { cls := .type "list", data := .seq vs.toArray }
  let H : Hp := fun b => if b = a ∧ K.lookup a = none then some (.frz ob (.lst (ns.map V.int))) else none
  have hH : ∀ {b u}, H b = some u → b = a ∧ K.lookup a = none ∧ u = .frz ob (.lst (ns.map V.int)) := by
    intro b u e
    by_cases c : b = a ∧ K.lookup a = none
    · have e' := (if_pos c).symm.trans e
      exact ⟨c.1, c.2, (Option.some.inj e').symm⟩
    · have e' := (if_neg c).symm.trans e
      cases e'
  have hS : SqL K H a (ns.map V.int) := by
    cases c : K.lookup a with
    | none => exact .inl (.inr ⟨ob, if_pos ⟨rfl, c⟩⟩)
    | some o =>
      have e := KX a o c
      rw [ha] at e
      cases e
      exact .inr ⟨_, vs.toArray, _, c, rfl, rfl, rfl, by rw [List.size_toArray, hi.length]; exact hl, by simpa using rv⟩
  have hok : HOk P w H s₁.heap := by
    intro b u e
    obtain ⟨rfl, _, rfl⟩ := hH e
    exact ⟨ha, by rw [List.length_map]; exact hl, vs, _, rv, ha⟩
  have off : ∀ {b : Addr} {o : Obj}, K.lookup b = some o → H b = none := by
    intro b o e
    cases c : H b with
    | none => rfl
    | some u =>
      obtain ⟨rfl, n, _⟩ := hH c
      rw [n] at e
      cases e
  have offD : ∀ {b : Addr} {o : Obj} {es : Array DictEntry} {ep : Nat}, s₁.heap.get? b = some o → o.data = .dict es ep → H b = none := by
    intro b o es ep e d
    cases c : H b with
    | none => rfl
    | some u =>
      obtain ⟨rfl, _, _⟩ := hH c
      rw [ha] at e
      cases e
      cases d
  have ns_of : ∀ {b : Addr} {m : Str → Option Value}, s₁.heap.Ns b m → (hidT s₁.heap H).Ns b m := by
    rintro b m ⟨o, es, ep, e, d, r⟩
    exact ⟨o, es, ep, hidT_get e (offD e d), d, r⟩
  have kin : K.In (hidT s₁.heap H) := fun b o e => hidT_get (KX b o e) (off e)
  have md : Mod K mg (hidT s₁.heap H) := by
    obtain ⟨mc, h1, h2⟩ := hlim
    exact ⟨kin, ns_of hns, ⟨mb, ns_of hb, hbb⟩, mc, ns_of h1, h2⟩
  have e0 : Env0 P w K mg (hidT s₁.heap H) callerA [] s₁ H := by
    refine ⟨rfl, md, fun b o e => of_hidT e, Nat.le_of_eq (hidT_size _ _), trivial, ?_, hok, .of_eq hg⟩
    intro b z
    cases z
  have run := (F _ kin (ns_of hns)).go callerA [] s₁ H ⟨[.ref a], []⟩ [.ref a] [.ref a] _ _ rfl hr e0 (hbind s₁ (.ref a)) (.cons rfl .nil) (hsp H hS)
  refine codeAny_mono run ?_
  intro r s' z
  rcases r with er | fl
  · exact z.elim
  cases fl
  case ret u =>
    obtain ⟨v, H', os, bare, un, hok', rvu, q⟩ := z
    obtain rfl : v = .bl true := q
    obtain rfl : u = Value.bool true := rvu
    refine ⟨rfl, OldK.of_keep ?_, os, bare⟩
    intro b o e
    cases c : H b with
    | none =>
      refine un.keep b o e c ?_ (by simp)
      intro z
      cases z
    | some u =>
      obtain ⟨rfl, _, rfl⟩ := hH c
      have z2 := un.frzs _ ob _ c
      obtain ⟨e2, _⟩ := hok' _ _ z2
      rw [ha] at e
      cases e
      exact e2
  all_goals exact z.elim
theorem walk_ofG {l : PySem.W.OpenLaw} {n : Nat} {q : Program} {loose : List Str} {XP : (Str → Option Value) → Heap → Prop} {YP : World → Heap → Prop} {d : DefRec}
    (hn : l.most = some n) (hn2 : n ≤ sizeLine) (hdf : d.params.defaults = []) (hr : Room k callerA)
    (F : ∀ (w : World) (mg : Str → Option Value) (fa : Addr) (h : Heap), YP w h → h.Ns mainGlobals mg → mg d.name = some (.ref fa) →
      ∃ (K : PySem.W.Frag) (fd : FuncData) (sp : Sp), K.In h ∧ (∀ (s : Shared) (u : Value), BindsTo s fd ⟨[u], []⟩ [(x, u)]) ∧
        (∀ (H : Hp) (a : Addr) (ns : List Int), ns.length ≤ n → SqL K H a (ns.map V.int) → sp [.ref a] H (fun v _ => v = .bl true) fun _ _ _ => False) ∧
        ∀ base : Heap, K.In base → base.Ns mainGlobals mg → FnG l.prog w K mg base CX0 k fa fd [x] sp) :
    PySem.W.WalkO q loose XP YP l.row.toRowW d [] (fun f vs => PySem.call f vs) := by
  apply Att.attach_call hn hdf
  intro w s₀ s₁ mg mb fa o pm cd doc a vs ns G Y ho hd hcd hmg hobj hints hlen hg
  obtain ⟨K, fd, sp, KX, hb, hsp, hF⟩ := F w mg fa _ Y G.T.g hmg
  exact law_callG KX G.T.g G.T.b G.T.builtins G.T.nolimit hg hobj hints (Nat.le_trans hlen hn2) hr hF hb (fun H hS => hsp H a ns hlen hS)
end
end Lt

set_option Elab.async false
set_option linter.all false
set_option maxRecDepth 100000
set_option maxHeartbeats 2000000
namespace Lt
open PySem PySem.Spec PyProof.Rows L2
/-! ## data made of tuples alone -/
mutual
inductive Tp (H : Hp) : V → PyData → Prop
  | non : Tp H .non .none
  | bl (b : Bool) : Tp H (.bl b) (.bool b)
  | int (i : Int) : Tp H (.int i) (.int i)
  | str (x : Str) : Tp H (.str x) (.str x)
  | tup {a : Addr} {xs : List V} {ds : List PyData} : H a = some (.tup xs) → Tps H xs ds → Tp H (.ref a) (.tuple ds)
inductive Tps (H : Hp) : List V → List PyData → Prop
  | nil : Tps H [] []
  | cons {v : V} {vs : List V} {d : PyData} {ds : List PyData} : Tp H v d → Tps H vs ds → Tps H (v :: vs) (d :: ds)
end
section
variable {K : PySem.W.Frag} {H H' H'' : Hp}
mutual
theorem Tp.dp : ∀ {d : PyData} {v : V}, Tp H v d → Dp K H v d
  | _, _, .non => .non
  | _, _, .bl b => .bl b
  | _, _, .int i => .int i
  | _, _, .str x => .str x
  | _, _, .tup h t => .tup (SqT.of h) (Tps.dp t)
theorem Tps.dp : ∀ {ds : List PyData} {vs : List V}, Tps H vs ds → DpAll K H vs ds
  | _, _, .nil => .nil
  | _, _, .cons a b => .cons (Tp.dp a) (Tps.dp b)
end
mutual
theorem Tp.mv (e : ∀ b xs, H b = some (.tup xs) → H' b = some (.tup xs)) : ∀ {d : PyData} {v : V}, Tp H v d → Tp H' v d
  | _, _, .non => .non
  | _, _, .bl b => .bl b
  | _, _, .int i => .int i
  | _, _, .str x => .str x
  | _, _, .tup h t => .tup (e _ _ h) (Tps.mv e t)
theorem Tps.mv (e : ∀ b xs, H b = some (.tup xs) → H' b = some (.tup xs)) : ∀ {ds : List PyData} {vs : List V}, Tps H vs ds → Tps H' vs ds
  | _, _, .nil => .nil
  | _, _, .cons a b => .cons (Tp.mv e a) (Tps.mv e b)
end
theorem Tps.length : ∀ {vs : List V} {ds : List PyData}, Tps H vs ds → vs.length = ds.length
  | _, _, .nil => rfl
  | _, _, .cons _ t => congrArg (· + 1) (Tps.length t)
theorem Tps.at : ∀ {vs : List V} {ds : List PyData} {i : Nat} {v : V}, Tps H vs ds → vs[i]? = some v → ∃ d, ds[i]? = some d ∧ Tp H v d
  | _, _, 0, _, .cons a _, e => by
    cases e
    exact ⟨_, rfl, a⟩
  | _, _, i + 1, _, .cons _ t, e => Tps.at (i := i) t e
theorem Tps.atD : ∀ {vs : List V} {ds : List PyData} {i : Nat} {d : PyData}, Tps H vs ds → ds[i]? = some d → ∃ v, vs[i]? = some v ∧ Tp H v d
  | _, _, 0, _, .cons a _, e => by
    cases e
    exact ⟨_, rfl, a⟩
  | _, _, i + 1, _, .cons _ t, e => Tps.atD (i := i) t e
theorem Tps.app : ∀ {vs ws : List V} {ds es : List PyData}, Tps H vs ds → Tps H ws es → Tps H (vs ++ ws) (ds ++ es)
  | _, _, _, _, .nil, r => r
  | _, _, _, _, .cons a t, r => .cons a (Tps.app t r)
theorem Tps.one {v : V} {d : PyData} (h : Tp H v d) : Tps H [v] [d] := .cons h .nil
theorem Tps.take : ∀ {vs : List V} {ds : List PyData} (n : Nat), Tps H vs ds → Tps H (vs.take n) (ds.take n)
  | _, _, 0, _ => .nil
  | _, _, _ + 1, .nil => .nil
  | _, _, n + 1, .cons a t => .cons a (Tps.take n t)
theorem Tps.drop : ∀ {vs : List V} {ds : List PyData} (n : Nat), Tps H vs ds → Tps H (vs.drop n) (ds.drop n)
  | _, _, 0, h => h
  | _, _, _ + 1, .nil => .nil
  | _, _, n + 1, .cons _ t => Tps.drop n t
theorem Tps.erase : ∀ {vs : List V} {ds : List PyData} (n : Nat), Tps H vs ds → Tps H (vs.eraseIdx n) (ds.eraseIdx n)
  | _, _, _, .nil => .nil
  | _, _, 0, .cons _ t => t
  | _, _, n + 1, .cons a t => .cons a (Tps.erase n t)
theorem Tps.ints : ∀ ns : List Int, Tps H (ns.map V.int) (ns.map PyData.int)
  | [] => .nil
  | n :: ns => .cons (.int n) (Tps.ints ns)
theorem Tps.ints_inv : ∀ {vs : List V} {ns : List Int}, Tps H vs (ns.map PyData.int) → vs = ns.map V.int
  | _, [], .nil => rfl
  | _, n :: ns, .cons (.int _) t => by rw [List.map_cons, Tps.ints_inv t]
theorem Tp.tup_inv {v : V} {ds : List PyData} (h : Tp H v (.tuple ds)) : ∃ a xs, v = .ref a ∧ H a = some (.tup xs) ∧ Tps H xs ds := by
  cases h with
  | tup h t => exact ⟨_, _, rfl, h, t⟩
theorem Tp.int_inv {v : V} {i : Int} (h : Tp H v (.int i)) : v = .int i := by
  cases h
  rfl
theorem Tps.two_inv {vs : List V} {d e : PyData} (h : Tps H vs [d, e]) : ∃ v w, vs = [v, w] ∧ Tp H v d ∧ Tp H w e := by
  cases h with
  | cons a t => cases t with
    | cons b t => cases t with
      | nil => exact ⟨_, _, rfl, a, b⟩
end
/-! ## pairs and webs -/
abbrev Pr := Nat × Nat
def dP (p : Pr) : PyData := .tuple [.int p.1, .int p.2]
abbrev dPs (ps : List Pr) : List PyData := ps.map dP
abbrev dT (ps : List Pr) : PyData := .tuple (dPs ps)
abbrev dW (n : Nat) (ps : List Pr) : PyData := .tuple [.int n, dT ps]
section
variable {H : Hp}
theorem Tp.pr_inv {v : V} {p : Pr} (h : Tp H v (dP p)) : ∃ a, v = .ref a ∧ H a = some (.tup [.int p.1, .int p.2]) := by
  obtain ⟨a, xs, rfl, e, t⟩ := h.tup_inv
  obtain ⟨x, y, rfl, hx, hy⟩ := t.two_inv
  cases hx
  cases hy
  exact ⟨a, rfl, e⟩
theorem Tp.pr {a : Addr} {p : Pr} (h : H a = some (.tup [.int p.1, .int p.2])) : Tp H (.ref a) (dP p) := .tup h (.cons (.int _) (.cons (.int _) .nil))
theorem Tp.web_inv {v : V} {n : Nat} {ps : List Pr} (h : Tp H v (dW n ps)) : ∃ a t xs, v = .ref a ∧ H a = some (.tup [.int n, .ref t]) ∧ H t = some (.tup xs) ∧ Tps H xs (dPs ps) := by
  obtain ⟨a, xs, rfl, e, t⟩ := h.tup_inv
  obtain ⟨x, y, rfl, hx, hy⟩ := t.two_inv
  cases hx
  obtain ⟨b, ys, rfl, e2, t2⟩ := hy.tup_inv
  exact ⟨a, b, ys, rfl, e, e2, t2⟩
theorem Tp.web {a t : Addr} {n : Nat} {xs : List V} {ps : List Pr} (h : H a = some (.tup [.int n, .ref t])) (h2 : H t = some (.tup xs)) (h3 : Tps H xs (dPs ps)) : Tp H (.ref a) (dW n ps) :=
  .tup h (.cons (.int _) (.cons (.tup h2 h3) .nil))
theorem Tps.len {vs : List V} {ps : List Pr} (h : Tps H vs (dPs ps)) : vs.length = ps.length := by
  rw [h.length, List.length_map]
theorem Tps.pr_at {vs : List V} {ps : List Pr} {i : Nat} {v : V} (h : Tps H vs (dPs ps)) (e : vs[i]? = some v) : ∃ p, ps[i]? = some p ∧ Tp H v (dP p) := by
  obtain ⟨d, e1, hd⟩ := h.at e
  rw [List.getElem?_map] at e1
  obtain ⟨p, e2, rfl⟩ := Option.map_eq_some_iff.mp e1
  exact ⟨p, e2, hd⟩
end
/-! ## what stays: all that stood, but for the cells S -/
structure Fr (S : List Addr) (H H' : Hp) : Prop where
  keep : ∀ b o, H b = some o → b ∉ S → H' b = some o
  tups : ∀ b xs, H b = some (.tup xs) → H' b = some (.tup xs)
  live : ∀ b, H b ≠ none → H' b ≠ none
section
variable {S : List Addr} {H H0 H1 H2 : Hp} {p a : Addr} {o : HO}
theorem Fr.refl : Fr S H H := ⟨fun _ _ e _ => e, fun _ _ e => e, fun _ e => e⟩
theorem Fr.trans (a : Fr S H0 H1) (b : Fr S H1 H2) : Fr S H0 H2 :=
  ⟨fun c o e n => b.keep c o (a.keep c o e n) n, fun c xs e => b.tups c xs (a.tups c xs e), fun c e => b.live c (a.live c e)⟩
theorem Fr.more {T : List Addr} (h : ∀ x ∈ S, x ∈ T) (a : Fr S H0 H1) : Fr T H0 H1 := ⟨fun b o e n => a.keep b o e fun m => n (h b m), a.tups, a.live⟩
theorem Fr.of0 (a : Fr [] H0 H1) : Fr S H0 H1 := a.more fun x m => absurd m List.not_mem_nil
theorem Fr.set (h : Fr S H0 H) (hp : H0 p = none ∨ p ∈ S) (ht : ∀ xs, H p ≠ some (.tup xs)) : Fr S H0 (upd H p o) where
  keep b u e n := by
    have ne : b ≠ p := by
      intro z
      subst z
      rcases hp with hp | hp
      · rw [hp] at e
        cases e
      · exact n hp
    rw [upd_ne ne]
    exact h.keep b u e n
  tups b xs e := by
    have e2 := h.tups b xs e
    have ne : b ≠ p := by
      intro z
      subst z
      exact ht xs e2
    rw [upd_ne ne]
    exact e2
  live b e := by
    by_cases c : b = p
    · subst c
      rw [upd_same]
      simp
    · rw [upd_ne c]
      exact h.live b e
theorem Fr.new (h : H p = none) : Fr S H (upd H p o) := Fr.refl.set (.inl h) (fun xs e => by rw [h] at e; cases e)
theorem Fr.add (a : Fr S H0 H) (h : H p = none) : Fr S H0 (upd H p o) := a.trans (Fr.new h)
theorem Fr.free (a : Fr S H H1) (h : H1 p = none) : H p = none := by
  cases c : H p with
  | none => rfl
  | some o => exact absurd h (a.live p (by rw [c]; simp))
theorem Fr.same (a : Fr [] H H1) : Same H H1 := fun b o e => a.keep b o e List.not_mem_nil
theorem Tp.fr {v : V} {d : PyData} (h : Tp H v d) (a : Fr S H H1) : Tp H1 v d := h.mv a.tups
theorem Tps.fr {vs : List V} {ds : List PyData} (h : Tps H vs ds) (a : Fr S H H1) : Tps H1 vs ds := h.mv a.tups
theorem Fr.seqL {K : PySem.W.Frag} {xs : List V} (f : Fr S H H1) (n : a ∉ S) (h : SqL K H a xs) : SqL K H1 a xs := by
  rcases h with (h | ⟨o, h⟩) | h
  · exact .inl (.inl (f.keep _ _ h n))
  · exact .inl (.inr ⟨o, f.keep _ _ h n⟩)
  · exact .inr h
theorem ne_new {b : Addr} {u : HO} (h : H b = some u) (n : H p = none) : b ≠ p := ne_of_none h n
theorem at_add {b : Addr} {u : HO} (h : H b = some u) (n : H p = none) : upd H p o b = some u := by
  rw [upd_ne (ne_of_none h n)]
  exact h
end
/-! ## sizes -/
theorem szl {n : Nat} (h : n ≤ 100000) : n ≤ sizeLine := by rw [sizeLine_eq]; omega
theorem szlt {n : Nat} (h : n < 100000) : n < sizeLine := by rw [sizeLine_eq]; omega
/-! ## comprehensions whose items are data -/
section
variable {K : PySem.W.Frag} {S : List Addr} {J : Hp → Prop} {M : Nat → List PyData → Prop} {g : TG} {tt : TT} {te : TE} {vs : List Nat} {σ : Slots} {H1 : Hp} {D a : Addr} {Qd : Hp → Prop} {xs : List V}
/-- the state of a comprehension ahead of turn i: ds is what is made so far -/
def LcAt (S : List Addr) (J : Hp → Prop) (M : Nat → List PyData → Prop) (H1 : Hp) (D : Addr) (i : Nat) (H : Hp) : Prop :=
  ∃ ys ds, M i ds ∧ ds.length ≤ i ∧ J H ∧ Fr S H1 H ∧ H D = some (.lst ys) ∧ Tps H ys ds
/-- one turn -/
def LcTurn (S : List Addr) (J : Hp → Prop) (M : Nat → List PyData → Prop) (g : TG) (tt : TT) (te : TE) (vs : List Nat) (σ : Slots) (i : Nat) (ds : List PyData) (x : V) (H : Hp) : Prop :=
  g x (wipe σ vs) H fun σ2 H2 => wipe σ2 vs = wipe σ vs ∧ tt σ2 H2 fun b H3 =>
    if b = true then te σ2 H3 fun y H4 => Fr S H H4 ∧ J H4 ∧ ∃ d, Tp H4 y d ∧ M (i + 1) (ds ++ [d])
    else Fr S H H3 ∧ J H3 ∧ M (i + 1) ds
end
/-- a reading hangs on what it hands on -/
def MonoG (g : TG) : Prop := ∀ (x : V) (σ : Slots) (H : Hp) (Q Q' : Slots → Hp → Prop), (∀ σ H, Q σ H → Q' σ H) → g x σ H Q → g x σ H Q'
def MonoT (t : TT) : Prop := ∀ (σ : Slots) (H : Hp) (Q Q' : Bool → Hp → Prop), (∀ b H, Q b H → Q' b H) → t σ H Q → t σ H Q'
def MonoE (t : TE) : Prop := ∀ (σ : Slots) (H : Hp) (Q Q' : VK), (∀ v H, Q v H → Q' v H) → t σ H Q → t σ H Q'
end Lt

set_option Elab.async false
set_option linter.all false
set_option maxRecDepth 100000
set_option maxHeartbeats 2000000
namespace Lt
open PySem PySem.Spec PyProof.Rows L2
/-! ## data of small size -/
structure Sm (n w : Nat) (d : PyData) : Prop where
  lay : d.canLay0 = true
  dep : d.depth ≤ n
  wt : d.weight ≤ w
  sh : d.showable = true
  ls : d.intsShort 13 = true
theorem Sm.mono {n w n' w' : Nat} {d : PyData} (h : Sm n w d) (hn : n ≤ n') (hw : w ≤ w') : Sm n' w' d := ⟨h.lay, Nat.le_trans h.dep hn, Nat.le_trans h.wt hw, h.sh, h.ls⟩
theorem log_lt {i k : Nat} (hi : i < 2 ^ k) (hk : 0 < k) : i.log2 < k := by
  by_cases h : i = 0
  · subst h
    simpa using hk
  · exact (Nat.log2_lt h).mpr hi
theorem Sm.int {i : Int} (h : i.natAbs < 10 ^ 12) : Sm 0 64 (.int i) := by
  have hl : i.natAbs.log2 < 64 := log_lt (Nat.lt_trans h (by decide)) (by decide)
  refine ⟨rfl, Nat.le_refl _, ?_, ?_, ?_⟩
  · unfold PyData.weight
    split <;> omega
  · unfold PyData.showable
    exact decide_eq_true (by omega)
  · unfold PyData.intsShort
    exact decide_eq_true (PyData.shown_int_le h)
theorem Sm.nat {i : Nat} (h : i < 10 ^ 12) : Sm 0 64 (.int i) := Sm.int (by simpa using h)
theorem Sm.bl (b : Bool) : Sm 0 0 (.bool b) := ⟨rfl, Nat.le_refl _, Nat.le_refl _, rfl, rfl⟩
theorem Sm.non : Sm 0 0 .none := ⟨rfl, Nat.le_refl _, Nat.le_refl _, rfl, rfl⟩
theorem sm_all {n w : Nat} : ∀ {ds : List PyData}, (∀ d ∈ ds, Sm n w d) → PyData.canLayAll0 ds = true ∧ PyData.depthAll ds ≤ n ∧ PyData.weightAll ds ≤ ds.length * (w + 1) ∧ PyData.showableAll ds = true ∧ PyData.intsShortAll 13 ds = true
  | [], _ => ⟨rfl, Nat.zero_le _, by unfold PyData.weightAll; omega, rfl, rfl⟩
  | d :: ds, h => by
    obtain ⟨a1, a2, a3, a4, a5⟩ := sm_all fun e m => h e (List.mem_cons_of_mem _ m)
    have b := h d List.mem_cons_self
    refine ⟨?_, ?_, ?_, ?_, ?_⟩
    · unfold PyData.canLayAll0
      rw [b.lay, a1]
      rfl
    · unfold PyData.depthAll
      exact Nat.max_le.mpr ⟨b.dep, a2⟩
    · unfold PyData.weightAll
      have := b.wt
      rw [List.length_cons, Nat.add_mul]
      omega
    · unfold PyData.showableAll
      rw [b.sh, a4]
      rfl
    · unfold PyData.intsShortAll
      rw [b.ls, a5]
      rfl
theorem Sm.tup {n w m : Nat} {ds : List PyData} (h : ∀ d ∈ ds, Sm n w d) (hm : ds.length ≤ m) : Sm (n + 1) (m * (w + 1)) (.tuple ds) := by
  obtain ⟨a1, a2, a3, a4, a5⟩ := sm_all h
  refine ⟨a1, ?_, ?_, a4, a5⟩
  · unfold PyData.depth
    omega
  · unfold PyData.weight
    exact Nat.le_trans a3 (Nat.mul_le_mul_right _ hm)
theorem Sm.lst {n w m : Nat} {ds : List PyData} (h : ∀ d ∈ ds, Sm n w d) (hm : ds.length ≤ m) : Sm (n + 1) (m * (w + 1)) (.list ds) := by
  obtain ⟨a1, a2, a3, a4, a5⟩ := sm_all h
  refine ⟨a1, ?_, ?_, a4, a5⟩
  · unfold PyData.depth
    omega
  · unfold PyData.weight
    exact Nat.le_trans a3 (Nat.mul_le_mul_right _ hm)
theorem Sm.shaped {n w : Nat} {d : PyData} (h : Sm n w d) (hn : n ≤ 64) : SeqAt.shaped d = true := by
  unfold SeqAt.shaped
  rw [h.lay, decide_eq_true (Nat.le_trans h.dep hn)]
  rfl
theorem Sm.shown {n w : Nat} {d : PyData} (h : Sm n w d) (hw : w ≤ 2 ^ 20) : d.shown.length ≤ sizeLine :=
  PyData.shown_fits (B := 13) (by decide) (by decide) (PyData.leavesShort_of_canLay0 13 d h.lay h.ls) (Nat.le_trans h.wt hw)
/-! ## repr of data -/
/-- what repr shows of data; never looked into -/
@[irreducible] def txt (d : PyData) : Str := d.shown
theorem txt_eq (d : PyData) : txt d = d.shown := by
  unfold txt
  rfl
def rRepr (K : PySem.W.Frag) : List V → Hp → VK → Prop := fun xs H Q => ∃ x d n w, xs = [x] ∧ Dp K H x d ∧ Sm n w d ∧ n ≤ 64 ∧ w ≤ 2 ^ 20 ∧ Q (.str (txt d)) H
theorem call_reprD {X : Cx} (hg : Still X.A) (hu : X.A.units + 80 < cLine) : CallR X (.builtin "repr") (rRepr X.K) := by
  intro pins s σ H vs us Q I r h
  obtain ⟨x, d, n, w, rfl, hd, hS, hn, hw, q⟩ := h
  obtain ⟨u, rfl, ru⟩ := vals1 r
  obtain ⟨as, rd⟩ := Dp.reads I d x u hd ru
  rw [txt_eq] at q
  have hz := hS.shown hw
  have hdep := hS.dep
  cases rd with
  | none => exact PySem.P.repr_of_none ⟨.str _, H, I.tok _, ⟨_, rfl⟩, by simpa only [PyData.shown] using q⟩
  | bool b => exact PySem.P.repr_of_bool ⟨.str _, H, I.tok _, ⟨_, rfl⟩, by simpa only [PyData.shown] using q⟩
  | int i t =>
    have := hS.sh
    exact PySem.P.repr_of_int (by simpa [PyData.showable] using this) ⟨.str _, H, I.tok _, ⟨_, rfl⟩, by simpa only [PyData.shown] using q⟩
  | str z t => exact PySem.P.repr_of_str ⟨.str _, H, I.tok _, ⟨_, rfl⟩, by simpa only [PyData.shown] using q⟩ (by simpa only [PyData.shown] using hz)
  | list h1 h2 h3 h4 =>
    refine repr_of_reads' (.list h1 h2 h3 h4) hS.sh (PyData.noDict_hsm (PyData.hasDict_of_canLay _ hS.lay)) hg (by omega) (fun _ _ e => e) ?_ hz
    intro h' u tk hk
    exact ⟨.str _, H, I.kept hk, ⟨_, rfl⟩, q⟩
  | tuple h1 h2 h3 h4 =>
    refine repr_of_reads' (.tuple h1 h2 h3 h4) hS.sh (PyData.noDict_hsm (PyData.hasDict_of_canLay _ hS.lay)) hg (by omega) (fun _ _ e => e) ?_ hz
    intro h' u tk hk
    exact ⟨.str _, H, I.kept hk, ⟨_, rfl⟩, q⟩
  | dict => cases hd
theorem reprT {K : PySem.W.Frag} {H : Hp} {Q : VK} {x : V} {d : PyData} {n w : Nat} (h : Tp H x d) (s : Sm n w d) (q : Q (.str (txt d)) H) (hn : n ≤ 64 := by decide) (hw : w ≤ 2 ^ 20 := by decide) : rRepr K [x] H Q :=
  ⟨x, d, n, w, rfl, h.dp, s, hn, hw, q⟩
theorem reprL {K : PySem.W.Frag} {H : Hp} {Q : VK} {a : Addr} {xs : List V} {ds : List PyData} {n w : Nat} (h : H a = some (.lst xs)) (t : Tps H xs ds) (s : Sm n w (.list ds)) (q : Q (.str (txt (.list ds))) H) (hn : n ≤ 64 := by decide) (hw : w ≤ 2 ^ 20 := by decide) : rRepr K [.ref a] H Q :=
  ⟨_, _, n, w, rfl, .lst (SqL.of h) t.dp, s, hn, hw, q⟩
/-! ## in, not in, over tuples of data -/
def rInT (K : PySem.W.Frag) : R2 := fun x y H Q => ∃ d ds, Dp K H x d ∧ Dp K H y (.tuple ds) ∧ SeqAt.shaped d = true ∧ SeqAt.shaped (.tuple ds) = true ∧ Q (.bl (ds.any fun z => PyData.eqv z d)) H
def rNotInT (K : PySem.W.Frag) : R2 := fun x y H Q => ∃ d ds, Dp K H x d ∧ Dp K H y (.tuple ds) ∧ SeqAt.shaped d = true ∧ SeqAt.shaped (.tuple ds) = true ∧ Q (.bl (!ds.any fun z => PyData.eqv z d)) H
theorem in_room {A : Around} {d : PyData} {ds : List PyData} (h : SeqAt.shaped d = true) (hu : A.units + 80 < cLine) : A.units + 1 + min (PyData.depthAll ds) d.depth < cLine := by
  have h1 := SeqAt.depth_of_shaped h
  have h2 : min (PyData.depthAll ds) d.depth ≤ d.depth := Nat.min_le_right _ _
  omega
theorem op_inT {X : Cx} (hu : X.A.units + 80 < cLine) : OpR X (compareOp .In) (rInT X.K) := by
  intro pins s σ H x y v u Q I rx ry h
  obtain ⟨d, ds, hd, he, sd, se, q⟩ := h
  obtain ⟨as, r1⟩ := Dp.reads I d x v hd rx
  obtain ⟨bs, r2⟩ := Dp.reads I (.tuple ds) y u he ry
  exact SeqAt.in_tuple_reads r2 r1 (SeqAt.canLay_of_shaped se) (SeqAt.canLay_of_shaped sd) (in_room sd hu) ⟨.bl _, H, I, rfl, q⟩
theorem op_notInT {X : Cx} (hu : X.A.units + 80 < cLine) : OpR X (compareOp .NotIn) (rNotInT X.K) := by
  intro pins s σ H x y v u Q I rx ry h
  obtain ⟨d, ds, hd, he, sd, se, q⟩ := h
  obtain ⟨as, r1⟩ := Dp.reads I d x v hd rx
  obtain ⟨bs, r2⟩ := Dp.reads I (.tuple ds) y u he ry
  exact SeqAt.notIn_tuple_reads r2 r1 (SeqAt.canLay_of_shaped se) (SeqAt.canLay_of_shaped sd) (in_room sd hu) ⟨.bl _, H, I, rfl, q⟩
/-- in and not in, whatever it is over -/
def rMem (K : PySem.W.Frag) : R2 := fun x y H Q => rInT K x y H Q ∨ rInD K x y H Q
def rNMem (K : PySem.W.Frag) : R2 := fun x y H Q => rNotInT K x y H Q ∨ rNotInD K x y H Q
theorem op_mem {X : Cx} (hu : X.A.units + 80 < cLine) : OpR X (compareOp .In) (rMem X.K) := (op_inT hu).or (op_inD (by omega))
theorem op_nmem {X : Cx} (hu : X.A.units + 80 < cLine) : OpR X (compareOp .NotIn) (rNMem X.K) := (op_notInT hu).or (op_notInD (by omega))
/-! ## equality of data without bools is =  -/
mutual
def cln : PyData → Bool
  | .none | .int _ | .str _ => true
  | .bool _ | .dict _ => false
  | .list xs | .tuple xs => clnAll xs
def clnAll : List PyData → Bool
  | [] => true
  | x :: xs => cln x && clnAll xs
end
mutual
theorem eqv_iff : ∀ {d e : PyData}, cln d = true → cln e = true → (PyData.eqv d e = true ↔ d = e)
  | .none, e, _, he => by cases e <;> simp_all [PyData.eqv, cln]
  | .int i, e, _, he => by cases e <;> simp_all [PyData.eqv, cln]
  | .str i, e, _, he => by cases e <;> simp_all [PyData.eqv, cln]
  | .bool _, _, h, _ => by simp [cln] at h
  | .dict _, _, h, _ => by simp [cln] at h
  | .list xs, e, h, he => by
    cases e with
    | list ys =>
      have := eqvAll_iff (xs := xs) (ys := ys) (by simpa [cln] using h) (by simpa [cln] using he)
      simpa [PyData.eqv] using this
    | _ => simp_all [PyData.eqv, cln]
  | .tuple xs, e, h, he => by
    cases e with
    | tuple ys =>
      have := eqvAll_iff (xs := xs) (ys := ys) (by simpa [cln] using h) (by simpa [cln] using he)
      simpa [PyData.eqv] using this
    | _ => simp_all [PyData.eqv, cln]
theorem eqvAll_iff : ∀ {xs ys : List PyData}, clnAll xs = true → clnAll ys = true → (PyData.eqvAll xs ys = true ↔ xs = ys)
  | [], [], _, _ => by simp [PyData.eqvAll]
  | [], _ :: _, _, _ => by simp [PyData.eqvAll]
  | _ :: _, [], _, _ => by simp [PyData.eqvAll]
  | x :: xs, y :: ys, h, h' => by
    have h1 : cln x = true ∧ clnAll xs = true := by simpa [clnAll] using h
    have h2 : cln y = true ∧ clnAll ys = true := by simpa [clnAll] using h'
    have a := eqv_iff h1.1 h2.1
    have b := eqvAll_iff h1.2 h2.2
    simp [PyData.eqvAll, a, b]
end
theorem any_eqv {d : PyData} {ds : List PyData} (hd : cln d = true) (hs : ∀ e ∈ ds, cln e = true) {p : Prop} [Decidable p] (hp : p ↔ d ∈ ds) : (ds.any fun z => PyData.eqv z d) = decide p := by
  cases c : (ds.any fun z => PyData.eqv z d) with
  | true =>
    obtain ⟨z, m, e⟩ := List.any_eq_true.mp c
    have := (eqv_iff (hs z m) hd).mp e
    subst this
    exact (decide_eq_true (hp.mpr m)).symm
  | false =>
    refine (decide_eq_false fun h => ?_).symm
    have := List.any_eq_false.mp c d (hp.mp h)
    exact this ((eqv_iff hd hd).mpr rfl)
theorem dP_inj {p q : Pr} (h : dP p = dP q) : p = q := by
  obtain ⟨a, b⟩ := p
  obtain ⟨c, d⟩ := q
  simp only [dP, PyData.tuple.injEq, List.cons.injEq, PyData.int.injEq, and_true] at h
  have h1 : a = c := by omega
  have h2 : b = d := by omega
  rw [h1, h2]
theorem dPs_mem {p : Pr} {ps : List Pr} : p ∈ ps ↔ dP p ∈ dPs ps := by
  constructor
  · exact fun m => List.mem_map.mpr ⟨p, m, rfl⟩
  · intro m
    obtain ⟨q, mq, e⟩ := List.mem_map.mp m
    rw [← dP_inj e]
    exact mq
theorem dPs_inj : ∀ {ps qs : List Pr}, dPs ps = dPs qs → ps = qs
  | [], [], _ => rfl
  | [], _ :: _, h => by cases h
  | _ :: _, [], h => by cases h
  | p :: ps, q :: qs, h => by
    have h' := List.cons.inj h
    rw [dP_inj h'.1, dPs_inj h'.2]
theorem cln_dP (p : Pr) : cln (dP p) = true := rfl
theorem cln_dPs : ∀ ps : List Pr, clnAll (dPs ps) = true
  | [] => rfl
  | p :: ps => by
    show (cln (dP p) && clnAll (dPs ps)) = true
    rw [cln_dP, cln_dPs ps]
    rfl
theorem dT_inj {ps qs : List Pr} (h : dT ps = dT qs) : ps = qs := dPs_inj (PyData.tuple.inj h)
/-- pairs below a bound -/
abbrev Below (n : Nat) (ps : List Pr) : Prop := ∀ p ∈ ps, p.1 < n ∧ p.2 < n
theorem sm_dP {p : Pr} (h1 : p.1 < 10 ^ 12) (h2 : p.2 < 10 ^ 12) : Sm 1 130 (dP p) :=
  Sm.tup (n := 0) (w := 64) (m := 2) (by
    intro d m
    simp only [List.mem_cons, List.not_mem_nil, or_false] at m
    rcases m with rfl | rfl
    · exact Sm.nat h1
    · exact Sm.nat h2) (Nat.le_refl 2)
theorem sm_dPs {ps : List Pr} {m : Nat} (h : Below 100 ps) (hm : ps.length ≤ m) : Sm 2 (m * 131) (dT ps) :=
  Sm.tup (n := 1) (w := 130) (m := m) (by
    intro d mm
    obtain ⟨p, mp, rfl⟩ := List.mem_map.mp mm
    have := h p mp
    exact sm_dP (by omega) (by omega)) (by rw [List.length_map]; exact hm)
theorem sm_lPs {ps : List Pr} {m : Nat} (h : Below 100 ps) (hm : ps.length ≤ m) : Sm 2 (m * 131) (.list (dPs ps)) :=
  Sm.lst (n := 1) (w := 130) (m := m) (by
    intro d mm
    obtain ⟨p, mp, rfl⟩ := List.mem_map.mp mm
    have := h p mp
    exact sm_dP (by omega) (by omega)) (by rw [List.length_map]; exact hm)
theorem sm_dW {n : Nat} {ps : List Pr} (hn : n < 100) (h : Below 100 ps) (hm : ps.length ≤ 200) : Sm 3 60000 (dW n ps) :=
  (Sm.tup (n := 2) (w := 200 * 131) (m := 2) (ds := [.int n, dT ps]) (by
    intro d m
    simp only [List.mem_cons, List.not_mem_nil, or_false] at m
    rcases m with rfl | rfl
    · exact (Sm.nat (by omega)).mono (by decide) (by decide)
    · exact sm_dPs h hm) (Nat.le_refl 2)).mono (Nat.le_refl _) (by decide)
section
variable {K : PySem.W.Frag} {H : Hp} {Q : VK} {x : V} {a : Addr} {xs : List V} {p : Pr} {ps : List Pr}
theorem mem_tP (hx : Tp H x (dP p)) (h : H a = some (.tup xs)) (t : Tps H xs (dPs ps)) (b1 : p.1 < 100 ∧ p.2 < 100) (b : Below 100 ps) (hl : ps.length ≤ 1000) (q : Q (.bl (decide (p ∈ ps))) H) : rMem K x (.ref a) H Q := by
  refine .inl ⟨dP p, dPs ps, hx.dp, .tup (SqT.of h) t.dp, (sm_dP (by omega) (by omega)).shaped (by decide), (sm_dPs b hl).shaped (by decide), ?_⟩
  rw [any_eqv (p := p ∈ ps) (cln_dP p) (fun e m => by obtain ⟨q, _, rfl⟩ := List.mem_map.mp m; exact cln_dP q) dPs_mem]
  exact q
theorem nmem_tP (hx : Tp H x (dP p)) (h : H a = some (.tup xs)) (t : Tps H xs (dPs ps)) (b1 : p.1 < 100 ∧ p.2 < 100) (b : Below 100 ps) (hl : ps.length ≤ 1000) (q : Q (.bl (!decide (p ∈ ps))) H) : rNMem K x (.ref a) H Q := by
  refine .inl ⟨dP p, dPs ps, hx.dp, .tup (SqT.of h) t.dp, (sm_dP (by omega) (by omega)).shaped (by decide), (sm_dPs b hl).shaped (by decide), ?_⟩
  rw [any_eqv (p := p ∈ ps) (cln_dP p) (fun e m => by obtain ⟨q, _, rfl⟩ := List.mem_map.mp m; exact cln_dP q) dPs_mem]
  exact q
theorem nmem_lP (hx : Tp H x (dP p)) (h : H a = some (.lst xs)) (t : Tps H xs (dPs ps)) (b1 : p.1 < 100 ∧ p.2 < 100) (b : Below 100 ps) (hl : ps.length ≤ 1000) (q : Q (.bl (!decide (p ∈ ps))) H) : rNMem K x (.ref a) H Q := by
  refine .inr ⟨dP p, dPs ps, hx.dp, .lst (SqL.of h) t.dp, (sm_dP (by omega) (by omega)).shaped (by decide), (sm_lPs b hl).shaped (by decide), ?_⟩
  rw [any_eqv (p := p ∈ ps) (cln_dP p) (fun e m => by obtain ⟨q, _, rfl⟩ := List.mem_map.mp m; exact cln_dP q) dPs_mem]
  exact q
theorem mem_lP (hx : Tp H x (dP p)) (h : H a = some (.lst xs)) (t : Tps H xs (dPs ps)) (b1 : p.1 < 100 ∧ p.2 < 100) (b : Below 100 ps) (hl : ps.length ≤ 1000) (q : Q (.bl (decide (p ∈ ps))) H) : rMem K x (.ref a) H Q := by
  refine .inr ⟨dP p, dPs ps, hx.dp, .lst (SqL.of h) t.dp, (sm_dP (by omega) (by omega)).shaped (by decide), (sm_lPs b hl).shaped (by decide), ?_⟩
  rw [any_eqv (p := p ∈ ps) (cln_dP p) (fun e m => by obtain ⟨q, _, rfl⟩ := List.mem_map.mp m; exact cln_dP q) dPs_mem]
  exact q
/-- places as data -/
abbrev dN (i : Nat) : PyData := .int i
abbrev dNs (is : List Nat) : List PyData := is.map dN
theorem dNs_mem {i : Nat} {is : List Nat} : i ∈ is ↔ dN i ∈ dNs is := by
  constructor
  · exact fun m => List.mem_map.mpr ⟨i, m, rfl⟩
  · intro m
    obtain ⟨q, mq, e⟩ := List.mem_map.mp m
    have : q = i := by
      have e := PyData.int.inj e
      omega
    rw [← this]
    exact mq
theorem sm_dNs {is : List Nat} {m : Nat} (h : ∀ i ∈ is, i < 1000) (hm : is.length ≤ m) : Sm 1 (m * 65) (.tuple (dNs is)) :=
  Sm.tup (n := 0) (w := 64) (m := m) (by
    intro d mm
    obtain ⟨i, mi, rfl⟩ := List.mem_map.mp mm
    have := h i mi
    exact Sm.nat (by omega)) (by rw [List.length_map]; exact hm)
theorem sm_lNs {is : List Nat} {m : Nat} (h : ∀ i ∈ is, i < 1000) (hm : is.length ≤ m) : Sm 1 (m * 65) (.list (dNs is)) :=
  Sm.lst (n := 0) (w := 64) (m := m) (by
    intro d mm
    obtain ⟨i, mi, rfl⟩ := List.mem_map.mp mm
    have := h i mi
    exact Sm.nat (by omega)) (by rw [List.length_map]; exact hm)
theorem mem_tN {i : Nat} {is : List Nat} (h : H a = some (.tup xs)) (t : Tps H xs (dNs is)) (b1 : i < 1000) (b : ∀ i ∈ is, i < 1000) (hl : is.length ≤ 1000) (q : Q (.bl (decide (i ∈ is))) H) : rMem K (.int i) (.ref a) H Q := by
  refine .inl ⟨dN i, dNs is, .int _, .tup (SqT.of h) t.dp, (Sm.nat (by omega)).shaped (by decide), (sm_dNs b hl).shaped (by decide), ?_⟩
  rw [any_eqv (p := i ∈ is) rfl (fun e m => by obtain ⟨q, _, rfl⟩ := List.mem_map.mp m; rfl) dNs_mem]
  exact q
theorem nmem_tN {i : Nat} {is : List Nat} (h : H a = some (.tup xs)) (t : Tps H xs (dNs is)) (b1 : i < 1000) (b : ∀ i ∈ is, i < 1000) (hl : is.length ≤ 1000) (q : Q (.bl (!decide (i ∈ is))) H) : rNMem K (.int i) (.ref a) H Q := by
  refine .inl ⟨dN i, dNs is, .int _, .tup (SqT.of h) t.dp, (Sm.nat (by omega)).shaped (by decide), (sm_dNs b hl).shaped (by decide), ?_⟩
  rw [any_eqv (p := i ∈ is) rfl (fun e m => by obtain ⟨q, _, rfl⟩ := List.mem_map.mp m; rfl) dNs_mem]
  exact q
end
end Lt

set_option Elab.async false
set_option linter.all false
set_option maxRecDepth 100000
set_option maxHeartbeats 2000000
namespace Lt
open PySem PySem.Spec PyProof.Rows L2
section
variable {K : PySem.W.Frag} {S : List Addr} {J : Hp → Prop} {M : Nat → List PyData → Prop} {g : TG} {tt : TT} {te : TE} {vs : List Nat} {σ : Slots} {H1 H H4 : Hp} {D a : Addr} {Qd : Hp → Prop} {xs ys : List V} {ds : List PyData} {i : Nat}
/-- what a comprehension over an iterator asks -/
abbrev LcGoal (it : It) (g : TG) (tt : TT) (te : TE) (vs : List Nat) (σ : Slots) (H1 : Hp) (D : Addr) (Qd : Hp → Prop) : Prop :=
  ∃ W : Nat → Nat → Hp → Prop, (∃ m, W 0 m (upd H1 D (.lst []))) ∧ ∀ (i m : Nat) (H : Hp), W i m H →
    (it.stop i H ∧ Qd H) ∨ (it.go i H ∧ ∃ Nx : Hp → Prop, (∀ H', Nx H' → ∃ m', m' < m ∧ W (i + 1) m' H') ∧
      ∀ (x : V) (H' : Hp), it.yld i H x H' → g x (wipe σ vs) H' fun σ2 H2 => wipe σ2 vs = wipe σ vs ∧ tt σ2 H2 fun b H3 =>
        if b = true then te σ2 H3 fun y H4 => ∃ acc, H4 D = some (.lst acc) ∧ acc.length < sizeLine ∧ Nx (upd H4 D (.lst (acc ++ [y]))) else Nx H3)
/-- where a comprehension stands: its list is new, the cells S may change, J is kept whatever its list holds -/
structure LcC (S : List Addr) (J : Hp → Prop) (H1 : Hp) (D : Addr) : Prop where
  new : H1 D = none
  off : D ∉ S
  own : ∀ H o, J H → J (upd H D o)
/-- ahead of turn i: ds is made -/
structure LcS (S : List Addr) (J : Hp → Prop) (M : Nat → List PyData → Prop) (H1 : Hp) (D : Addr) (i : Nat) (H : Hp) (ys : List V) (ds : List PyData) : Prop where
  m : M i ds
  len : ds.length ≤ i
  j : J H
  fr : Fr S H1 H
  at_ : H D = some (.lst ys)
  dat : Tps H ys ds
def LcAny (S : List Addr) (J : Hp → Prop) (M : Nat → List PyData → Prop) (H1 : Hp) (D : Addr) (i : Nat) (H : Hp) : Prop := ∃ ys ds, LcS S J M H1 D i H ys ds
theorem LcC.zero (C : LcC S J H1 D) (j0 : J H1) (m0 : M 0 []) : LcAny S J M H1 D 0 (upd H1 D (.lst [])) :=
  ⟨[], [], m0, Nat.le_refl _, C.own _ _ j0, Fr.new C.new, upd_same, .nil⟩
theorem put_at (new : H1 D = none) (off : D ∉ S) (fr : Fr S H1 H) (at_ : H D = some (.lst ys)) (dat : Tps H ys ds) (hl : ds.length < 50000) (f : Fr S H H4) {y : V} {d : PyData} (t : Tp H4 y d) :
    H4 D = some (.lst ys) ∧ ys.length < sizeLine ∧ Fr S H1 (upd H4 D (.lst (ys ++ [y]))) ∧ upd H4 D (.lst (ys ++ [y])) D = some (.lst (ys ++ [y])) ∧ Tps (upd H4 D (.lst (ys ++ [y]))) (ys ++ [y]) (ds ++ [d]) := by
  have e := f.keep _ _ at_ off
  have h2 := dat.length
  have f2 : Fr [D] H4 (upd H4 D (.lst (ys ++ [y]))) := Fr.refl.set (.inr List.mem_cons_self) (fun xs z => by rw [e] at z; cases z)
  exact ⟨e, szlt (by omega), (fr.trans f).set (.inl new) (fun xs z => by rw [e] at z; cases z), upd_same, ((dat.fr f).fr f2).app (Tps.one (t.fr f2))⟩
/-- the turn keeps its item -/
theorem LcS.put (C : LcC S J H1 D) (L : LcS S J M H1 D i H ys ds) (hi : i < 50000) (f : Fr S H H4) (j : J H4) {y : V} {d : PyData} (t : Tp H4 y d) (m : M (i + 1) (ds ++ [d])) :
    ∃ acc, H4 D = some (.lst acc) ∧ acc.length < sizeLine ∧ LcAny S J M H1 D (i + 1) (upd H4 D (.lst (acc ++ [y]))) := by
  have e := f.keep _ _ L.at_ C.off
  have hl := L.dat.length
  have h1 := L.len
  refine ⟨ys, e, szlt (by omega), ys ++ [y], ds ++ [d], m, ?_, C.own _ _ j, ?_, upd_same, ?_⟩
  · rw [List.length_append]
    exact Nat.add_le_add_right h1 1
  · exact (L.fr.trans f).set (.inl C.new) (fun xs z => by rw [e] at z; cases z)
  · have f2 : Fr [D] H4 (upd H4 D (.lst (ys ++ [y]))) := Fr.refl.set (.inr List.mem_cons_self) (fun xs z => by rw [e] at z; cases z)
    exact ((L.dat.fr f).fr f2).app (Tps.one (t.fr f2))
/-- the turn drops its item -/
theorem LcS.skip (L : LcS S J M H1 D i H ys ds) (C : LcC S J H1 D) (f : Fr S H H4) (j : J H4) (m : M (i + 1) ds) : LcAny S J M H1 D (i + 1) H4 :=
  ⟨ys, ds, m, Nat.le_succ_of_le L.len, j, L.fr.trans f, f.keep _ _ L.at_ C.off, L.dat.fr f⟩
abbrev TurnGoal (S : List Addr) (J : Hp → Prop) (M : Nat → List PyData → Prop) (g : TG) (tt : TT) (te : TE) (vs : List Nat) (σ : Slots) (H1 : Hp) (D : Addr) (i : Nat) (x : V) (H : Hp) : Prop :=
  g x (wipe σ vs) H fun σ2 H2 => wipe σ2 vs = wipe σ vs ∧ tt σ2 H2 fun b H3 =>
    if b = true then te σ2 H3 fun y H4 => ∃ acc, H4 D = some (.lst acc) ∧ acc.length < sizeLine ∧ LcAny S J M H1 D (i + 1) (upd H4 D (.lst (acc ++ [y]))) else LcAny S J M H1 D (i + 1) H3
theorem lcl (C : LcC S J H1 D) (hs : SqL K H1 a xs) (ha : a ∉ S) (j0 : J H1) (m0 : M 0 [])
    (turn : ∀ i x H ys ds, xs[i]? = some x → LcS S J M H1 D i H ys ds → TurnGoal S J M g tt te vs σ H1 D i x H)
    (done : ∀ H ys ds, LcS S J M H1 D xs.length H ys ds → Qd H) : LcGoal (Itl K a) g tt te vs σ H1 D Qd :=
  lc_list (K := K) (a := a) (xs := xs) (LcAny S J M H1 D) (C.zero j0 m0) (fun i H _ ⟨ys, ds, L⟩ => L.fr.seqL ha hs) (fun i x H hx ⟨ys, ds, L⟩ => turn i x H ys ds hx L) (fun H ⟨ys, ds, L⟩ => done H ys ds L)
theorem lct (C : LcC S J H1 D) (hs : H1 a = some (.tup xs)) (j0 : J H1) (m0 : M 0 [])
    (turn : ∀ i x H ys ds, xs[i]? = some x → LcS S J M H1 D i H ys ds → TurnGoal S J M g tt te vs σ H1 D i x H)
    (done : ∀ H ys ds, LcS S J M H1 D xs.length H ys ds → Qd H) : LcGoal (L2.Itt K a) g tt te vs σ H1 D Qd :=
  lc_tup (K := K) (a := a) (xs := xs) (LcAny S J M H1 D) (C.zero j0 m0) (fun i H _ ⟨ys, ds, L⟩ => SqT.of (L.fr.tups _ _ hs)) (fun i x H hx ⟨ys, ds, L⟩ => turn i x H ys ds hx L) (fun H ⟨ys, ds, L⟩ => done H ys ds L)
theorem lcr {lo : Int} {n : Nat} (C : LcC S J H1 D) (j0 : J H1) (m0 : M 0 [])
    (turn : ∀ (i : Nat) H ys ds, i < n → LcS S J M H1 D i H ys ds → TurnGoal S J M g tt te vs σ H1 D i (.int (lo + i)) H)
    (done : ∀ H ys ds, LcS S J M H1 D n H ys ds → Qd H) : LcGoal (Itr lo n) g tt te vs σ H1 D Qd :=
  L2.lc_range (lo := lo) (n := n) (LcAny S J M H1 D) (C.zero j0 m0) (fun i H hi ⟨ys, ds, L⟩ => turn i H ys ds hi L) (fun H ⟨ys, ds, L⟩ => done H ys ds L)
end
abbrev cMin2 : List V → Hp → VK → Prop := fun xs H Q => ∃ i j, xs = [.int i, .int j] ∧ Q (.int (if j < i then j else i)) H
abbrev cMax2 : List V → Hp → VK → Prop := fun xs H Q => ∃ i j, xs = [.int i, .int j] ∧ Q (.int (if j > i then j else i)) H
abbrev cAbs : List V → Hp → VK → Prop := fun xs H Q => ∃ i, xs = [.int i] ∧ Q (.int (if i < 0 then -i else i)) H
abbrev cInt1 : List V → Hp → VK → Prop := fun xs H Q => (∃ i, xs = [.int i] ∧ Q (.int i) H) ∨ ∃ k, xs = [.bl k] ∧ Q (.int (if k then 1 else 0)) H
abbrev rAddI : R2 := rI0 fun i j => .int (i + j)
abbrev rSubI : R2 := rI0 fun i j => .int (i - j)
abbrev rMulI : R2 := rI CMul fun i j => .int (i * j)
abbrev rModI : R2 := rI (fun _ j => 0 < j) fun i j => .int (i % j)
abbrev rDivI : R2 := rI CDivN fun i j => .int (i.fdiv j)
abbrev rPowI : R2 := rI CPow fun i j => .int (i ^ j.toNat)
abbrev rLtI : R2 := rI0 fun i j => .bl (decide (i < j))
abbrev rLeI : R2 := rI0 fun i j => .bl (decide (i ≤ j))
abbrev rGtI : R2 := rI0 fun i j => .bl (decide (j < i))
abbrev rGeI : R2 := rI0 fun i j => .bl (decide (j ≤ i))
abbrev rNegI : V → Hp → VK → Prop := rU fun i => .int (-i)
abbrev rIsNo : R2 := fun x y H Q => y = .non ∧ Q (.bl (decide (x = .non))) H
abbrev rNotNo : R2 := fun x y H Q => y = .non ∧ Q (.bl (!decide (x = .non))) H
/-! ## the rules that name the written part, where a block runs, too -/
section
variable {X : Cx} (K : PySem.W.Frag)
theorem ixL (h : X.K = K := by rfl) : IxR X (rIxL K) := h ▸ ix_list
theorem ixT (h : X.K = K := by rfl) : IxR X (rIxT K) := h ▸ ix_tup
theorem memK (hu : X.A.units + 80 < cLine) (h : X.K = K := by rfl) : OpR X (compareOp .In) (rMem K) := h ▸ op_mem hu
theorem nmemK (hu : X.A.units + 80 < cLine) (h : X.K = K := by rfl) : OpR X (compareOp .NotIn) (rNMem K) := h ▸ op_nmem hu
theorem eqK (hu : X.A.units + 64 < cLine) (h : X.K = K := by rfl) : OpR X (compareOp .Eq) (rEqD K) := h ▸ op_eqD hu
theorem neK (hu : X.A.units + 64 < cLine) (h : X.K = K := by rfl) : OpR X (compareOp .NotEq) (rNeD K) := h ▸ op_neD hu
theorem slL (h : X.K = K := by rfl) : SlR X (rSlL K) := h ▸ sl_list
theorem slT (h : X.K = K := by rfl) : SlR X (rSlT K) := h ▸ sl_tup
theorem reprK (hg : Still X.A) (hu : X.A.units + 80 < cLine) (h : X.K = K := by rfl) : CallR X (.builtin "repr") (rRepr K) := h ▸ call_reprD hg hu
theorem catT (h : X.K = K := by rfl) : OpR X (binaryOp .Add) (rCatT K) := h ▸ op_catT
def rLen (K : PySem.W.Frag) : List V → Hp → VK → Prop := fun xs H Q => ∃ p ys, xs = [.ref p] ∧ (SqL K H p ys ∨ SqT K H p ys) ∧ Q (.int ys.length) H
theorem lenK (h : X.K = K := by rfl) : CallR X (.builtin "len") (rLen K) := h ▸ call_len_seq
def rTupOf (K : PySem.W.Frag) : List V → Hp → VK → Prop := fun xs H Q => ∃ p ys, xs = [.ref p] ∧ ((SqL K H p ys ∧ ∀ l, H l = none → Q (.ref l) (upd H l (.tup ys))) ∨ (SqT K H p ys ∧ Q (.ref p) H))
theorem tupOfK (h : X.K = K := by rfl) : CallR X (.type "tuple") (rTupOf K) := h ▸ call_tuple_of
def rLstOf (K : PySem.W.Frag) : List V → Hp → VK → Prop := fun xs H Q => ∃ p ys, xs = [.ref p] ∧ (SqL K H p ys ∨ SqT K H p ys) ∧ ∀ l, H l = none → Q (.ref l) (upd H l (.lst ys))
theorem lstOfK (h : X.K = K := by rfl) : CallR X (.type "list") (rLstOf K) := h ▸ call_list_of
theorem pg_tupK {es : List Expr} {k : Nat} {t : TGs} {n : Nat} {pos : Pos} (hc : X.calm = true) (h : PGs X es t) (hn : (assignEach es X.env).length = n := by rfl) (hst : (assignEach es X.env).findIdx? (·.1) = none := by rfl)
    (hk : X.K = K := by rfl) : PG X (.Tuple es k pos) (gTup K n t) := hk ▸ pg_tup hc h hn hst
theorem sumK (hc : X.calm = true) (h : X.K = K := by rfl) : CallR X (.builtin "sum") (rSum K) := h ▸ cr_sum hc
theorem sortedPK (h : X.K = K := by rfl) : CallR X (.builtin "sorted") (rSortedPO K) := h ▸ cr_sortedPO
theorem sortedIK (h : X.K = K := by rfl) : CallR X (.builtin "sorted") (rSortedI K) := h ▸ cr_sortedI
end
theorem tyes {A B : Hp → Prop} {σ : Slots} {H : Hp} (h : A H) : tYes σ H (fun b H1 => if b = true then A H1 else B H1) := by
  show (if true = true then A H else B H)
  rw [if_pos rfl]
  exact h
theorem hu80_of {k : Nat} {A : Around} (hr : Room k A) : A.units + 80 < cLine := by
  have := hr.un
  omega
abbrev FnP (K : PySem.W.Frag) (x : Str) (st : Stmt) (f : Addr) (fd : FuncData) : Prop := FunD K x x (defArgs st) (defBody st) (defScope st) [] [] f fd
end Lt

set_option Elab.async false
set_option linter.all false
set_option maxRecDepth 100000
set_option maxHeartbeats 2000000
namespace Lt
open PySem PySem.Spec PyProof.Rows L2
/-! ## what is walked, turn by turn -/
section
variable {K : PySem.W.Frag} {Hs : Hp} {Qd : Hp → Prop} {T : V → Hp → (Hp → Prop) → Prop} {a : Addr} {xs : List V}
abbrev WalkGoal (it : It) (Hs : Hp) (Qd : Hp → Prop) (T : V → Hp → (Hp → Prop) → Prop) : Prop :=
  ∃ W : Nat → Nat → Hp → Prop, (∃ m, W 0 m Hs) ∧ ∀ (i m : Nat) (H : Hp), W i m H →
    (it.stop i H ∧ Qd H) ∨ (it.go i H ∧ ∃ Nx : Hp → Prop, (∀ H', Nx H' → ∃ m', m' < m ∧ W (i + 1) m' H') ∧ ∀ (x : V) (H' : Hp), it.yld i H x H' → T x H' Nx)
theorem walk_r {lo : Int} {n : Nat} (Pv : Nat → Hp → Prop) (h0 : Pv 0 Hs) (hs : ∀ (i : Nat) H, i < n → Pv i H → T (.int (lo + i)) H (Pv (i + 1))) (hd : ∀ H, Pv n H → Qd H) : WalkGoal (Itr lo n) Hs Qd T := by
  refine ⟨fun i m H => m + i = n ∧ Pv i H, ⟨n, by omega, h0⟩, ?_⟩
  rintro i m H ⟨e, p⟩
  by_cases c : i < n
  · refine .inr ⟨c, Pv (i + 1), fun H' p' => ⟨m - 1, by omega, by omega, p'⟩, ?_⟩
    rintro x H' ⟨rfl, rfl⟩
    exact hs i H' c p
  · obtain rfl : i = n := by omega
    exact .inl ⟨Nat.le_refl _, hd H p⟩
theorem walk_l (Pv : Nat → Hp → Prop) (h0 : Pv 0 Hs) (hl : ∀ i H, i ≤ xs.length → Pv i H → SqL K H a xs) (hs : ∀ (i : Nat) x H, xs[i]? = some x → Pv i H → T x H (Pv (i + 1))) (hd : ∀ H, Pv xs.length H → Qd H) : WalkGoal (Itl K a) Hs Qd T := by
  refine ⟨fun i m H => m + i = xs.length ∧ Pv i H, ⟨xs.length, by omega, h0⟩, ?_⟩
  rintro i m H ⟨e, p⟩
  have q := hl i H (by omega) p
  by_cases c : i < xs.length
  · refine .inr ⟨⟨xs, xs[i], q, List.getElem?_eq_getElem c⟩, Pv (i + 1), fun H' p' => ⟨m - 1, by omega, by omega, p'⟩, ?_⟩
    rintro x H' ⟨rfl, y⟩
    have ex := y xs q
    exact hs i x H' ex p
  · obtain rfl : i = xs.length := by omega
    exact .inl ⟨⟨xs, q, Nat.le_refl _⟩, hd H p⟩
theorem walk_t (Pv : Nat → Hp → Prop) (h0 : Pv 0 Hs) (hl : ∀ i H, i ≤ xs.length → Pv i H → SqT K H a xs) (hs : ∀ (i : Nat) x H, xs[i]? = some x → Pv i H → T x H (Pv (i + 1))) (hd : ∀ H, Pv xs.length H → Qd H) : WalkGoal (L2.Itt K a) Hs Qd T := by
  refine ⟨fun i m H => m + i = xs.length ∧ Pv i H, ⟨xs.length, by omega, h0⟩, ?_⟩
  rintro i m H ⟨e, p⟩
  have q := hl i H (by omega) p
  by_cases c : i < xs.length
  · refine .inr ⟨⟨xs, xs[i], q, List.getElem?_eq_getElem c⟩, Pv (i + 1), fun H' p' => ⟨m - 1, by omega, by omega, p'⟩, ?_⟩
    rintro x H' ⟨rfl, y⟩
    have ex := y xs q
    exact hs i x H' ex p
  · obtain rfl : i = xs.length := by omega
    exact .inl ⟨⟨xs, q, Nat.le_refl _⟩, hd H p⟩
end
/-! ## what a def hands back -/
abbrev Ret (H : Hp) (d : PyData) (Q : VK) : Prop := ∀ H' r, Fr [] H H' → Tp H' r d → Q r H'
abbrev RetL (H : Hp) (ds : List PyData) (Q : VK) : Prop := ∀ H' p ys, Fr [] H H' → H p = none → H' p = some (.lst ys) → Tps H' ys ds → Q (.ref p) H'
theorem dPs_app (a b : List Pr) : dPs (a ++ b) = dPs a ++ dPs b := List.map_append
/-! ## what a comprehension has made of the items ahead -/
section
variable {α β : Type} {as : List α} {a : α} {b : β} {i : Nat} {f : α → Option β} {en : β → PyData}
abbrev made (as : List α) (f : α → Option β) (en : β → PyData) (i : Nat) : List PyData := ((as.take i).filterMap f).map en
theorem made_some (e : as[i]? = some a) (h : f a = some b) : made as f en (i + 1) = made as f en i ++ [en b] := by
  unfold made
  rw [List.take_add_one, e, List.filterMap_append, List.map_append]
  simp [h]
theorem made_none (e : as[i]? = some a) (h : f a = none) : made as f en (i + 1) = made as f en i := by
  unfold made
  rw [List.take_add_one, e, List.filterMap_append, List.map_append]
  simp [h]
theorem made_all {n : Nat} (h : as.length ≤ n) : made as f en n = (as.filterMap f).map en := by
  unfold made
  rw [List.take_of_length_le h]
theorem range_at {n i : Nat} (h : i < n) : (List.range n)[i]? = some i := List.getElem?_range h
theorem filterMap_if (p : α → Bool) : as.filterMap (fun a => if p a = true then some a else none) = as.filter p := by
  induction as with
  | nil => rfl
  | cons x xs ih =>
    rw [List.filterMap_cons, List.filter_cons]
    cases c : p x <;> simp [ih]
theorem filterMap_one (g : α → β) : as.filterMap (fun a => some (g a)) = as.map g := by
  induction as with
  | nil => rfl
  | cons x xs ih => simp [ih]
end
/-! ## pairs of places -/
def rowUp (n a : Nat) : List Pr := (List.range (n - (a + 1))).map fun j => (a, a + 1 + j)
def pairsTo (n k : Nat) : List Pr := (List.range k).flatMap (rowUp n)
abbrev pairsOf (n : Nat) : List Pr := pairsTo n n
theorem pairsTo_succ (n k : Nat) : pairsTo n (k + 1) = pairsTo n k ++ rowUp n k := by
  unfold pairsTo
  rw [List.range_succ, List.flatMap_append]
  simp
theorem mem_rowUp {n a : Nat} {p : Pr} : p ∈ rowUp n a ↔ p.1 = a ∧ a < p.2 ∧ p.2 < n := by
  unfold rowUp
  rw [List.mem_map]
  constructor
  · rintro ⟨j, hj, rfl⟩
    have := List.mem_range.mp hj
    exact ⟨rfl, by show a < a + 1 + j; omega, by show a + 1 + j < n; omega⟩
  · rintro ⟨h1, h2, h3⟩
    refine ⟨p.2 - (a + 1), List.mem_range.mpr (by omega), ?_⟩
    obtain ⟨x, y⟩ := p
    simp only at h1 h2 h3
    subst h1
    simp only [Prod.mk.injEq, true_and]
    omega
theorem mem_pairsTo {n k : Nat} {p : Pr} : p ∈ pairsTo n k ↔ p.1 < k ∧ p.1 < p.2 ∧ p.2 < n := by
  unfold pairsTo
  rw [List.mem_flatMap]
  constructor
  · rintro ⟨a, ha, hp⟩
    have h1 := List.mem_range.mp ha
    obtain ⟨rfl, h2, h3⟩ := mem_rowUp.mp hp
    exact ⟨h1, h2, h3⟩
  · rintro ⟨h1, h2, h3⟩
    exact ⟨p.1, List.mem_range.mpr h1, mem_rowUp.mpr ⟨rfl, h2, h3⟩⟩
theorem mem_pairsOf {n : Nat} {p : Pr} : p ∈ pairsOf n ↔ p.1 < p.2 ∧ p.2 < n := by
  rw [mem_pairsTo]
  omega
theorem rowUp_len (n a : Nat) : (rowUp n a).length = n - (a + 1) := by
  unfold rowUp
  rw [List.length_map, List.length_range]
theorem pairsTo_len (n : Nat) : ∀ k, (pairsTo n k).length ≤ k * n
  | 0 => by simp [pairsTo]
  | k + 1 => by
    rw [pairsTo_succ, List.length_append, rowUp_len, Nat.add_mul]
    have := pairsTo_len n k
    omega
theorem pairsOf_len {n : Nat} (h : n ≤ 20) : (pairsOf n).length ≤ 400 := Nat.le_trans (pairsTo_len n n) (Nat.mul_le_mul h h)
theorem pairsOf_len12 : ∀ n, n ≤ 12 → (pairsOf n).length ≤ 66 := by decide
theorem pairsOf_below {n : Nat} (h : n ≤ 100) : Below 100 (pairsOf n) := fun p m => by
  have := mem_pairsOf.mp m
  omega
/-- the order of pairs -/
abbrev Up (p q : Pr) : Prop := p.1 < q.1 ∨ (p.1 = q.1 ∧ p.2 < q.2)
theorem rowUp_up (n a : Nat) : (rowUp n a).Pairwise Up := by
  unfold rowUp
  rw [List.pairwise_map]
  exact List.pairwise_lt_range.imp fun h => .inr ⟨rfl, by omega⟩
theorem pairsTo_up (n : Nat) : ∀ k, (pairsTo n k).Pairwise Up
  | 0 => by simp [pairsTo]
  | k + 1 => by
    rw [pairsTo_succ, List.pairwise_append]
    refine ⟨pairsTo_up n k, rowUp_up n k, fun p hp q hq => .inl ?_⟩
    have h1 := mem_pairsTo.mp hp
    have h2 := mem_rowUp.mp hq
    omega
theorem up_nodup {ps : List Pr} (h : ps.Pairwise Up) : ps.Nodup := h.imp fun {p q} u e => by
  subst e
  rcases u with u | u <;> omega
/-- two lists in order with the same pairs are one -/
theorem up_uniq : ∀ {ps qs : List Pr}, ps.Pairwise Up → qs.Pairwise Up → (∀ p, p ∈ ps ↔ p ∈ qs) → ps = qs
  | [], [], _, _, _ => rfl
  | [], q :: qs, _, _, h => absurd ((h q).mpr List.mem_cons_self) List.not_mem_nil
  | p :: ps, [], _, _, h => absurd ((h p).mp List.mem_cons_self) List.not_mem_nil
  | p :: ps, q :: qs, h1, h2, h => by
    have a1 := List.pairwise_cons.mp h1
    have a2 := List.pairwise_cons.mp h2
    have e : p = q := by
      rcases List.mem_cons.mp ((h p).mp List.mem_cons_self) with e | m1
      · exact e
      · rcases List.mem_cons.mp ((h q).mpr List.mem_cons_self) with e | m2
        · exact e.symm
        · have u1 := a2.1 p m1
          have u2 := a1.1 q m2
          rcases u1 with u1 | u1 <;> rcases u2 with u2 | u2 <;> omega
    subst e
    congr 1
    refine up_uniq a1.2 a2.2 fun r => ?_
    have hr := h r
    simp only [List.mem_cons] at hr
    constructor
    · intro m
      rcases hr.mp (.inr m) with e | e
      · subst e
        have := a1.1 _ m
        rcases this with u | u <;> omega
      · exact e
    · intro m
      rcases hr.mpr (.inr m) with e | e
      · subst e
        have := a2.1 _ m
        rcases this with u | u <;> omega
      · exact e
/-! ## webs -/
structure WebOk (n : Nat) (ps : List Pr) : Prop where
  lo : 1 ≤ n
  hi : n ≤ 12
  up : ps.Pairwise Up
  ins : ∀ p ∈ ps, p ∈ pairsOf n
theorem WebOk.eq {n : Nat} {ps : List Pr} (w : WebOk n ps) : (pairsOf n).filter (fun p => decide (p ∈ ps)) = ps := by
  refine up_uniq ((pairsTo_up n n).sublist List.filter_sublist) w.up fun p => ?_
  rw [List.mem_filter, decide_eq_true_iff]
  exact ⟨fun h => h.2, fun h => ⟨w.ins p h, h⟩⟩
theorem WebOk.below {n : Nat} {ps : List Pr} (w : WebOk n ps) : Below 100 ps := fun p m => by
  have := mem_pairsOf.mp (w.ins p m)
  have := w.hi
  omega
theorem WebOk.len {n : Nat} {ps : List Pr} (w : WebOk n ps) : ps.length ≤ 66 := by
  rw [← w.eq]
  exact Nat.le_trans (List.length_filter_le _ _) (pairsOf_len12 n w.hi)
theorem WebOk.sm {n : Nat} {ps : List Pr} (w : WebOk n ps) : Sm 3 60000 (dW n ps) := sm_dW (by have := w.hi; omega) w.below (by have := w.len; omega)
def opp (n : Nat) (ps : List Pr) : List Pr := (pairsOf n).filter fun p => !decide (p ∈ ps)
theorem mem_opp {n : Nat} {ps : List Pr} {p : Pr} : p ∈ opp n ps ↔ p ∈ pairsOf n ∧ p ∉ ps := by
  unfold opp
  rw [List.mem_filter]
  simp
theorem WebOk.opp {n : Nat} {ps : List Pr} (w : WebOk n ps) : WebOk n (opp n ps) :=
  ⟨w.lo, w.hi, (pairsTo_up n n).sublist List.filter_sublist, fun p m => (mem_opp.mp m).1⟩
theorem WebOk.opp2 {n : Nat} {ps : List Pr} (w : WebOk n ps) : Lt.opp n (Lt.opp n ps) = ps := by
  refine up_uniq w.opp.opp.up w.up fun p => ?_
  rw [mem_opp, mem_opp]
  constructor
  · rintro ⟨h1, h2⟩
    by_cases c : p ∈ ps
    · exact c
    · exact absurd ⟨h1, c⟩ h2
  · intro m
    exact ⟨w.ins p m, fun h => h.2 m⟩
/-! ## what is asked of webs -/
def rowOf (n : Nat) (ps : List Pr) : List Nat := (pairsOf n).map fun p => if p ∈ ps then 1 else 0
def tied (ps : List Pr) (i j : Nat) : Bool := decide ((min i j, max i j) ∈ ps)
def nbs (n : Nat) (ps : List Pr) (i : Nat) : List Nat := (List.range n).filter fun j => tied ps i j
def nums (n : Nat) (ps : List Pr) : List Nat := (List.range n).map fun i => (nbs n ps i).length
def odds (n : Nat) (ps : List Pr) : List Nat := (List.range n).filter fun i => (nbs n ps i).length % 2 == 1
theorem nbs_len (n : Nat) (ps : List Pr) (i : Nat) : (nbs n ps i).length ≤ n := by
  have := List.length_filter_le (fun j => tied ps i j) (List.range n)
  rw [List.length_range] at this
  exact this
theorem nbs_lt {n : Nat} {ps : List Pr} {i j : Nat} (h : j ∈ nbs n ps i) : j < n := List.mem_range.mp (List.mem_filter.mp h).1
theorem odds_lt {n : Nat} {ps : List Pr} {j : Nat} (h : j ∈ odds n ps) : j < n := List.mem_range.mp (List.mem_filter.mp h).1
end Lt

set_option Elab.async false
set_option linter.all false
set_option maxRecDepth 100000
set_option maxHeartbeats 4000000
namespace Lt
open PySem PySem.Spec PyProof.Rows L2
/-! ## enumerate(t), t a tuple -/
theorem enum_meets {v : Value} {o : Obj} {H : Heap → Prop} (B : Begins v o H) :
    Meets (Builtin.«enumerate.__new__» ⟨[.type "enumerate", v], []⟩) (fun _ R s => H s.heap ∧
      R (.ok (.ret (.ref (s.heap.push o).objs.size)))
        { s with heap := (s.heap.push o).push { cls := .type "enumerate", data := .fields #[.none, .bool false, .ref s.heap.objs.size, rawInt 0, .none, .none] } }) := by
  refine .of_wp fun prog w A R s z => ?_
  obtain ⟨h0, gs, dr, tk, os⟩ := s
  obtain ⟨z1, z2⟩ := z
  have sub := sub_enumerate
  have begins : ∀ {A' : Around} {E : Value → Shared → Prop} {Q : Value → Shared → Prop}, Q (.ref h0.objs.size) ⟨h0.push o, gs, dr, tk, os⟩ →
      wpAny (model prog w) A' (pyIter v) Q E ⟨h0, gs, dr, tk, os⟩ := fun q => B.iter prog w _ _ ⟨h0, gs, dr, tk, os⟩ _ z1 q
  wp_walk using begins
  refine wpAny_stack_any fun st => wpAny_pure ?_
  split
  next c _ _ _ _ _ =>
    cases (c == Value.type "enumerate") <;> (wp_walk using begins; exact ⟨_, rfl, z2⟩)
  next =>
    wp_walk using begins
    exact ⟨_, rfl, z2⟩
theorem enum_over {prog : Program} {w : World} {A : Around} {E : Value → Shared → Prop} {s : Shared} {e it t : Addr} {i : Nat} {items : Array Value} {old : Value} {Q : Option Value → Shared → Prop}
    (hh : A.handled = none) (he : IsEnum s.heap e it i old) (hit : s.heap.IsTupleIter it t i) (ht : s.heap.IsTuple t items) (hx : items[i]? = none)
    (hQ : ∀ h', Heap.ExtBut it s.heap h' → Q none { s with heap := h' }) : wpAny (model prog w) A (pyNext (.ref e)) Q E s := by
  have ty : s.TypeIs (.ref e) "enumerate" := ⟨_, he, rfl⟩
  unfold pyNext
  apply wpAny_bind
  apply wpAny_attempt
  refine wpAny_callSpecial?_slot (name := Str.ofString "__next__") ty F.slot_enumerate_next ?_
  refine wpAny_call_entry F.slot_enumerate_next ty F.entry_enumerate_next ?_ (F.args_enumerate_next_1 _)
  show wpAny _ _ (field (.ref e) 2 >>= _) _ _ _
  apply wpAny_bind
  refine wpAny_field he rfl (x := .ref it) rfl ?_
  apply wpAny_bind
  refine wpAny_nextOf_tuple_end hh hit ht hx ?_
  rintro h' x z ⟨o, ho, hc⟩
  apply wpAny_bind
  refine wpAny_isInstance (T := "StopIteration") (b := true) ⟨o, ho, hc⟩ isSubtype_stop ?_
  exact wpAny_pure (hQ _ z)
/-- the tuple at a as it stands at each turn, each item in a new pair -/
def ItE (K : PySem.W.Frag) (a : Addr) : It where
  go i H := ∃ (xs : List V) (x : V), SqT K H a xs ∧ xs[i]? = some x
  yld i H v H' := ∃ T x, v = .ref T ∧ H T = none ∧ H' = upd H T (.tup [.int (i : Nat), x]) ∧ ∀ xs, SqT K H a xs → xs[i]? = some x
  stop i H := ∃ xs : List V, SqT K H a xs ∧ xs.length ≤ i
theorem enum_turn {P : Program} {w : World} {K : PySem.W.Frag} {elts : List Expr} {kk : Nat} {tpos : Pos} (a e it : Addr) :
    Turn P w K (.Tuple elts kk tpos) (ItE K a) [e, it] e (fun i h => (∃ old, IsEnum h e it ((i : Nat) : Int) old) ∧ h.IsTupleIter it a i ∧ e ≠ it ∧ e ≠ a) where
  mem := List.mem_cons_self
  obj := by
    rintro i h ⟨⟨old, he⟩, ⟨o, ho, _, hd⟩, _⟩ b hb
    simp only [List.mem_cons, List.not_mem_nil, or_false] at hb
    rcases hb with rfl | rfl
    · exact ⟨_, he, fun v q => nomatch q⟩
    · exact ⟨o, ho, fun v q => by rw [hd] at q; cases q⟩
  keep := by
    rintro i h h' ⟨⟨old, he⟩, hi, n1, n2⟩ kp
    exact ⟨⟨old, kp e (by simp) _ he⟩, hi.at fun o q => kp it (by simp) o q, n1, n2⟩
  item := by
    rintro X rfl rfl rfl hc i pins s σ H E I hf ⟨⟨old, he⟩, hit, n1, n2⟩ ⟨xs, x, hq, hx⟩
    obtain ⟨its, rv, tp, _⟩ := I.tuple hq
    obtain ⟨u, hu, ru⟩ := rv.get hx
    have el : e < s.heap.objs.size := Heap.lt_size he
    have il : it < s.heap.objs.size := by
      obtain ⟨_, q, _⟩ := hit
      exact Heap.lt_size q
    have ai : a ≠ it := by
      intro z
      subst z
      obtain ⟨o1, q1, c1, _⟩ := hit
      obtain ⟨o2, q2, c2, _⟩ := tp
      rw [q1] at q2
      cases q2
      rw [c1] at c2
      exact absurd (Value.type.inj c2) (by decide)
    have hlt : i < its.toArray.size := by
      have := (List.getElem?_eq_some_iff.mp hu).1
      simpa using this
    have D := Draws.tuple (prog := X.prog) (w := X.w) (A := X.A.in1) (I.ok.hd hc) it a ai its.toArray
    refine wpAny_pyNext_enum_itemD D he ⟨hit, tp⟩ hlt n1 (by simp [n1, n2]) fun y h' tk hy ho st hT hsz hk => ?_
    have ey : y = u := by
      have hy' : its[i]? = some y := by simpa using hy
      rw [hu] at hy'
      exact (Option.some.inj hy').symm
    subst ey
    refine ⟨_, rfl, wpAny_letOwnedTupleGo_enum (s := { s with heap := h', toks := tk + 1 }) ho fun h'' he' sb => ?_⟩
    have hT2 : h''.get? s.heap.objs.size = some { cls := .type "tuple", data := .seq #[.int i tk, y] } := (sb.2 _ (Nat.ne_of_gt el)).trans hT
    have made : ObjOk X.prog X.w (upd H s.heap.objs.size (.tup [.int (i : Nat), x])) h'' s.heap.objs.size (.tup [.int (i : Nat), x]) :=
      ⟨by show 2 ≤ sizeLine; decide, [.int i tk, y], .cons ⟨_, rfl⟩ (.cons ru .nil), ⟨_, hT2, rfl, _, rfl⟩⟩
    have kp : ∀ b ob, b ∉ [e, it] → s.heap.get? b = some ob → h''.get? b = some ob := by
      intro b ob hb q
      simp only [List.mem_cons, List.not_mem_nil, or_false, not_or] at hb
      exact (sb.2 b hb.1).trans (hk b ob hb.1 hb.2 q)
    have I1 : Inv X pins σ (upd H s.heap.objs.size (.tup [.int (i : Nat), x])) { s with heap := h'', toks := tk + 1 } := I.turnedNew kp hf (Nat.le_refl _) made
    refine ⟨.ref s.heap.objs.size, _, I1, rfl, ⟨_, x, rfl, I.hok.fresh (Nat.le_refl _), rfl, fun ys hy => by rw [I.tuple_inj hy hq]; exact hx⟩, ⟨⟨y, ?_⟩, st.1.at fun o q => (sb.2 it (Ne.symm n1)).trans q, n1, n2⟩, ?_⟩
    · have ei : ((i + 1 : Nat) : Int) = (i : Int) + 1 := by omega
      rw [ei]
      exact he'
    · intro b hb
      have hz : b < s.heap.objs.size := by
        simp only [List.mem_cons, List.not_mem_nil, or_false] at hb
        rcases hb with rfl | rfl
        · exact el
        · exact il
      rw [upd_ne (Nat.ne_of_lt hz)]
      exact (hf b hb).1
  done := by
    rintro X rfl rfl rfl hc i pins s σ H E I hf ⟨⟨old, he⟩, hit, n1, n2⟩ ⟨xs, hq, hx⟩
    obtain ⟨its, rv, tp, _⟩ := I.tuple hq
    have ai : a ≠ it := by
      intro z
      subst z
      obtain ⟨o1, q1, c1, _⟩ := hit
      obtain ⟨o2, q2, c2, _⟩ := tp
      rw [q1] at q2
      cases q2
      rw [c1] at c2
      exact absurd (Value.type.inj c2) (by decide)
    obtain ⟨f0, f1, f2, f3, f4, f5⟩ := hf it (by simp)
    have hl := rv.length
    exact enum_over (I.ok.hd hc) he hit tp (by simp; omega) fun h' eb => ⟨rfl, I.turned (t' := s.toks) (fun b o hb q => eb b o hb q) f0 f1 f3 f4 f5⟩
  self := by
    rintro A i s Q E ⟨⟨_, he⟩, _⟩ h
    exact wpAny_pyIter_enum he h
theorem call_enumT {prog : Program} {w : World} {A : Around} {E : Value → Shared → Prop} {s : Shared} {t : Addr} {items : Array Value} {Q : Value → Shared → Prop} (hT : s.heap.IsTuple t items)
    (h : ∀ h', IsEnum h' (s.heap.objs.size + 1) s.heap.objs.size 0 .none → h'.IsTupleIter s.heap.objs.size t 0 →
      (∀ b o, s.heap.get? b = some o → h'.get? b = some o) → Q (.ref (s.heap.objs.size + 1)) { s with heap := h' }) :
    wpAny (model prog w) A (call (.type "enumerate") [.ref t]) Q E s := by
  let ob : Obj := { cls := .type "tuple_iterator", data := .fields #[.ref t, .int 0 0] }
  let en : Obj := { cls := .type "enumerate", data := .fields #[.none, .bool false, .ref s.heap.objs.size, rawInt 0, .none, .none] }
  refine callType_new F.called_enumerate (by decide) (F.typeCall_enumerate_1 _) (F.newCall_enumerate_1 _) (fun obj => F.args_object_init_2 obj _) F.entry_enumerate_new (enum_meets (begins_tuple t items)) ⟨hT, ?_⟩
  have hz : (s.heap.push ob).objs.size = s.heap.objs.size + 1 := Heap.size_push ..
  show _ ∧ _
  have he : ((s.heap.push ob).push en).get? (s.heap.objs.size + 1) = some en := by
    have z := Heap.get?_push_size (s.heap.push ob) (o := en) rfl
    rw [hz] at z
    exact z
  have kp : ∀ b o, s.heap.get? b = some o → ((s.heap.push ob).push en).get? b = some o := fun b o q => Heap.get?_push_of_some _ (Heap.get?_push_of_some _ q)
  have hi : ((s.heap.push ob).push en).get? s.heap.objs.size = some ob := Heap.get?_push_of_some _ (Heap.get?_push_size _ rfl)
  have fin := h ((s.heap.push ob).push en) he ⟨ob, hi, rfl, rfl⟩ kp
  rw [← hz] at fin he
  exact ⟨⟨en, he, rfl⟩, fin⟩
def iEnumT (K : PySem.W.Frag) (ta : TA) : TI := fun σ H R => ta σ H fun vs H1 => ∃ a xs, vs = [.ref a] ∧ SqT K H1 a xs ∧ R (ItE K a) H1
theorem pi_enumT {X : Cx} {e : Expr} {ta : TA} {p pos tpos : Pos} {elts : List Expr} {kk : Nat} (hg : Gl X "enumerate") (hm : X.mg "enumerate" = none) (ha : PA X [e] ta) (hs : starEach [e] X.env = [(false, eval e X.env)] := by rfl) :
    PI X (.Tuple elts kk tpos) (.Call (.Name "enumerate" p) [e] [] pos) (iEnumT X.K ta) := by
  constructor
  intro pins s σ H R I h
  refine Call_ (ld_blt I hg hm boot_enumerate (PyProof.Rows.callWith_type1 (thn (ha.run pos pins s σ H _ I h) ?_) hs rfl))
  rintro us s1 ⟨vs, H1, I1, r1, a, xs, rfl, hq, q⟩
  obtain ⟨u, rfl, ru⟩ := vals1 r1
  cases ru
  obtain ⟨its, rv, tp, _⟩ := I1.tuple hq
  refine call_enumT tp fun h' he hit hk => wpAny_pyIter_enum he ?_
  have I2 : Inv X pins σ H1 { s1 with heap := h' } := I1.kept (t' := s1.toks) hk
  have ea : s1.heap.objs.size + 1 ≠ a := by
    intro z
    obtain ⟨o, q, _⟩ := tp
    have h1 := Heap.lt_size q
    have h2 : s1.heap.objs.size < a := z ▸ Nat.lt_succ_self _
    exact Nat.lt_asymm h1 h2
  refine ⟨s1.heap.objs.size + 1, [s1.heap.objs.size + 1, s1.heap.objs.size], _, _, H1, rfl, I2, enum_turn a (s1.heap.objs.size + 1) s1.heap.objs.size, ⟨⟨.none, he⟩, hit, Nat.succ_ne_self _, ea⟩, ?_, q⟩
  intro b hb
  simp only [List.mem_cons, List.not_mem_nil, or_false] at hb
  have hle : s1.heap.objs.size ≤ b := by
    rcases hb with rfl | rfl
    · exact Nat.le_add_right _ _
    · exact Nat.le_refl _
  exact I1.fpOk hle (I1.hok.fresh hle)
/-- its turns -/
theorem walk_e {K : PySem.W.Frag} {Hs : Hp} {Qd : Hp → Prop} {T : V → Hp → (Hp → Prop) → Prop} {a : Addr} {xs : List V} (Pv : Nat → Hp → Prop) (h0 : Pv 0 Hs) (hl : ∀ i H, i ≤ xs.length → Pv i H → H a = some (.tup xs))
    (hs : ∀ (i : Nat) x H p, xs[i]? = some x → Pv i H → H p = none → T (.ref p) (upd H p (.tup [.int i, x])) (Pv (i + 1))) (hd : ∀ H, Pv xs.length H → Qd H) : WalkGoal (ItE K a) Hs Qd T := by
  refine ⟨fun i m H => m + i = xs.length ∧ Pv i H, ⟨xs.length, by omega, h0⟩, ?_⟩
  rintro i m H ⟨e, p⟩
  have q := SqT.of (K := K) (hl i H (by omega) p)
  by_cases c : i < xs.length
  · refine .inr ⟨⟨xs, xs[i], q, List.getElem?_eq_getElem c⟩, Pv (i + 1), fun H' p' => ⟨m - 1, by omega, by omega, p'⟩, ?_⟩
    rintro x H' ⟨t, y, rfl, nt, rfl, ey⟩
    exact hs i y H t (ey xs q) p nt
  · obtain rfl : i = xs.length := by omega
    exact .inl ⟨⟨xs, q, Nat.le_refl _⟩, hd H p⟩
/-- a comprehension over enumerate(t) -/
theorem lce {K : PySem.W.Frag} {S : List Addr} {J : Hp → Prop} {M : Nat → List PyData → Prop} {g : TG} {tt : TT} {te : TE} {vs : List Nat} {σ : Slots} {H1 : Hp} {D a : Addr} {Qd : Hp → Prop} {xs : List V}
    (C : LcC S J H1 D) (hs : H1 a = some (.tup xs)) (j0 : J H1) (m0 : M 0 [])
    (turn : ∀ i x p H ys ds, xs[i]? = some x → LcS S J M H1 D i H ys ds → H p = none → TurnGoal S J M g tt te vs σ H1 D i (.ref p) (upd H p (.tup [.int (i : Nat), x])))
    (done : ∀ H ys ds, LcS S J M H1 D xs.length H ys ds → Qd H) : LcGoal (ItE K a) g tt te vs σ H1 D Qd :=
  walk_e (K := K) (a := a) (xs := xs) (LcAny S J M H1 D) (C.zero j0 m0) (fun i H _ ⟨ys, ds, L⟩ => L.fr.tups _ _ hs) (fun i x H p hx ⟨ys, ds, L⟩ hp => turn i x p H ys ds hx L hp) (fun H ⟨ys, ds, L⟩ => done H ys ds L)
end Lt

set_option Elab.async false
set_option linter.all false
set_option maxRecDepth 100000
set_option maxHeartbeats 2000000
namespace Lt
open PySem PySem.Spec PyProof.Rows L2
/-! ## opposites, counted -/
theorem pair_of_two {n i j : Nat} (hi : i < n) (hj : j < n) : (min i j, max i j) ∈ pairsOf n ↔ i ≠ j := by
  rw [mem_pairsOf]
  show min i j < max i j ∧ max i j < n ↔ i ≠ j
  omega
theorem tied_self {n : Nat} {ps : List Pr} (w : WebOk n ps) {i : Nat} : tied ps i i = false := by
  refine decide_eq_false fun h => ?_
  have := mem_pairsOf.mp (w.ins _ h)
  simp only at this
  omega
theorem tied_opp {n : Nat} {ps : List Pr} (w : WebOk n ps) {i j : Nat} (hi : i < n) (hj : j < n) : tied (opp n ps) i j = (!decide (j = i) && !tied ps i j) := by
  unfold tied
  have h := pair_of_two hi hj
  have hm := mem_opp (n := n) (ps := ps) (p := (min i j, max i j))
  by_cases e : j = i
  · subst e
    rw [decide_eq_true rfl, decide_eq_false (fun z => (h.mp (hm.mp z).1) rfl)]
    rfl
  · rw [decide_eq_false e]
    by_cases c : (min i j, max i j) ∈ ps
    · rw [decide_eq_true c, decide_eq_false (fun z => (hm.mp z).2 c)]
      rfl
    · rw [decide_eq_false c, decide_eq_true (hm.mpr ⟨h.mpr (fun z => e z.symm), c⟩)]
      rfl
theorem filter_congr' {α : Type} {p q : α → Bool} {l : List α} (h : ∀ x ∈ l, p x = q x) : l.filter p = l.filter q := List.filter_congr h
theorem nbs_opp {n : Nat} {ps : List Pr} (w : WebOk n ps) {i : Nat} (hi : i < n) : nbs n (opp n ps) i = (List.range n).filter fun j => !decide (j = i) && !tied ps i j :=
  filter_congr' fun j m => tied_opp w hi (List.mem_range.mp m)
theorem count3 {t : Nat → Bool} {i : Nat} (hs : t i = false) : ∀ n, ((List.range n).filter t).length + ((List.range n).filter fun j => !decide (j = i) && !t j).length + (if i < n then 1 else 0) = n
  | 0 => by simp
  | n + 1 => by
    have ih := count3 hs n
    rw [List.range_succ, List.filter_append, List.filter_append, List.length_append, List.length_append]
    by_cases e : n = i
    · subst e
      have h1 : ([n].filter t) = [] := by simp [hs]
      have h2 : ([n].filter fun j => !decide (j = n) && !t j) = [] := by simp
      rw [h1, h2]
      simp only [List.length_nil, Nat.lt_irrefl, if_false, Nat.lt_succ_self, if_true] at ih ⊢
      omega
    · have h3 : (if i < n + 1 then 1 else 0) = (if i < n then 1 else 0 : Nat) := by
        by_cases c : i < n
        · rw [if_pos c, if_pos (by omega)]
        · rw [if_neg c, if_neg (by omega)]
      rw [h3]
      cases c : t n with
      | true =>
        have h1 : ([n].filter t) = [n] := by simp [c]
        have h2 : ([n].filter fun j => !decide (j = i) && !t j) = [] := by simp [c]
        rw [h1, h2]
        simp only [List.length_cons, List.length_nil]
        omega
      | false =>
        have h1 : ([n].filter t) = [] := by simp [c]
        have h2 : ([n].filter fun j => !decide (j = i) && !t j) = [n] := by simp [c, e]
        rw [h1, h2]
        simp only [List.length_cons, List.length_nil]
        omega
theorem nbs_opp_len {n : Nat} {ps : List Pr} (w : WebOk n ps) {i : Nat} (hi : i < n) : (nbs n ps i).length + (nbs n (opp n ps) i).length + 1 = n := by
  rw [nbs_opp w hi]
  have h := count3 (t := fun j => tied ps i j) (i := i) (tied_self w) n
  rw [if_pos hi] at h
  exact h
theorem nums_opp {n : Nat} {ps : List Pr} (w : WebOk n ps) : nums n (opp n ps) = (nums n ps).map fun k => n - 1 - k := by
  unfold nums
  rw [List.map_map]
  refine List.map_congr_left fun i m => ?_
  have := nbs_opp_len w (List.mem_range.mp m)
  show _ = n - 1 - (nbs n ps i).length
  omega
theorem nums_lt {n : Nat} {ps : List Pr} (w : WebOk n ps) {k : Nat} (h : k ∈ nums n ps) : k + 1 ≤ n := by
  unfold nums at h
  obtain ⟨i, m, rfl⟩ := List.mem_map.mp h
  have := nbs_opp_len w (List.mem_range.mp m)
  omega
theorem mem_odds {n : Nat} {ps : List Pr} {i : Nat} : i ∈ odds n ps ↔ i < n ∧ (nbs n ps i).length % 2 = 1 := by
  unfold odds
  rw [List.mem_filter, List.mem_range, beq_iff_eq]
theorem odds_opp_odd {n : Nat} {ps : List Pr} (w : WebOk n ps) (h : n % 2 = 1) : odds n (opp n ps) = odds n ps := by
  unfold odds
  refine filter_congr' fun i m => ?_
  have := nbs_opp_len w (List.mem_range.mp m)
  rw [Bool.eq_iff_iff, beq_iff_eq, beq_iff_eq]
  omega
theorem odds_opp_even {n : Nat} {ps : List Pr} (w : WebOk n ps) (h : n % 2 = 0) : odds n (opp n ps) = (List.range n).filter fun i => !decide (i ∈ odds n ps) := by
  unfold odds
  refine filter_congr' fun i m => ?_
  have := nbs_opp_len w (List.mem_range.mp m)
  have hm := mem_odds (n := n) (ps := ps) (i := i)
  have hi := List.mem_range.mp m
  rw [Bool.eq_iff_iff, beq_iff_eq, Bool.not_eq_true', decide_eq_false_iff_not]
  show _ ↔ ¬ i ∈ odds n ps
  rw [hm]
  omega
theorem opp_len {n : Nat} {ps : List Pr} (w : WebOk n ps) : ps.length + (opp n ps).length = (pairsOf n).length := by
  have h : ∀ l : List Pr, (l.filter fun p => decide (p ∈ ps)).length + (l.filter fun p => !decide (p ∈ ps)).length = l.length := by
    intro l
    induction l with
    | nil => rfl
    | cons x xs ih =>
      rw [List.filter_cons, List.filter_cons]
      by_cases c : x ∈ ps
      · simp only [c, decide_true, if_true, Bool.not_true, Bool.false_eq_true, if_false, List.length_cons]
        omega
      · simp only [c, decide_false, Bool.false_eq_true, if_false, Bool.not_false, if_true, List.length_cons]
        omega
  have := h (pairsOf n)
  rw [w.eq] at this
  exact this
theorem row_opp {n : Nat} {ps : List Pr} : rowOf n (opp n ps) = (rowOf n ps).map fun k => 1 - k := by
  unfold rowOf
  rw [List.map_map]
  refine List.map_congr_left fun p m => ?_
  show (if p ∈ opp n ps then 1 else 0) = 1 - (if p ∈ ps then 1 else 0)
  have := mem_opp (n := n) (ps := ps) (p := p)
  by_cases c : p ∈ ps
  · rw [if_pos c, if_neg (fun z => (this.mp z).2 c)]
  · rw [if_neg c, if_pos (this.mpr ⟨m, c⟩)]
theorem row_le {n : Nat} {ps : List Pr} {k : Nat} (h : k ∈ rowOf n ps) : k ≤ 1 := by
  unfold rowOf at h
  obtain ⟨p, m, rfl⟩ := List.mem_map.mp h
  split <;> omega
theorem row_len (n : Nat) (ps : List Pr) : (rowOf n ps).length = (pairsOf n).length := List.length_map ..
theorem opp_inj {n : Nat} {ps qs : List Pr} (w : WebOk n ps) (w' : WebOk n qs) (h : opp n ps = opp n qs) : ps = qs := by
  rw [← w.opp2, h, w'.opp2]
/-- a dP-web's equality -/
theorem dW_inj {n m : Nat} {ps qs : List Pr} (h : dW n ps = dW m qs) : n = m ∧ ps = qs := by
  simp only [dW, PyData.tuple.injEq, List.cons.injEq, PyData.int.injEq, and_true] at h
  exact ⟨by omega, dPs_inj h.2⟩
theorem cln_dW (n : Nat) (ps : List Pr) : cln (dW n ps) = true := by
  show (true && (clnAll (dPs ps) && true)) = true
  rw [cln_dPs]
  rfl
theorem eqv_dW {n m : Nat} {ps qs : List Pr} : PyData.eqv (dW n ps) (dW m qs) = decide (n = m ∧ ps = qs) := by
  rw [Bool.eq_iff_iff, eqv_iff (cln_dW _ _) (cln_dW _ _), decide_eq_true_iff]
  constructor
  · exact dW_inj
  · rintro ⟨rfl, rfl⟩
    rfl
end Lt

set_option Elab.async false
set_option linter.all false
set_option maxRecDepth 100000
set_option maxHeartbeats 4000000
namespace Lt
open PySem PySem.Spec PyProof.Rows L2
/-! ## zip(l, t), l a list, t a tuple -/
/-- the list at a and the tuple at b as they stand at each turn, the items in new pairs -/
def ItzM (K : PySem.W.Frag) (a b : Addr) : It :=
  ⟨fun i H => ∃ (xs ys : List V) (x y : V), SqL K H a xs ∧ SqT K H b ys ∧ xs[i]? = some x ∧ ys[i]? = some y,
    fun i H v H' => ∃ T x y, v = .ref T ∧ H T = none ∧ H' = upd H T (.tup [x, y]) ∧ (∀ xs, SqL K H a xs → xs[i]? = some x) ∧ ∀ ys, SqT K H b ys → ys[i]? = some y,
    fun i H => ∃ xs ys : List V, SqL K H a xs ∧ SqT K H b ys ∧ xs.length = i ∧ ys.length = i⟩
theorem sep_of {z TI TO i1 i2 a b : Addr} (D : ZipApart z TI TO i1 i2 a b) : ZipSep2 z TI TO i1 i2 [i1, a] [i2, b] where
  TIz := D.TIz
  TOz := D.TOz
  TITO := D.TITO
  TIi1 := D.TIi1
  mem1 := by simp
  zf1 := by simp [D.i1z.symm, D.l1z.symm]
  Tf1 := by simp [D.TOi1, D.l1TO.symm]
  TIi2 := D.TIi2
  mem2 := by simp
  zf2 := by simp [D.i2z.symm, D.l2z.symm]
  Tf2 := by simp [D.TOi2, D.l2TO.symm]
  sep1_2 := by simp [D.i12, D.l2i1.symm]
  sep2_1 := by simp [D.i12.symm, D.l1i2.symm]
theorem turn_zipM {P : Program} {w : World} {K : PySem.W.Frag} {elts : List Expr} {kk : Nat} {tpos : Pos} {a b z TI TO i1 i2 : Addr} (D : ZipApart z TI TO i1 i2 a b) :
    Turn P w K (.Tuple elts kk tpos) (ItzM K a b) [z, TI, TO, i1, i2] z (fun i h => IsZip h z TI TO .none ∧ IsTupOf2 h TI (.ref i1) (.ref i2) ∧ (∃ x y, IsTupOf2 h TO x y) ∧ h.IsListIter i1 a i ∧ h.IsTupleIter i2 b i) where
  mem := by simp
  obj := fun i h st c hc => by
    obtain ⟨hz, hTI, ⟨x, y, hTO⟩, ⟨o1, e1, _, d1⟩, ⟨o2, e2, _, d2⟩⟩ := st
    have e' : c = z ∨ c = TI ∨ c = TO ∨ c = i1 ∨ c = i2 := by simpa using hc
    rcases e' with q | q | q | q | q
    · rw [q]; exact ⟨_, hz, fun v q => nomatch q⟩
    · rw [q]; exact ⟨_, hTI, fun v q => nomatch q⟩
    · rw [q]; exact ⟨_, hTO, fun v q => nomatch q⟩
    · rw [q]; exact ⟨o1, e1, fun v q => by rw [d1] at q; cases q⟩
    · rw [q]; exact ⟨o2, e2, fun v q => by rw [d2] at q; cases q⟩
  keep := fun i h h' st k => by
    obtain ⟨hz, hTI, ⟨x, y, hTO⟩, h1, h2⟩ := st
    exact ⟨k z (by simp) _ hz, k TI (by simp) _ hTI, ⟨x, y, k TO (by simp) _ hTO⟩, h1.at fun o q => k i1 (by simp) o q, h2.at fun o q => k i2 (by simp) o q⟩
  item := by
    intro X hP hw hK hc i pins s σ H E I hf st hg
    subst hP hw hK
    obtain ⟨hz, hTI, ⟨x0, y0, hTO⟩, h1, h2⟩ := st
    obtain ⟨xs, ys, x, y, hqx, hqy, hx, hy⟩ := hg
    obtain ⟨its, rv, p, _⟩ := I.list hqx
    obtain ⟨its2, rv2, p2, _⟩ := I.tuple hqy
    obtain ⟨u, hu, ru⟩ := rv.get hx
    obtain ⟨u2, hu2, ru2⟩ := rv2.get hy
    have hzl : z < s.heap.objs.size := Heap.lt_size hz
    have D1 := Draws.list (prog := X.prog) (w := X.w) (A := X.A.in1) (I.ok.hd hc) i1 a D.l1i1 its.toArray
    have D2 := Draws.tuple (prog := X.prog) (w := X.w) (A := X.A.in1) (I.ok.hd hc) i2 b D.l2i2 its2.toArray
    have hlt1 : i < its.toArray.size := by
      have := (List.getElem?_eq_some_iff.mp hu).1
      simpa using this
    have hlt2 : i < its2.toArray.size := by
      have := (List.getElem?_eq_some_iff.mp hu2).1
      simpa using this
    refine wpAny_pyNext_zipD2_item (sep_of D) D1 D2 hz hTI hTO ⟨h1, p.isList⟩ ⟨h2, p2⟩ hlt1 hlt2 fun v1 v2 h' tk hv1 hv2 z' TO' st1' st2' hT hsz hk => ?_
    have e1 : v1 = u := by
      have hy' : its[i]? = some v1 := by simpa using hv1
      rw [hu] at hy'
      exact (Option.some.inj hy').symm
    have e2 : v2 = u2 := by
      have hy' : its2[i]? = some v2 := by simpa using hv2
      rw [hu2] at hy'
      exact (Option.some.inj hy').symm
    subst e1 e2
    refine ⟨_, rfl, wpAny_letOwnedTupleGo_zip (s := { s with heap := h', toks := tk }) z' fun h'' z'' sb => ?_⟩
    have hT2 : h''.get? s.heap.objs.size = some { cls := .type "tuple", data := .seq #[v1, v2] } := (sb.2 _ (Nat.ne_of_gt hzl)).trans hT
    have new : ObjOk X.prog X.w (upd H s.heap.objs.size (.tup [x, y])) h'' s.heap.objs.size (.tup [x, y]) :=
      ⟨by show 2 ≤ sizeLine; decide, [v1, v2], .cons ru (.cons ru2 .nil), ⟨_, hT2, rfl, _, rfl⟩⟩
    have I1 : Inv X pins σ (upd H s.heap.objs.size (.tup [x, y])) { s with heap := h'', toks := tk } :=
      I.turnedNew (t' := tk) (ch := [z, TI, TO, i1, i2]) (fun c o hb q => (sb.2 c (fun q' => hb (by simp [q']))).trans (hk c o (fun q' => hb (by simp [q'])) (fun q' => hb (by simp [q'])) (fun q' => hb (by simp [q'])) (fun q' => hb (by simp [q'])) q)) hf (Nat.le_refl _) new
    refine ⟨.ref s.heap.objs.size, _, I1, rfl, ⟨_, x, y, rfl, I.hok.fresh (Nat.le_refl _), rfl, fun l hl => by rw [I.list_inj hl hqx]; exact hx, fun l hl => by rw [I.tuple_inj hl hqy]; exact hy⟩, ⟨z'', ?_, ⟨v1, v2, ?_⟩, ?_, ?_⟩, fun c hcm => ?_⟩
    · exact (sb.2 _ D.TIz).trans (hk _ _ D.TIz D.TITO D.TIi1 D.TIi2 hTI)
    · exact (sb.2 _ D.TOz).trans TO'
    · exact st1'.1.at fun o q => (sb.2 _ D.i1z).trans q
    · exact st2'.1.at fun o q => (sb.2 _ D.i2z).trans q
    · have hlt : c < s.heap.objs.size := by
        have e' : c = z ∨ c = TI ∨ c = TO ∨ c = i1 ∨ c = i2 := by simpa using hcm
        rcases e' with q | q | q | q | q
        · rw [q]; exact hzl
        · rw [q]; exact Heap.lt_size hTI
        · rw [q]; exact Heap.lt_size hTO
        · rw [q]; obtain ⟨_, e1, _⟩ := h1; exact Heap.lt_size e1
        · rw [q]; obtain ⟨_, e2, _⟩ := h2; exact Heap.lt_size e2
      rw [upd_ne (Nat.ne_of_lt hlt)]
      exact (hf c hcm).1
  done := by
    intro X hP hw hK hc i pins s σ H E I hf st hg
    subst hP hw hK
    obtain ⟨hz, hTI, ⟨x0, y0, hTO⟩, h1, h2⟩ := st
    obtain ⟨xs, ys, hqx, hqy, ex, ey⟩ := hg
    obtain ⟨its, rv, p, _⟩ := I.list hqx
    obtain ⟨its2, rv2, p2, _⟩ := I.tuple hqy
    have l1 := rv.length
    have l2 := rv2.length
    have D1 := Draws.list (prog := X.prog) (w := X.w) (A := X.A.in1) (I.ok.hd hc) i1 a D.l1i1 its.toArray
    have D2 := Draws.tuple (prog := X.prog) (w := X.w) (A := X.A.in1) (I.ok.hd hc) i2 b D.l2i2 its2.toArray
    refine wpAny_pyNext_zipD2_end (sep_of D) D1 D2 hz hTI hTO ⟨h1, p.isList⟩ ⟨h2, p2⟩ (by simp; omega) (by simp; omega) (.inl (by simp; omega)) fun h' tk hk => ⟨rfl, I.turnedL (t' := tk) (ch := [z, TI, TO, i1, i2]) (fun c o hb q =>
      hk c o (fun q' => hb (by simp [q'])) (fun q' => hb (by simp [q'])) (fun q' => hb (by simp [q'])) (fun q' => hb (by simp [q'])) q) hf⟩
  self := fun A i s Q E st h => wpAny_pyIter_zip st.1 h
def iZipM (K : PySem.W.Frag) (ta : TA) : TI := fun σ H R => ta σ H fun vs H1 => ∃ a b xs ys, vs = [.ref a, .ref b] ∧ SqL K H1 a xs ∧ SqT K H1 b ys ∧ R (ItzM K a b) H1
theorem pi_zipM {X : Cx} {e e2 : Expr} {ta : TA} {p pos tpos : Pos} {elts : List Expr} {kk : Nat} (hg : Gl X "zip") (hm : X.mg "zip" = none) (ha : PA X [e, e2] ta)
    (hs : starEach [e, e2] X.env = (false, eval e X.env) :: starEach [e2] X.env := by rfl) (hpl : (backTo pos (starEach [e2] X.env)).any (·.1) = false := by rfl) :
    PI X (.Tuple elts kk tpos) (.Call (.Name "zip" p) [e, e2] [] pos) (iZipM X.K ta) := by
  refine ⟨fun pins s σ H R I h => ?_⟩
  refine Call_ (ld_blt I hg hm PyProof.Rows.boot_zip (PyProof.Rows.callWith_type1 (thn (ha.run pos pins s σ H _ I h) fun us s1 ⟨vs, H1, I1, r1, q1⟩ => ?_) hs hpl))
  obtain ⟨a, b, xs, ys, ex, hqx, hqy, q⟩ := q1
  subst ex
  cases r1 with
  | cons r rr =>
    cases rr with
    | cons r' rr =>
      cases rr
      cases r
      cases r'
      have fresh5 : ∀ c, c ∈ [s1.heap.objs.size + 4, s1.heap.objs.size + 2, s1.heap.objs.size + 3, s1.heap.objs.size, s1.heap.objs.size + 1] → FpOk X pins H1 c := fun c hcm => by
        have e' : c = s1.heap.objs.size + 4 ∨ c = s1.heap.objs.size + 2 ∨ c = s1.heap.objs.size + 3 ∨ c = s1.heap.objs.size ∨ c = s1.heap.objs.size + 1 := by simpa using hcm
        have hle : s1.heap.objs.size ≤ c := by
          rcases e' with z | z | z | z | z
          · rw [z]; exact Nat.le_add_right _ _
          · rw [z]; exact Nat.le_add_right _ _
          · rw [z]; exact Nat.le_add_right _ _
          · rw [z]; exact Nat.le_refl _
          · rw [z]; exact Nat.le_add_right _ _
        exact I1.fpOk hle (I1.hok.fresh hle)
      obtain ⟨its, rv, p1, _⟩ := I1.list hqx
      obtain ⟨its2, rv2, p2, _⟩ := I1.tuple hqy
      obtain ⟨o2, ho2, _⟩ := id p2
      refine zip_begins2 (begins_list a its.toArray) (begins_tuple b its2.toArray) p1.isList p2 fun h' hz hTI hTO h1 h2 hsz hk => wpAny_pyIter_zip hz ?_
      have I2 : Inv X pins σ H1 { s1 with heap := h' } := I1.kept (t' := s1.toks) hk
      exact ⟨s1.heap.objs.size + 4, [s1.heap.objs.size + 4, s1.heap.objs.size + 2, s1.heap.objs.size + 3, s1.heap.objs.size, s1.heap.objs.size + 1], _, _, H1, rfl, I2, turn_zipM (PySem.W.ktu_apart s1.heap.objs.size a b p1.lt (Heap.lt_size ho2)),
        ⟨hz, hTI, ⟨_, _, hTO⟩, ⟨_, h1, rfl, rfl⟩, ⟨_, h2, rfl, rfl⟩⟩, fresh5, q⟩
/-- its turns -/
theorem walk_z {K : PySem.W.Frag} {Hs : Hp} {Qd : Hp → Prop} {T : V → Hp → (Hp → Prop) → Prop} {a b : Addr} {xs ys : List V} (Pv : Nat → Hp → Prop) (h0 : Pv 0 Hs) (hl : ∀ i H, i ≤ xs.length → Pv i H → SqL K H a xs ∧ H b = some (.tup ys)) (hxy : xs.length = ys.length)
    (hs : ∀ (i : Nat) x y H p, xs[i]? = some x → ys[i]? = some y → Pv i H → H p = none → T (.ref p) (upd H p (.tup [x, y])) (Pv (i + 1))) (hd : ∀ H, Pv xs.length H → Qd H) : WalkGoal (ItzM K a b) Hs Qd T := by
  refine ⟨fun i m H => m + i = xs.length ∧ Pv i H, ⟨xs.length, by omega, h0⟩, ?_⟩
  rintro i m H ⟨e, p⟩
  obtain ⟨q1, q2⟩ := hl i H (by omega) p
  have q2 := SqT.of (K := K) q2
  by_cases c : i < xs.length
  · refine .inr ⟨⟨xs, ys, xs[i], ys[i], q1, q2, List.getElem?_eq_getElem c, List.getElem?_eq_getElem (by omega)⟩, Pv (i + 1), fun H' p' => ⟨m - 1, by omega, by omega, p'⟩, ?_⟩
    rintro x H' ⟨t, y, z, rfl, nt, rfl, ey, ez⟩
    exact hs i y z H t (ey xs q1) (ez ys q2) p nt
  · obtain rfl : i = xs.length := by omega
    exact .inl ⟨⟨xs, ys, q1, q2, rfl, hxy.symm⟩, hd H p⟩
/-- a comprehension over zip(l, t) -/
theorem lcz {K : PySem.W.Frag} {S : List Addr} {J : Hp → Prop} {M : Nat → List PyData → Prop} {g : TG} {tt : TT} {te : TE} {vs : List Nat} {σ : Slots} {H1 : Hp} {D a b : Addr} {Qd : Hp → Prop} {xs ys : List V}
    (C : LcC S J H1 D) (ha : SqL K H1 a xs) (na : a ∉ S) (hb : H1 b = some (.tup ys)) (hxy : xs.length = ys.length) (j0 : J H1) (m0 : M 0 [])
    (turn : ∀ i x y p H zs ds, xs[i]? = some x → ys[i]? = some y → LcS S J M H1 D i H zs ds → H p = none → TurnGoal S J M g tt te vs σ H1 D i (.ref p) (upd H p (.tup [x, y])))
    (done : ∀ H zs ds, LcS S J M H1 D xs.length H zs ds → Qd H) : LcGoal (ItzM K a b) g tt te vs σ H1 D Qd :=
  walk_z (K := K) (a := a) (b := b) (xs := xs) (ys := ys) (LcAny S J M H1 D) (C.zero j0 m0) (fun i H _ ⟨zs, ds, L⟩ => ⟨L.fr.seqL na ha, L.fr.tups _ _ hb⟩) hxy (fun i x y H p hx hy ⟨zs, ds, L⟩ hp => turn i x y p H zs ds hx hy L hp) (fun H ⟨zs, ds, L⟩ => done H zs ds L)
/-! ## sum of a tuple of ints -/
def rSumT (K : PySem.W.Frag) : List V → Hp → VK → Prop := fun vs H Q => ∃ (a : Addr) (ns : List Int), vs = [V.ref a] ∧ SqT K H a (ns.map V.int) ∧ Q (.int ns.sum) H
theorem cr_sumT {X : Cx} (hc : X.calm = true) : CallR X (.builtin "sum") (rSumT X.K) := by
  intro pins s σ H vs us Q I r h
  obtain ⟨a, ns, rfl, hs, q⟩ := h
  obtain ⟨its, rv, hl, _⟩ := I.tuple hs
  rw [Vals.ref1 r]
  have hi := rv.ints
  obtain ⟨xs, e⟩ := hi.allInts.items
  have hn : numsOf (intItems xs).toList = ns := by rw [← e]; exact hi.numsOf
  rw [nums_intItems] at hn
  have hl : s.heap.IsTuple a its.toArray := hl
  rw [e] at hl
  refine PySem.W.ktm_sumG (I.ok.hd hc) hl fun h' tk t' hk => ?_
  rw [preSum_eq, List.take_of_length_le (by simp), hn]
  exact ⟨.int _, H, I.kept hk, ⟨_, rfl⟩, q⟩
theorem sumTK {X : Cx} (K : PySem.W.Frag) (hc : X.calm = true) (h : X.K = K := by rfl) : CallR X (.builtin "sum") (rSumT K) := h ▸ cr_sumT hc
end Lt

set_option Elab.async false
set_option linter.all false
set_option maxRecDepth 100000
set_option maxHeartbeats 4000000
namespace Lt
open PySem PySem.Spec PyProof.Rows L2
def topS (i : Nat) : Stmt := PySem.Challenge.pw_liftedties_k02_whole_rows_numbers_and_ne.main.body.getD i (.Pass ⟨0, 0, 0, 0⟩)
abbrev s_pairs_of : Stmt := topS 1
abbrev N_pairs_of : List Str := ["many", "one", "other"]
theorem sc_pairs_of : FnScope ["many", "one", "other"] ["many"] (defScope s_pairs_of) := ⟨rfl, rfl, rfl, by decide +kernel, rfl, by decide +kernel, by decide +kernel⟩
abbrev s_in_order : Stmt := topS 2
abbrev N_in_order : List Str := ["one", "other"]
theorem sc_in_order : FnScope ["one", "other"] ["one", "other"] (defScope s_in_order) := ⟨rfl, rfl, rfl, by decide +kernel, rfl, by decide +kernel, by decide +kernel⟩
abbrev s_row_of : Stmt := topS 3
abbrev N_row_of : List Str := ["web", "many", "ties", "pair"]
theorem sc_row_of : FnScope ["web", "many", "ties", "pair"] ["web"] (defScope s_row_of) := ⟨rfl, rfl, rfl, by decide +kernel, rfl, by decide +kernel, by decide +kernel⟩
abbrev s_web_of : Stmt := topS 4
abbrev N_web_of : List Str := ["many", "row", "pair", "tied"]
theorem sc_web_of : FnScope ["many", "row", "pair", "tied"] ["many", "row"] (defScope s_web_of) := ⟨rfl, rfl, rfl, by decide +kernel, rfl, by decide +kernel, by decide +kernel⟩
abbrev s_is_tied : Stmt := topS 5
abbrev N_is_tied : List Str := ["web", "place", "mate"]
theorem sc_is_tied : FnScope ["web", "place", "mate"] ["web", "place", "mate"] (defScope s_is_tied) := ⟨rfl, rfl, rfl, by decide +kernel, rfl, by decide +kernel, by decide +kernel⟩
abbrev s_neighbours : Stmt := topS 6
abbrev N_neighbours : List Str := ["web", "place", "mate"]
theorem sc_neighbours : FnScope ["web", "place", "mate"] ["web", "place"] (defScope s_neighbours) := ⟨rfl, rfl, rfl, by decide +kernel, rfl, by decide +kernel, by decide +kernel⟩
abbrev s_numbers : Stmt := topS 7
abbrev N_numbers : List Str := ["web", "place"]
theorem sc_numbers : FnScope ["web", "place"] ["web"] (defScope s_numbers) := ⟨rfl, rfl, rfl, by decide +kernel, rfl, by decide +kernel, by decide +kernel⟩
abbrev s_odd_places : Stmt := topS 8
abbrev N_odd_places : List Str := ["web", "place", "number"]
theorem sc_odd_places : FnScope ["web", "place", "number"] ["web"] (defScope s_odd_places) := ⟨rfl, rfl, rfl, by decide +kernel, rfl, by decide +kernel, by decide +kernel⟩
abbrev s__law_stock : Stmt := topS 10
abbrev N__law_stock : List Str := ["script", "flat", "cell"]
theorem sc__law_stock : FnScope ["script", "flat", "cell"] ["script"] (defScope s__law_stock) := ⟨rfl, rfl, rfl, by decide +kernel, rfl, by decide +kernel, by decide +kernel⟩
abbrev s__law_draw : Stmt := topS 11
abbrev N__law_draw : List Str := ["stock", "size", "great", "turn", "cell", "blend"]
theorem sc__law_draw : FnScope ["stock", "size", "great", "turn", "cell", "blend"] ["stock", "size"] (defScope s__law_draw) := ⟨rfl, rfl, rfl, by decide +kernel, rfl, by decide +kernel, by decide +kernel⟩
abbrev s__law_shuffled : Stmt := topS 12
abbrev N__law_shuffled : List Str := ["stock", "row", "rest", "found", "turn"]
theorem sc__law_shuffled : FnScope ["stock", "row", "rest", "found", "turn"] ["stock", "row"] (defScope s__law_shuffled) := ⟨rfl, rfl, rfl, by decide +kernel, rfl, by decide +kernel, by decide +kernel⟩
abbrev s__law_pairs : Stmt := topS 13
abbrev N__law_pairs : List Str := ["many", "found", "a", "b"]
theorem sc__law_pairs : FnScope ["many", "found", "a", "b"] ["many"] (defScope s__law_pairs) := ⟨rfl, rfl, rfl, by decide +kernel, rfl, by decide +kernel, by decide +kernel⟩
abbrev s__law_named : Stmt := topS 14
abbrev N__law_named : List Str := ["many", "ties", "names", "a", "b"]
theorem sc__law_named : FnScope ["many", "ties", "names", "a", "b"] ["many", "ties", "names"] (defScope s__law_named) := ⟨rfl, rfl, rfl, by decide +kernel, rfl, by decide +kernel, by decide +kernel⟩
abbrev s__law_web : Stmt := topS 15
abbrev N__law_web : List Str := ["stock", "least", "most", "many", "way", "every", "ties", "share", "a", "pair"]
theorem sc__law_web : FnScope ["stock", "least", "most", "many", "way", "every", "ties", "share", "a", "pair"] ["stock", "least", "most"] (defScope s__law_web) := ⟨rfl, rfl, rfl, by decide +kernel, rfl, by decide +kernel, by decide +kernel⟩
abbrev s__law_beside : Stmt := topS 16
abbrev N__law_beside : List Str := ["web", "place", "a", "b"]
theorem sc__law_beside : FnScope ["web", "place", "a", "b"] ["web", "place"] (defScope s__law_beside) := ⟨rfl, rfl, rfl, by decide +kernel, rfl, by decide +kernel, by decide +kernel⟩
abbrev s__law_is_right : Stmt := topS 17
abbrev N__law_is_right : List Str := ["stock", "web", "many", "ties", "every", "known", "row", "told", "place", "sizes", "odd", "due", "mate", "pair"]
theorem sc__law_is_right : FnScope ["stock", "web", "many", "ties", "every", "known", "row", "told", "place", "sizes", "odd", "due", "mate", "pair"] ["stock", "web"] (defScope s__law_is_right) := ⟨rfl, rfl, rfl, by decide +kernel, rfl, by decide +kernel, by decide +kernel⟩
abbrev s_law : Stmt := topS 18
abbrev N_law : List Str := ["script", "stock", "turn", "many", "every", "row", "known", "web", "due", "pair", "at"]
theorem sc_law : FnScope ["script", "stock", "turn", "many", "every", "row", "known", "web", "due", "pair", "at"] ["script"] (defScope s_law) := ⟨rfl, rfl, rfl, by decide +kernel, rfl, by decide +kernel, by decide +kernel⟩
end Lt

set_option Elab.async false
set_option linter.all false
set_option maxRecDepth 100000
set_option maxHeartbeats 4000000
namespace Lt
open PySem PySem.Spec PyProof.Rows L2
section
variable {P : Program} {w : World} {K : PySem.W.Frag} {mg : Str → Option Value} {base : Heap} {f : Addr} {fd : FuncData}
def spInOrder : Sp := fun vs H Q _ => ∃ i j : Nat, vs = [.int i, .int j] ∧ Ret H (dP (min i j, max i j)) Q
theorem ok_in_order (F : FnP K "in_order" s_in_order f fd) (g_min : mg "min" = none) (g_max : mg "max" = none) : FnG P w K mg base CX0 1 f fd ["one", "other"] spInOrder := by
  refine okG0 F sc_in_order (fun vs H Q E h => ?_) (fun cdv A outer s H vs Q E hS hr h => ?_)
  · obtain ⟨_, _, rfl, _⟩ := h
    rfl
  · obtain ⟨i, j, rfl, q⟩ := h
    refine ⟨_, (pss_one (ps_ret (pe_tup (pa_cons (pe_callB (call_min2 rfl) (by rfl) g_min (by decide +kernel) (pa_cons (pv 0) (pa_cons (pv 1) pa_nil))) (pa_cons (pe_callB (call_max2 rfl) (by rfl) g_max (by decide +kernel) (pa_cons (pv 0) (pa_cons (pv 1) pa_nil))) pa_nil))))), ?_⟩
    refine ⟨_, rfl, _, rfl, _, _, rfl, _, rfl, _, rfl, _, _, rfl, szl (Nat.le_of_ble_eq_true rfl), fun p hp => ?_⟩
    refine q _ _ (Fr.new hp) ?_
    have e1 : (if (j : Int) < (i : Int) then (j : Int) else (i : Int)) = ((min i j : Nat) : Int) := by split <;> omega
    have e2 : (if (j : Int) > (i : Int) then (j : Int) else (i : Int)) = ((max i j : Nat) : Int) := by split <;> omega
    rw [e1, e2]
    exact Tp.pr upd_same
def spPairs : Sp := fun vs H Q _ => ∃ n : Nat, vs = [.int n] ∧ n ≤ 20 ∧ RetL H (dPs (pairsOf n)) Q
theorem ok_pairs_of (F : FnP K "pairs_of" s_pairs_of f fd) (g_range : mg "range" = none) : FnG P w K mg base CX0 1 f fd ["many"] spPairs := by
  refine okG0 F sc_pairs_of (fun vs H Q E h => ?_) (fun cdv A outer s H vs Q E hS hr h => ?_)
  · obtain ⟨_, rfl, _⟩ := h
    rfl
  · obtain ⟨n, rfl, hn, q⟩ := h
    refine ⟨_, (pss_one (ps_ret (pe_lc2 (own := [("one", 1), ("other", 2)]) (vs1 := [2]) (g := (gName 1)) (g1 := (gName 2)) (tt := tYes) (tt1 := tYes) rfl sc_pairs_of.nd (pi_range1 rfl g_range (pa_cons (pv 0) pa_nil)) (blkOk_by (own := [("one", 1), ("other", 2)]) (N := N_pairs_of) (sc := defScope s_pairs_of) (by decide +kernel)) (by decide) (fun _ _ _ _ _ => (pg_name (i := 1) sc_pairs_of.nd rfl (Or.inl rfl))) (fun _ _ _ _ _ => pts_nil) (fun _ _ _ _ _ => (pi_range2 rfl g_range (pa_cons (pe_op op_add (pv 1) pe_int) (pa_cons (pv 0) pa_nil)))) (fun _ _ _ _ _ => (pg_name (i := 2) sc_pairs_of.nd rfl (Or.inl rfl))) (fun _ _ _ _ _ => pts_nil) (fun _ _ _ _ _ => (pe_tup (pa_cons (pv 1) (pa_cons (pv 2) pa_nil))))))), ?_⟩
    refine ⟨_, rfl, n, rfl, by omega, by omega, fun D hD => ?_⟩
    refine walk_r (fun i H' => ∃ ys, Fr [] H H' ∧ H' D = some (.lst ys) ∧ Tps H' ys (dPs (pairsTo n i))) ⟨[], Fr.new hD, upd_same, .nil⟩ ?_ ?_
    · rintro i H1 hi ⟨ys, f1, e1, t1⟩
      have hi : i < n := hi
      refine ⟨rfl, tyes ?_⟩
      refine ⟨_, rfl, _, _, rfl, rfl, _, rfl, ((0 : Int) + i) + 1, n, rfl, ⟨by omega, by omega, by omega, by omega⟩, ?_⟩
      have hm : ((n : Int) - (((0 : Int) + i) + 1)).toNat = n - (i + 1) := by omega
      refine walk_r (fun j H' => ∃ ys, Fr [] H H' ∧ H' D = some (.lst ys) ∧ Tps H' ys (dPs (pairsTo n i ++ (rowUp n i).take j))) ⟨ys, f1, e1, ?_⟩ ?_ ?_
      · rw [List.take_zero, List.append_nil]
        exact t1
      · rintro j H2 hj ⟨zs, f2, e2, t2⟩
        rw [hm] at hj
        refine ⟨rfl, tyes ?_⟩
        refine ⟨_, rfl, _, rfl, szl (Nat.le_of_ble_eq_true rfl), fun p hp => ?_⟩
        have hl : (pairsTo n i ++ (rowUp n i).take j).length < 50000 := by
          rw [List.length_append, List.length_take, rowUp_len]
          have := pairsTo_len n i
          have : i * n ≤ 20 * 20 := Nat.mul_le_mul (by omega) hn
          omega
        obtain ⟨a1, a2, a3, a4, a5⟩ := put_at (S := []) hD List.not_mem_nil f2 e2 t2 (by rw [List.length_map]; exact hl) (Fr.new (o := .tup [.int (0 + i), .int (0 + i + 1 + j)]) hp) (Tp.pr (p := (i, i + 1 + j)) (by rw [upd_same]; simp only [Option.some.injEq, HO.tup.injEq, List.cons.injEq, V.int.injEq, and_true]; omega))
        refine ⟨_, a1, a2, _, a3, a4, ?_⟩
        have er : (rowUp n i)[j]? = some (i, i + 1 + j) := by
          unfold rowUp
          rw [List.getElem?_map, List.getElem?_range hj]
          rfl
        rw [List.take_add_one, er, ← List.append_assoc, dPs_app]
        exact a5
      · rintro H2 ⟨zs, f2, e2, t2⟩
        refine ⟨zs, f2, e2, ?_⟩
        rw [pairsTo_succ]
        rw [hm, List.take_of_length_le (by rw [rowUp_len]; exact Nat.le_refl _)] at t2
        exact t2
    · rintro H1 ⟨ys, f1, e1, t1⟩
      exact q H1 D ys f1 hD e1 t1
/-- a def of a web -/
abbrev OfWeb (H : Hp) (v : V) (n : Nat) (ps : List Pr) : Prop := Tp H v (dW n ps) ∧ WebOk n ps
def spOpp : Sp := fun vs H Q _ => ∃ v n ps, vs = [v] ∧ OfWeb H v n ps ∧ Ret H (dW n (opp n ps)) Q
def spRow : Sp := fun vs H Q _ => ∃ v n ps, vs = [v] ∧ OfWeb H v n ps ∧ Ret H (.tuple (dNs (rowOf n ps))) Q
theorem ok_row_of (F : FnP K "row_of" s_row_of f fd) (g_tuple : mg "tuple" = none) (g_int : mg "int" = none) {f_pairs_of : Addr} {fd_pairs_of : FuncData} (F_pairs_of : FnP K "pairs_of" s_pairs_of f_pairs_of fd_pairs_of) (m_pairs_of : mg "pairs_of" = some (.ref f_pairs_of)) (G_pairs_of : FnG P w K mg base CX0 1 f_pairs_of fd_pairs_of ["many"] spPairs) : FnG P w K mg base CX0 2 f fd ["web"] spRow := by
  have b_pairs_of : Binds K fd_pairs_of ["many"] [] := F_pairs_of.bindsN fun _ _ _ _ _ _ us hl => match us, hl with | [_], _ => rfl
  refine okG0 F sc_row_of (fun vs H Q E h => ?_) (fun cdv A outer s H vs Q E hS hr h => ?_)
  · obtain ⟨_, _, _, rfl, _⟩ := h
    rfl
  · obtain ⟨v, n, ps, rfl, ⟨hv, hw⟩, q⟩ := h
    obtain ⟨a, t, xs, rfl, ha, ht, hx⟩ := hv.web_inv
    refine ⟨_, (pss_cons (ps_asg (pv 0) (pg_tupK K (n := 2) (by rfl) (pgs_cons (pg_name (i := 1) sc_row_of.nd rfl (Or.inl rfl)) (pgs_cons (pg_name (i := 2) sc_row_of.nd rfl (Or.inr rfl)) pgs_nil))))
      (pss_one (ps_ret (pe_callTy (tupOfK K) (by rfl) g_tuple (by decide +kernel) (pa_cons (pe_lc (own := [("pair", 3)]) (g := (gName 3)) (tt := tYes) rfl sc_row_of.nd (pi_list (pe_callG G_pairs_of hS (hr.mono (by decide)) (by rfl) m_pairs_of F_pairs_of.kp b_pairs_of .nil pass0 (pa_cons (pv 1) pa_nil))) (blkOk_by (own := [("pair", 3)]) (N := N_row_of) (sc := defScope s_row_of) (by decide +kernel)) (fun _ _ _ _ _ => (pg_name (i := 3) sc_row_of.nd rfl (Or.inl rfl))) (fun _ _ _ _ _ => pts_nil) (fun _ _ _ _ _ => (pe_callTy call_int1 (by rfl) g_int (by decide +kernel) (pa_cons (pe_cmpR (memK K (hu80_of hr)) (pv 3) (pv 2) rfl) pa_nil)))) pa_nil))))), ?_⟩
    refine ⟨_, rfl, a, _, rfl, SqT.of ha, rfl, _, _, rfl, _, _, rfl, rfl, ?_⟩
    refine ⟨_, rfl, n, rfl, by have := hw.hi; omega, fun H1 p ys f1 np e1 t1 => ⟨p, rfl, ⟨_, SqL.of e1⟩, fun D hD => ?_⟩⟩
    have hl := pairsOf_len12 n hw.hi
    have C : LcC [] (fun _ => True) H1 D := ⟨hD, List.not_mem_nil, fun _ _ h => h⟩
    refine lcl (M := fun i ds => ds = made (pairsOf n) (fun p => some (if p ∈ ps then 1 else 0)) dN i) C (SqL.of e1) List.not_mem_nil trivial rfl ?_ ?_
    · intro i x H2 zs ds ex L
      obtain ⟨pr, ep, tx⟩ := t1.pr_at ex
      have hi : i < 100 := by
        have := (List.getElem?_eq_some_iff.mp ep).1
        omega
      have hb := pairsOf_below (n := n) (by have := hw.hi; omega) pr (List.mem_of_getElem? ep)
      have tx2 := tx.fr L.fr
      refine ⟨rfl, tyes ?_⟩
      refine ⟨_, rfl, _, rfl, mem_tP tx2 (L.fr.tups _ _ (f1.tups _ _ ht)) ((hx.fr f1).fr L.fr) hb hw.below (by have := hw.len; omega) (.inr ⟨_, rfl, ?_⟩)⟩
      refine L.put C (d := dN (if pr ∈ ps then 1 else 0)) (by omega) Fr.refl trivial ?_ (by rw [L.m]; exact (made_some (f := fun p => some (if p ∈ ps then 1 else 0)) (en := dN) ep rfl).symm)
      by_cases c : pr ∈ ps
      · rw [if_pos c, decide_eq_true c]
        exact .int _
      · rw [if_neg c, decide_eq_false c]
        exact .int _
    · intro H2 zs ds L
      refine ⟨D, zs, rfl, .inl ⟨SqL.of L.at_, fun l hl2 => ?_⟩⟩
      have em := L.m
      rw [made_all (by rw [t1.len]; exact Nat.le_refl _), filterMap_one] at em
      have td := L.dat
      rw [em] at td
      have fa : Fr [] H2 (upd H2 l (.tup zs)) := Fr.new hl2
      exact q _ _ ((f1.trans L.fr).trans fa) (.tup upd_same (td.fr fa))
def spTied : Sp := fun vs H Q _ => ∃ v n ps, ∃ i j : Nat, vs = [v, .int i, .int j] ∧ OfWeb H v n ps ∧ i < n ∧ j < n ∧ ∀ H', Fr [] H H' → Q (.bl (tied ps i j)) H'
theorem ok_is_tied (F : FnP K "is_tied" s_is_tied f fd) {f_in_order : Addr} {fd_in_order : FuncData} (F_in_order : FnP K "in_order" s_in_order f_in_order fd_in_order) (m_in_order : mg "in_order" = some (.ref f_in_order)) (G_in_order : FnG P w K mg base CX0 1 f_in_order fd_in_order ["one", "other"] spInOrder) : FnG P w K mg base CX0 2 f fd ["web", "place", "mate"] spTied := by
  have b_in_order : Binds K fd_in_order ["one", "other"] [] := F_in_order.bindsN fun _ _ _ _ _ _ us hl => match us, hl with | [_, _], _ => rfl
  refine okG0 F sc_is_tied (fun vs H Q E h => ?_) (fun cdv A outer s H vs Q E hS hr h => ?_)
  · obtain ⟨_, _, _, _, _, rfl, _⟩ := h
    rfl
  · obtain ⟨v, n, ps, i, j, rfl, ⟨hv, hw⟩, hi, hj, q⟩ := h
    obtain ⟨a, t, xs, rfl, ha, ht, hx⟩ := hv.web_inv
    refine ⟨_, (pss_one (ps_ret (pe_cmpR (memK K (hu80_of hr)) (pe_callG G_in_order hS (hr.mono (by decide)) (by rfl) m_in_order F_in_order.kp b_in_order .nil pass0 (pa_cons (pv 1) (pa_cons (pv 2) pa_nil))) (pe_ix (ixT K) (pv 0) pe_int (fun _ _ => rfl)) rfl))), ?_⟩
    have := hw.hi
    refine ⟨_, rfl, _, rfl, i, j, rfl, fun H1 r f1 tr => ?_⟩
    refine ⟨_, rfl, a, _, 1, _, rfl, rfl, SqT.of (f1.tups _ _ ha), atI_nat (j := 1) rfl, ?_⟩
    exact mem_tP tr (f1.tups _ _ ht) (hx.fr f1) (by simp only; omega) hw.below (by have := hw.len; omega) (q H1 f1)
def spNb : Sp := fun vs H Q _ => ∃ v n ps, ∃ i : Nat, vs = [v, .int i] ∧ OfWeb H v n ps ∧ i < n ∧ Ret H (.tuple (dNs (nbs n ps i))) Q
theorem ok_neighbours (F : FnP K "neighbours" s_neighbours f fd) (g_tuple : mg "tuple" = none) (g_range : mg "range" = none) {f_is_tied : Addr} {fd_is_tied : FuncData} (F_is_tied : FnP K "is_tied" s_is_tied f_is_tied fd_is_tied) (m_is_tied : mg "is_tied" = some (.ref f_is_tied)) (G_is_tied : FnG P w K mg base CX0 2 f_is_tied fd_is_tied ["web", "place", "mate"] spTied) : FnG P w K mg base CX0 3 f fd ["web", "place"] spNb := by
  have b_is_tied : Binds K fd_is_tied ["web", "place", "mate"] [] := F_is_tied.bindsN fun _ _ _ _ _ _ us hl => match us, hl with | [_, _, _], _ => rfl
  refine okG0 F sc_neighbours (fun vs H Q E h => ?_) (fun cdv A outer s H vs Q E hS hr h => ?_)
  · obtain ⟨_, _, _, _, rfl, _⟩ := h
    rfl
  · obtain ⟨v, n, ps, i, rfl, ⟨hv, hw⟩, hi, q⟩ := h
    obtain ⟨a, t, xs, rfl, ha, ht, hx⟩ := hv.web_inv
    refine ⟨_, (pss_one (ps_ret (pe_callTy (tupOfK K) (by rfl) g_tuple (by decide +kernel) (pa_cons (pe_lc (own := [("mate", 2)]) (g := (gName 2)) rfl sc_neighbours.nd (pi_range1 rfl g_range (pa_cons (pe_ix (ixT K) (pv 0) pe_int (fun _ _ => rfl)) pa_nil)) (blkOk_by (own := [("mate", 2)]) (N := N_neighbours) (sc := defScope s_neighbours) (by decide +kernel)) (fun _ _ _ _ _ => (pg_name (i := 2) sc_neighbours.nd rfl (Or.inl rfl))) (fun _ _ _ _ _ => (pts_one (pt_val (pe_callG G_is_tied hS (hr.mono (by decide)) (by rfl) m_is_tied F_is_tied.kp b_is_tied .nil pass0 (pa_cons (pv 0) (pa_cons (pv 1) (pa_cons (pv 2) pa_nil))))))) (fun _ _ _ _ _ => (pv 2))) pa_nil)))), ?_⟩
    have := hw.hi
    refine ⟨_, rfl, a, _, 0, _, rfl, rfl, SqT.of ha, atI_nat (j := 0) rfl, n, rfl, by omega, by omega, fun D hD => ?_⟩
    have C : LcC [] (fun _ => True) H D := ⟨hD, List.not_mem_nil, fun _ _ h => h⟩
    refine lcr (M := fun k ds => ds = made (List.range n) (fun j => if tied ps i j = true then some j else none) dN k) C trivial rfl ?_ ?_
    · intro j H2 zs ds hj L
      have hj : j < n := hj
      have ej := range_at hj
      refine ⟨rfl, _, rfl, _, rfl, _, rfl, .ref a, n, ps, i, j, ?_, ⟨hv.fr L.fr, hw⟩, hi, hj, fun H3 f3 => ⟨_, rfl, ite2 (fun c => ?_) (fun c => ?_)⟩⟩
      · rw [Int.zero_add]
        rfl
      · exact ⟨_, rfl, L.put C (d := dN j) (by omega) f3 trivial (by rw [Int.zero_add]; exact .int _) (by rw [L.m]; exact (made_some ej (by rw [if_pos c])).symm)⟩
      · exact L.skip C f3 trivial (by rw [L.m]; exact (made_none ej (by rw [if_neg c])).symm)
    · intro H2 zs ds L
      refine ⟨D, zs, rfl, .inl ⟨SqL.of L.at_, fun l hl2 => ?_⟩⟩
      have em := L.m
      rw [made_all (by rw [List.length_range]; exact Nat.le_refl _), filterMap_if] at em
      have td := L.dat
      rw [em] at td
      have fa : Fr [] H2 (upd H2 l (.tup zs)) := Fr.new hl2
      exact q _ _ (L.fr.trans fa) (.tup upd_same (td.fr fa))
def spNums : Sp := fun vs H Q _ => ∃ v n ps, vs = [v] ∧ OfWeb H v n ps ∧ Ret H (.tuple (dNs (nums n ps))) Q
theorem ok_numbers (F : FnP K "numbers" s_numbers f fd) (g_tuple : mg "tuple" = none) (g_len : mg "len" = none) (g_range : mg "range" = none) {f_neighbours : Addr} {fd_neighbours : FuncData} (F_neighbours : FnP K "neighbours" s_neighbours f_neighbours fd_neighbours) (m_neighbours : mg "neighbours" = some (.ref f_neighbours)) (G_neighbours : FnG P w K mg base CX0 3 f_neighbours fd_neighbours ["web", "place"] spNb) : FnG P w K mg base CX0 4 f fd ["web"] spNums := by
  have b_neighbours : Binds K fd_neighbours ["web", "place"] [] := F_neighbours.bindsN fun _ _ _ _ _ _ us hl => match us, hl with | [_, _], _ => rfl
  refine okG0 F sc_numbers (fun vs H Q E h => ?_) (fun cdv A outer s H vs Q E hS hr h => ?_)
  · obtain ⟨_, _, _, rfl, _⟩ := h
    rfl
  · obtain ⟨v, n, ps, rfl, ⟨hv, hw⟩, q⟩ := h
    obtain ⟨a, t, xs, rfl, ha, ht, hx⟩ := hv.web_inv
    refine ⟨_, (pss_one (ps_ret (pe_callTy (tupOfK K) (by rfl) g_tuple (by decide +kernel) (pa_cons (pe_lc (own := [("place", 1)]) (g := (gName 1)) (tt := tYes) rfl sc_numbers.nd (pi_range1 rfl g_range (pa_cons (pe_ix (ixT K) (pv 0) pe_int (fun _ _ => rfl)) pa_nil)) (blkOk_by (own := [("place", 1)]) (N := N_numbers) (sc := defScope s_numbers) (by decide +kernel)) (fun _ _ _ _ _ => (pg_name (i := 1) sc_numbers.nd rfl (Or.inl rfl))) (fun _ _ _ _ _ => pts_nil) (fun _ _ _ _ _ => (pe_callB (lenK K) (by rfl) g_len (by decide +kernel) (pa_cons (pe_callG G_neighbours hS (hr.mono (by decide)) (by rfl) m_neighbours F_neighbours.kp b_neighbours .nil pass0 (pa_cons (pv 0) (pa_cons (pv 1) pa_nil))) pa_nil)))) pa_nil)))), ?_⟩
    have := hw.hi
    refine ⟨_, rfl, a, _, 0, _, rfl, rfl, SqT.of ha, atI_nat (j := 0) rfl, n, rfl, by omega, by omega, fun D hD => ?_⟩
    have C : LcC [] (fun _ => True) H D := ⟨hD, List.not_mem_nil, fun _ _ h => h⟩
    refine lcr (M := fun k ds => ds = made (List.range n) (fun j => some (nbs n ps j).length) dN k) C trivial rfl ?_ ?_
    · intro j H2 zs ds hj L
      have hj : j < n := hj
      have ej := range_at hj
      refine ⟨rfl, tyes ?_⟩
      refine ⟨_, rfl, _, rfl, .ref a, n, ps, j, by rw [Int.zero_add]; rfl, ⟨hv.fr L.fr, hw⟩, hj, fun H3 r f3 tr => ?_⟩
      obtain ⟨b, ws, rfl, eb, tb⟩ := tr.tup_inv
      refine ⟨b, ws, rfl, .inr (SqT.of eb), ?_⟩
      refine L.put C (d := dN (nbs n ps j).length) (by omega) f3 trivial ?_ (by rw [L.m]; exact (made_some (f := fun j => some (nbs n ps j).length) (en := dN) ej rfl).symm)
      rw [tb.length, List.length_map]
      exact .int _
    · intro H2 zs ds L
      refine ⟨D, zs, rfl, .inl ⟨SqL.of L.at_, fun l hl2 => ?_⟩⟩
      have em := L.m
      rw [made_all (by rw [List.length_range]; exact Nat.le_refl _), filterMap_one] at em
      have td := L.dat
      rw [em] at td
      have fa : Fr [] H2 (upd H2 l (.tup zs)) := Fr.new hl2
      exact q _ _ (L.fr.trans fa) (.tup upd_same (td.fr fa))
end
end Lt

set_option Elab.async false
set_option linter.all false
set_option maxRecDepth 100000
set_option maxHeartbeats 4000000
namespace Lt
open PySem PySem.Spec PyProof.Rows L2
section
variable {P : Program} {w : World} {K : PySem.W.Frag} {mg : Str → Option Value} {base : Heap} {f : Addr} {fd : FuncData}
theorem nums_at {n : Nat} {ps : List Pr} {i : Nat} (h : i < n) : (nums n ps)[i]? = some (nbs n ps i).length := by
  unfold nums
  rw [List.getElem?_map, List.getElem?_range h]
  rfl
def spOdd : Sp := fun vs H Q _ => ∃ v n ps, vs = [v] ∧ OfWeb H v n ps ∧ Ret H (.tuple (dNs (odds n ps))) Q
theorem ok_odd_places (F : FnP K "odd_places" s_odd_places f fd) (g_tuple : mg "tuple" = none) (g_enumerate : mg "enumerate" = none) {f_numbers : Addr} {fd_numbers : FuncData} (F_numbers : FnP K "numbers" s_numbers f_numbers fd_numbers) (m_numbers : mg "numbers" = some (.ref f_numbers)) (G_numbers : FnG P w K mg base CX0 4 f_numbers fd_numbers ["web"] spNums) : FnG P w K mg base CX0 5 f fd ["web"] spOdd := by
  have b_numbers : Binds K fd_numbers ["web"] [] := F_numbers.bindsN fun _ _ _ _ _ _ us hl => match us, hl with | [_], _ => rfl
  refine okG0 F sc_odd_places (fun vs H Q E h => ?_) (fun cdv A outer s H vs Q E hS hr h => ?_)
  · obtain ⟨_, _, _, rfl, _⟩ := h
    rfl
  · obtain ⟨v, n, ps, rfl, ⟨hv, hw⟩, q⟩ := h
    refine ⟨_, (pss_one (ps_ret (pe_callTy (tupOfK K) (by rfl) g_tuple (by decide +kernel) (pa_cons (pe_lc (own := [("place", 1), ("number", 2)]) rfl sc_odd_places.nd (pi_enumT (by rfl) g_enumerate (pa_cons (pe_callG G_numbers hS (hr.mono (by decide)) (by rfl) m_numbers F_numbers.kp b_numbers .nil pass0 (pa_cons (pv 0) pa_nil)) pa_nil)) (blkOk_by (own := [("place", 1), ("number", 2)]) (N := N_odd_places) (sc := defScope s_odd_places) (by decide +kernel)) (fun _ _ _ _ _ => (pg_tupK K (n := 2) (by rfl) (pgs_cons (pg_name (i := 1) sc_odd_places.nd rfl (Or.inl rfl)) (pgs_cons (pg_name (i := 2) sc_odd_places.nd rfl (Or.inl rfl)) pgs_nil)))) (fun _ _ _ _ _ => (pts_one (pt_cmpR op_eq (pe_op op_mod (pv 2) pe_int) pe_int (nomark _)))) (fun _ _ _ _ _ => (pv 1))) pa_nil)))), ?_⟩
    have := hw.hi
    refine ⟨_, rfl, v, n, ps, rfl, ⟨hv, hw⟩, fun H1 r f1 tr => ?_⟩
    obtain ⟨b, ws, rfl, eb, tb⟩ := tr.tup_inv
    refine ⟨b, ws, rfl, SqT.of eb, fun D hD => ?_⟩
    have lw : ws.length = n := by rw [tb.length, List.length_map]; unfold nums; rw [List.length_map, List.length_range]
    have C : LcC [] (fun _ => True) H1 D := ⟨hD, List.not_mem_nil, fun _ _ h => h⟩
    refine lce (M := fun k ds => ds = made (List.range n) (fun i => if ((nbs n ps i).length % 2 == 1) = true then some i else none) dN k) C eb trivial rfl ?_ ?_
    · intro i x p H2 zs ds ex L hp
      have hi : i < n := by
        have := (List.getElem?_eq_some_iff.mp ex).1
        omega
      have ei := range_at hi
      obtain ⟨d, e1, td⟩ := tb.at ex
      rw [List.getElem?_map, nums_at hi] at e1
      cases e1
      obtain rfl := td.int_inv
      have fp : Fr [] H2 (upd H2 p (.tup [.int i, .int ((nbs n ps i).length : Nat)])) := Fr.new hp
      refine ⟨p, _, rfl, SqT.of upd_same, rfl, _, _, rfl, _, _, rfl, rfl, rfl, ?_⟩
      refine ⟨_, rfl, _, _, rfl, rfl, (show (0 : Int) < 2 by decide), rfl, ⟨_, rfl, ite2 (fun c => ?_) (fun c => ?_)⟩⟩
      · refine ⟨_, rfl, L.put C (d := dN i) (by omega) fp trivial (.int _) (by rw [L.m]; exact (made_some ei (by rw [if_pos]; rw [dec_int] at c; simp at c ⊢; omega)).symm)⟩
      · exact L.skip C fp trivial (by rw [L.m]; exact (made_none ei (by rw [if_neg]; rw [dec_int] at c; simp at c ⊢; omega)).symm)
    · intro H2 zs ds L
      refine ⟨D, zs, rfl, .inl ⟨SqL.of L.at_, fun l hl2 => ?_⟩⟩
      have em := L.m
      rw [made_all (by rw [List.length_range, lw]; exact Nat.le_refl _), filterMap_if] at em
      have td := L.dat
      rw [em] at td
      have fa : Fr [] H2 (upd H2 l (.tup zs)) := Fr.new hl2
      exact q _ _ ((f1.trans L.fr).trans fa) (.tup upd_same (td.fr fa))
end
end Lt

set_option Elab.async false
set_option linter.all false
set_option maxRecDepth 100000
set_option maxHeartbeats 4000000
namespace Lt
open PySem PySem.Spec PyProof.Rows L2
/-! ## the law's own draws -/
structure Stk (s d c : Addr) (H : Hp) : Prop where
  ex : ∃ (ds cs : List Int) (sum turn : Int), H s = some (.lst [.ref d, .ref c, .int sum, .int turn]) ∧ H d = some (.lst (ds.map V.int)) ∧ ds.length ≤ 63 ∧ H c = some (.lst (cs.map V.int)) ∧ 0 < cs.length ∧ cs.length ≤ 100
  sd : s ≠ d
  sc : s ≠ c
  dc : d ≠ c
theorem Stk.far {s d c p : Addr} {H : Hp} {o : HO} (h : Stk s d c H) (n1 : p ≠ s) (n2 : p ≠ d) (n3 : p ≠ c) : Stk s d c (upd H p o) := by
  obtain ⟨ds, cs, sm, tn, a1, a2, a3, a4, a5⟩ := h.ex
  exact ⟨⟨ds, cs, sm, tn, by rw [upd_ne n1.symm]; exact a1, by rw [upd_ne n2.symm]; exact a2, a3, by rw [upd_ne n3.symm]; exact a4, a5⟩, h.sd, h.sc, h.dc⟩
theorem Stk.live {s d c : Addr} {H : Hp} (h : Stk s d c H) : H s ≠ none ∧ H d ≠ none ∧ H c ≠ none := by
  obtain ⟨ds, cs, sm, tn, a1, a2, a3, a4, a5⟩ := h.ex
  exact ⟨by rw [a1]; simp, by rw [a2]; simp, by rw [a4]; simp⟩
/-- cells that were free when the stock was there are none of its -/
theorem Stk.apart {s d c p : Addr} {H : Hp} (h : Stk s d c H) (hp : H p = none) : p ≠ s ∧ p ≠ d ∧ p ≠ c := by
  obtain ⟨l1, l2, l3⟩ := h.live
  refine ⟨?_, ?_, ?_⟩ <;> (intro z; subst z; contradiction)
theorem Stk.add {s d c p : Addr} {H H' : Hp} {o : HO} (h : Stk s d c H) (h' : Stk s d c H') (hp : H p = none) : Stk s d c (upd H' p o) := by
  obtain ⟨a, b, e⟩ := h.apart hp
  exact h'.far a b e
theorem cut_to {xs : List V} (k : Nat) : cutV xs none (some (k : Int)) = xs.take k := by
  unfold cutV
  rw [HT.sIx_none, HT.sIx_nat, List.drop_zero, Nat.sub_zero]
  by_cases c : k ≤ xs.length
  · rw [Nat.min_eq_left c]
  · rw [Nat.min_eq_right (by omega), List.take_of_length_le (Nat.le_refl _), List.take_of_length_le (by omega)]
theorem seq_at {i n : Nat} (h : i < n) : seqIndex? (i : Int) n = some i := by
  have e : ixN n (i : Int) = some i := by
    unfold ixN
    rw [if_pos (by omega), if_pos (by omega)]
    simp
  exact (ixN_seq e).1
section
variable {P : Program} {w : World} {K : PySem.W.Frag} {mg : Str → Option Value} {base : Heap} {f : Addr} {fd : FuncData}
abbrev Ints (ds : List PyData) : Prop := ∃ ms : List Int, ds = ms.map PyData.int
theorem Ints.snoc {ds : List PyData} (h : Ints ds) (i : Int) : Ints (ds ++ [.int i]) := by
  obtain ⟨ms, rfl⟩ := h
  exact ⟨ms ++ [i], by rw [List.map_append]; rfl⟩
def spStock (K : PySem.W.Frag) : Sp := fun vs H Q _ => ∃ (a : Addr) (ns : List Int), vs = [.ref a] ∧ SqL K H a (ns.map V.int) ∧ ns.length ≤ 63 ∧
  ∀ H' s d c, Fr [] H H' → Stk s d c H' → Q (.ref s) H'
theorem ok_stock (F : FnP K "_law_stock" s__law_stock f fd) (g_sum : mg "sum" = none) (g_len : mg "len" = none) : FnG P w K mg base CX0 1 f fd ["script"] (spStock K) := by
  refine okG0 F sc__law_stock (fun vs H Q E h => ?_) (fun cdv A outer s H vs Q E hS hr h => ?_)
  · obtain ⟨_, _, rfl, _⟩ := h
    rfl
  · obtain ⟨a, ns, rfl, ha, hl, q⟩ := h
    refine ⟨_, (pss_cons (ps_setLc (i := 1) (own := [("cell", 2)]) (g := (gName 2)) (tt := tYes) rfl sc__law_stock.nd rfl rfl (sw_true rfl rfl rfl (by decide +kernel)) (pi_list (pe_slice (slL K) (pv 0) po_none (po_some pe_int))) (blkOk_by (own := [("cell", 2)]) (N := N__law_stock) (sc := defScope s__law_stock) (by decide +kernel)) (fun _ _ _ _ _ => (pg_name (i := 2) sc__law_stock.nd rfl (Or.inl rfl))) (fun _ _ _ _ _ => pts_nil) (fun _ _ _ _ _ => (pe_ifExp (pt_cmpR op_ge (pv 2) pe_int (nomark _)) (pe_op op_mul pe_int (pv 2)) (pe_op op_sub (pe_op op_mul (pe_un un_neg pe_int) (pv 2)) pe_int))))
      (pss_one (ps_ret (pe_lst (pa_cons (pe_lc (own := [("cell", 2)]) (g := (gName 2)) rfl sc__law_stock.nd (pi_list (pv 1)) (blkOk_by (own := [("cell", 2)]) (N := N__law_stock) (sc := defScope s__law_stock) (by decide +kernel)) (fun _ _ _ _ _ => (pg_name (i := 2) sc__law_stock.nd rfl (Or.inl rfl))) (fun _ _ _ _ _ => (pts_one (pt_cmpR op_ge (pv 2) (pe_op op_pow pe_int pe_int) (nomark _)))) (fun _ _ _ _ _ => (pv 2))) (pa_cons (pe_op op_cat (pv 1) (pe_lst (pa_cons (pe_op op_add (pe_callB (lenK K) (by rfl) g_len (by decide +kernel) (pa_cons (pv 1) pa_nil)) pe_int) pa_nil))) (pa_cons (pe_callB (sumK K rfl) (by rfl) g_sum (by decide +kernel) (pa_cons (pv 1) pa_nil)) (pa_cons pe_int pa_nil)))))))), ?_⟩
    refine ⟨_, rfl, 63, rfl, a, _, rfl, ha, fun b hb => ?_⟩
    have eb : cutV (ns.map V.int) none (some 63) = (ns.take 63).map V.int := by
      rw [show (63 : Int) = ((63 : Nat) : Int) from rfl, cut_to, List.map_take]
    rw [eb]
    have f0 : Fr [] H (upd H b (.lst ((ns.take 63).map V.int))) := Fr.new hb
    refine ⟨b, rfl, ⟨_, SqL.of upd_same⟩, fun D hD => ?_⟩
    have C : LcC [] (fun _ => True) (upd H b (.lst ((ns.take 63).map V.int))) D := ⟨hD, List.not_mem_nil, fun _ _ h => h⟩
    refine lcl (M := fun i ds => Ints ds) C (SqL.of upd_same) List.not_mem_nil trivial ⟨[], rfl⟩ ?_ ?_
    · intro i x H2 zs ds ex L
      rw [List.getElem?_map] at ex
      obtain ⟨cell, ec, rfl⟩ := Option.map_eq_some_iff.mp ex
      have hi : i < 1000 := by
        have := (List.getElem?_eq_some_iff.mp ec).1
        rw [List.length_take] at this
        omega
      refine ⟨rfl, tyes ?_⟩
      refine ⟨_, rfl, _, _, rfl, rfl, _, rfl, ite2 (fun c => ?_) (fun c => ?_)⟩
      · exact ⟨_, rfl, _, _, rfl, rfl, .inl ⟨by decide, by decide⟩, L.put C (by omega) Fr.refl trivial (.int _) (L.m.snoc _)⟩
      · exact ⟨_, rfl, _, rfl, _, _, rfl, rfl, .inl ⟨by decide, by decide⟩, _, _, rfl, rfl, L.put C (by omega) Fr.refl trivial (.int _) (L.m.snoc _)⟩
    · intro H2 zs ds L
      obtain ⟨ms, rfl⟩ := L.m
      have ez := L.dat.ints_inv
      subst ez
      have hm : ms.length ≤ 63 := by
        have h1 := L.len
        rw [List.length_map, List.length_map, List.length_take] at h1
        omega
      have f2 : Fr [] H H2 := f0.trans L.fr
      have eD := L.at_
      refine ⟨.ref D, rfl, D, rfl, ⟨_, SqL.of eD⟩, fun D2 hD2 => ?_⟩
      have C2 : LcC [] (fun _ => True) H2 D2 := ⟨hD2, List.not_mem_nil, fun _ _ h => h⟩
      refine lcl (M := fun i ds => Ints ds) C2 (SqL.of eD) List.not_mem_nil trivial ⟨[], rfl⟩ ?_ ?_
      · intro i x H3 zs ds ex L3
        rw [List.getElem?_map] at ex
        obtain ⟨cell, ec, rfl⟩ := Option.map_eq_some_iff.mp ex
        have hi : i < 1000 := by
          have := (List.getElem?_eq_some_iff.mp ec).1
          omega
        refine ⟨rfl, _, rfl, _, _, rfl, rfl, ⟨by decide, by decide, by decide⟩, _, _, rfl, rfl, _, rfl, ite2 (fun c => ?_) (fun c => ?_)⟩
        · exact ⟨_, rfl, L3.put C2 (by omega) Fr.refl trivial (.int _) (L3.m.snoc _)⟩
        · exact L3.skip C2 Fr.refl trivial L3.m
      · intro H3 zs ds L3
        obtain ⟨ks, rfl⟩ := L3.m
        have ez := L3.dat.ints_inv
        subst ez
        have hk : ks.length ≤ 63 := by
          have h1 := L3.len
          rw [List.length_map, List.length_map] at h1
          omega
        have eD3 := L3.fr.keep _ _ eD List.not_mem_nil
        have eE3 := L3.at_
        -- flat + [len(flat) + ..]
        refine ⟨.ref D, rfl, .ref D, rfl, D, _, rfl, .inl (SqL.of eD3), _, _, rfl, rfl, szl (Nat.le_of_ble_eq_true rfl), fun e he => ?_⟩
        have eDe := at_add (o := .lst [.int ((ms.map V.int).length + 702)]) eD3 he
        refine ⟨D, e, _, _, rfl, rfl, eDe, upd_same, ?_, fun c hc => ?_⟩
        · rw [List.length_map]
          exact szl (by simp only [List.length_cons, List.length_nil]; omega)
        -- sum(flat)
        have eDc := at_add (o := .lst (ms.map V.int ++ [.int ((ms.map V.int).length + 702)])) eDe hc
        refine ⟨.ref D, rfl, D, ms, rfl, SqL.of eDc, szl (Nat.le_of_ble_eq_true rfl), fun s1 hs1 => ?_⟩
        have fe : Fr [] H3 _ := Fr.new (o := .lst [.int ((ms.map V.int).length + 702)]) he
        have fc := Fr.new (S := []) (o := .lst (ms.map V.int ++ [.int ((ms.map V.int).length + 702)])) hc
        have eEc := fc.keep _ _ (fe.keep _ _ eE3 List.not_mem_nil) List.not_mem_nil
        refine q _ s1 D2 c ((f2.trans L3.fr).trans ((fe.trans fc).add hs1)) ⟨⟨ks, ms ++ [((ms.map V.int).length : Int) + 702], ms.sum, 0, upd_same, at_add eEc hs1, hk, ?_, ?_, ?_⟩, ?_, ?_, ?_⟩
        · rw [upd_ne (ne_new upd_same hs1), upd_same, List.map_append]
          rfl
        · rw [List.length_append]
          exact Nat.lt_of_lt_of_le Nat.zero_lt_one (Nat.le_add_left _ _)
        · rw [List.length_append]
          show ms.length + 1 ≤ 100
          omega
        · exact (ne_new eEc hs1).symm
        · exact (ne_new upd_same hs1).symm
        · exact ne_new (fe.keep _ _ eE3 List.not_mem_nil) hc
def spDraw : Sp := fun vs H Q _ => ∃ (s d c : Addr) (m : Nat), vs = [.ref s, .int m] ∧ Stk s d c H ∧ 0 < m ∧ m < 1000000 ∧
  ∀ H' (r : Nat), r < m → Stk s d c H' → Fr [s, d] H H' → Q (.int r) H'
theorem mod_lt {x : Int} {m : Nat} (h : 0 < m) : ∃ r : Nat, r < m ∧ x % (m : Int) = (r : Int) := by
  have h1 := Int.emod_nonneg x (show (m : Int) ≠ 0 by omega)
  have h2 := Int.emod_lt_of_pos x (show (0 : Int) < m by omega)
  exact ⟨(x % (m : Int)).toNat, by omega, by omega⟩
theorem snoc_of {α : Type} (l : List α) : l = [] ∨ ∃ L z, l = L ++ [z] := by
  rcases List.eq_nil_or_concat l with h | ⟨L, z, h⟩
  · exact .inl h
  · exact .inr ⟨L, z, by rw [h, List.concat_eq_append]⟩
theorem eqv_nil : ∀ ds : List Int, PyData.eqv (.list (ds.map PyData.int)) (.list []) = ds.isEmpty
  | [] => rfl
  | _ :: _ => rfl
theorem sh_ints (ds : List Int) : SeqAt.shaped (.list (ds.map PyData.int)) = true := by
  have h1 : ∀ ds : List Int, PyData.canLayAll0 (ds.map PyData.int) = true := by
    intro ds
    induction ds with
    | nil => rfl
    | cons x xs ih =>
      show (PyData.canLay0 (.int x) && _) = true
      rw [ih]
      rfl
  have h2 : ∀ ds : List Int, PyData.depthAll (ds.map PyData.int) = 0 := by
    intro ds
    induction ds with
    | nil => rfl
    | cons x xs ih =>
      show max (PyData.depth (.int x)) _ = 0
      rw [ih]
      rfl
  unfold SeqAt.shaped
  rw [show (PyData.list (ds.map PyData.int)).canLay0 = true from h1 ds]
  have h3 : (PyData.list (ds.map PyData.int)).depth = 1 := by
    show PyData.depthAll _ + 1 = 1
    rw [h2]
  rw [h3]
  rfl
theorem ok_draw (F : FnP K "_law_draw" s__law_draw f fd) (g_int : mg "int" = none) (g_len : mg "len" = none) : FnG P w K mg base CX0 1 f fd ["stock", "size"] spDraw := by
  refine okG0 F sc__law_draw (fun vs H Q E h => ?_) (fun cdv A outer s H vs Q E hS hr h => ?_)
  · obtain ⟨_, _, _, _, rfl, _⟩ := h
    rfl
  · obtain ⟨a, d, c, m, rfl, hk, hm, hm2, q⟩ := h
    obtain ⟨ds, cs, sm, tn, a1, a2, a3, a4, a5, a6⟩ := hk.ex
    have nsd := hk.sd
    have nsc := hk.sc
    have ndc := hk.dc
    refine ⟨_, (pss_cons (ps_if (pt_cmpR (neK K hr.units) (pe_ix (ixL K) (pv 0) pe_int (fun _ _ => rfl)) (pe_lst pa_nil) (nomark _)) (pss_cons (ps_set (i := 2) sc__law_draw.nd rfl (Or.inl rfl) (pe_bm0 PySem.F.plainAttrs_list PySem.F.slot_list_pop PySem.F.type_list_pop mt_pop (pe_ix (ixL K) (pv 0) pe_int (fun _ _ => rfl))))
      (pss_cons (ps_if (pt_cmpR op_ge (pv 2) (pv 1) (nomark _)) (pss_one (ps_expr (pe_bm PySem.F.plainAttrs_list PySem.F.slot_list_append PySem.F.type_list_append mt_append (pe_ix (ixL K) (pv 0) pe_int (fun _ _ => rfl)) (pa_cons (pe_op op_fdivN (pv 2) (pv 1)) pa_nil)))) pss_nil)
      (pss_one (ps_ret (pe_op op_mod (pe_callTy call_int1 (by rfl) g_int (by decide +kernel) (pa_cons (pv 2) pa_nil)) (pv 1)))))) pss_nil)
      (pss_cons (ps_asg (pe_op op_add (pe_ix (ixL K) (pv 0) pe_int (fun _ _ => rfl)) pe_int) (pg_sub (pv 0) pe_int set_list))
      (pss_cons (ps_set (i := 3) sc__law_draw.nd rfl (Or.inl rfl) (pe_ix (ixL K) (pv 0) pe_int (fun _ _ => rfl)))
      (pss_cons (ps_set (i := 4) sc__law_draw.nd rfl (Or.inl rfl) (pe_op op_mod (pe_callTy call_int1 (by rfl) g_int (by decide +kernel) (pa_cons (pe_ix (ixL K) (pe_ix (ixL K) (pv 0) pe_int (fun _ _ => rfl)) (pe_op op_mod (pe_callTy call_int1 (by rfl) g_int (by decide +kernel) (pa_cons (pv 3) pa_nil)) (pe_callB (lenK K) (by rfl) g_len (by decide +kernel) (pa_cons (pe_ix (ixL K) (pv 0) pe_int (fun _ _ => rfl)) pa_nil))) (fun _ _ => rfl)) pa_nil)) pe_int))
      (pss_cons (ps_set (i := 5) sc__law_draw.nd rfl (Or.inl rfl) (pe_op op_mod (pe_callTy call_int1 (by rfl) g_int (by decide +kernel) (pa_cons (pe_op op_add (pe_op op_add (pe_op op_mul (pv 4) pe_int) (pe_op op_mul (pe_op op_mod (pe_callTy call_int1 (by rfl) g_int (by decide +kernel) (pa_cons (pe_ix (ixL K) (pv 0) pe_int (fun _ _ => rfl)) pa_nil)) pe_int) pe_int)) (pe_op op_mul (pv 3) pe_int)) pa_nil)) pe_int))
      (pss_cons (ps_set (i := 5) sc__law_draw.nd rfl (Or.inl rfl) (pe_op op_mod (pe_callTy call_int1 (by rfl) g_int (by decide +kernel) (pa_cons (pe_op op_add (pe_op op_add (pe_op op_mul (pv 5) (pv 5)) (pe_op op_mul (pv 3) pe_int)) (pv 4)) pa_nil)) pe_int))
      (pss_one (ps_ret (pe_op op_mod (pe_op op_fdivN (pe_op op_mod (pe_callTy call_int1 (by rfl) g_int (by decide +kernel) (pa_cons (pe_op op_add (pe_op op_mul (pv 5) pe_int) (pe_op op_mul (pv 3) pe_int)) pa_nil)) pe_int) pe_int) (pv 1)))))))))), ?_⟩
    refine ⟨_, rfl, a, _, 0, _, rfl, rfl, SqL.of a1, atI_nat (j := 0) rfl, szl (Nat.le_of_ble_eq_true rfl), fun e he => ?_⟩
    have f0 : Fr [a, d] H (upd H e (.lst [])) := Fr.new he
    have hk0 : Stk a d c (upd H e (.lst [])) := hk.add hk he
    obtain ⟨n1, n2, n3⟩ := hk.apart he
    have b1 := at_add (o := .lst []) a1 he
    have b2 := at_add (o := .lst []) a2 he
    have b4 := at_add (o := .lst []) a4 he
    refine ⟨.list (ds.map PyData.int), .list [], .lst (SqL.of b2) (Tps.ints ds).dp, .lst (SqL.of upd_same) .nil, sh_ints ds, rfl, _, rfl, ?_⟩
    rw [eqv_nil]
    rcases snoc_of ds with rfl | ⟨L, z, rfl⟩
    · refine iteF ?_
      -- the plain way
      refine ⟨_, rfl, a, _, 3, _, rfl, rfl, SqL.of b1, atI_nat (j := 3) rfl, _, _, rfl, rfl, ?_⟩
      refine ⟨_, rfl, a, _, 3, 3, rfl, rfl, b1, rfl, ?_⟩
      have g1 : upd (upd H e (.lst [])) a (.lst [.ref d, .ref c, .int sm, .int (tn + 1)]) a = some (.lst [.ref d, .ref c, .int sm, .int (tn + 1)]) := upd_same
      have g2 : upd (upd H e (.lst [])) a (.lst [.ref d, .ref c, .int sm, .int (tn + 1)]) d = some (.lst []) := by rw [upd_ne nsd.symm]; exact b2
      have g4 : upd (upd H e (.lst [])) a (.lst [.ref d, .ref c, .int sm, .int (tn + 1)]) c = some (.lst (cs.map V.int)) := by rw [upd_ne nsc.symm]; exact b4
      have f1 : Fr [a, d] H (upd (upd H e (.lst [])) a (.lst [.ref d, .ref c, .int sm, .int (tn + 1)])) := f0.set (.inr List.mem_cons_self) (fun xs z => by rw [b1] at z; cases z)
      have hk1 : Stk a d c (upd (upd H e (.lst [])) a (.lst [.ref d, .ref c, .int sm, .int (tn + 1)])) := ⟨⟨[], cs, sm, tn + 1, g1, g2, by decide, g4, a5, a6⟩, nsd, nsc, ndc⟩
      refine ⟨_, rfl, a, _, 3, _, rfl, rfl, SqL.of g1, atI_nat (j := 3) rfl, ?_⟩
      obtain ⟨k, hkl, ek⟩ := mod_lt (x := tn + 1) a5
      have ec : atI (cs.map V.int) ((tn + 1) % (((cs.map V.int).length : Nat) : Int)) = some (.int cs[k]) := by
        rw [List.length_map, ek]
        refine atI_nat ?_
        rw [List.getElem?_map, List.getElem?_eq_getElem hkl]
        rfl
      refine ⟨_, rfl, a, _, 1, _, rfl, rfl, SqL.of g1, atI_nat (j := 1) rfl, ?_⟩
      refine ⟨_, rfl, .inl ⟨_, rfl, ?_⟩⟩
      refine ⟨_, rfl, a, _, 1, _, rfl, rfl, SqL.of g1, atI_nat (j := 1) rfl, c, _, rfl, .inl (SqL.of g4), _, _, rfl, rfl, ?_, c, _, _, _, rfl, rfl, SqL.of g4, ec, ?_⟩
      · show (0 : Int) < (((cs.map V.int).length : Nat) : Int)
        rw [List.length_map]
        omega
      refine .inl ⟨_, rfl, _, _, rfl, rfl, (by show (0 : Int) < _; decide), ?_⟩
      refine ⟨_, rfl, _, _, rfl, rfl, .inr ⟨by decide, by decide⟩, _, rfl, a, _, 2, _, rfl, rfl, SqL.of g1, atI_nat (j := 2) rfl, ?_⟩
      refine .inl ⟨_, rfl, _, _, rfl, rfl, (by show (0 : Int) < _; decide), _, _, rfl, rfl, .inr ⟨by decide, by decide⟩, _, _, rfl, rfl, _, rfl, _, _, rfl, rfl, .inr ⟨by decide, by decide⟩, _, _, rfl, rfl, ?_⟩
      refine .inl ⟨_, rfl, _, _, rfl, rfl, (by show (0 : Int) < _; decide), ?_⟩
      obtain ⟨bl, hbl, ebl⟩ := mod_lt (m := 4294967291) (x := cs[k] % 1000000007 * 48271 + sm % 998244353 * 69621 + (tn + 1) * 2654435761) (by decide)
      have ebl : (cs[k] % 1000000007 * 48271 + sm % 998244353 * 69621 + (tn + 1) * 2654435761) % 4294967291 = (bl : Int) := ebl
      dsimp only
      rw [ebl]
      refine ⟨_, rfl, _, rfl, _, _, rfl, rfl, .inl ⟨by omega, by omega⟩, _, rfl, _, _, rfl, rfl, .inr ⟨by decide, by decide⟩, _, _, rfl, rfl, _, rfl, _, _, rfl, rfl, ?_⟩
      refine .inl ⟨_, rfl, _, _, rfl, rfl, (by show (0 : Int) < _; decide), ?_⟩
      refine ⟨_, rfl, _, _, rfl, rfl, .inr ⟨by decide, by decide⟩, _, rfl, _, _, rfl, rfl, .inr ⟨by decide, by decide⟩, _, _, rfl, rfl, ?_⟩
      refine .inl ⟨_, rfl, _, _, rfl, rfl, (by show (0 : Int) < _; decide), _, _, rfl, rfl, ⟨by decide, by decide⟩, _, rfl, _, _, rfl, rfl, (by show (0 : Int) < _; omega), ?_⟩
      obtain ⟨rr, hrr, err⟩ := mod_lt (m := m) (x := ((((bl : Int) * bl + (tn + 1) * 362437 + cs[k] % 1000000007) % 4294967279 * 40692 + (tn + 1) * 65537) % 4294967231).fdiv 4096) hm
      dsimp only
      rw [err]
      exact q _ _ hrr hk1 f1
    · rw [show (L ++ [z]).isEmpty = false by simp]
      refine Eq.mpr (if_pos rfl) ?_
      have hb2 : (L ++ [z]).map V.int = L.map V.int ++ [V.int z] := by rw [List.map_append]; rfl
      rw [hb2] at b2
      have e1 : (L.map V.int ++ [V.int z])[(L.map V.int ++ [V.int z]).length - 1]? = some (V.int z) := by simp
      refine ⟨_, rfl, a, _, 0, _, rfl, rfl, SqL.of b1, atI_nat (j := 0) rfl, .inl ⟨rfl, _, SqL.of b2⟩, d, _, _, rfl, rfl, b2, e1, ?_⟩
      rw [List.dropLast_concat]
      have hL : L.length ≤ 62 := by rw [List.length_append] at a3; simp only [List.length_cons, List.length_nil] at a3; omega
      have g1 : upd (upd H e (.lst [])) d (.lst (L.map V.int)) a = some (.lst [.ref d, .ref c, .int sm, .int tn]) := by rw [upd_ne nsd]; exact b1
      have g2 : upd (upd H e (.lst [])) d (.lst (L.map V.int)) d = some (.lst (L.map V.int)) := upd_same
      have g4 : upd (upd H e (.lst [])) d (.lst (L.map V.int)) c = some (.lst (cs.map V.int)) := by rw [upd_ne ndc.symm]; exact b4
      have f1 : Fr [a, d] H (upd (upd H e (.lst [])) d (.lst (L.map V.int))) := f0.set (.inr (List.mem_cons_of_mem _ List.mem_cons_self)) (fun xs z => by rw [b2] at z; cases z)
      obtain ⟨rr, hrr, err⟩ := mod_lt (m := m) (x := z) hm
      refine ⟨_, rfl, _, rfl, _, _, rfl, rfl, _, rfl, ite2 (fun c1 => ?_) (fun c1 => ?_)⟩
      · refine ⟨_, rfl, a, _, 0, _, rfl, rfl, SqL.of g1, atI_nat (j := 0) rfl, .inl ⟨rfl, _, SqL.of g2⟩, _, rfl, _, rfl, _, _, rfl, rfl, ⟨by omega, by omega⟩, d, _, _, rfl, rfl, g2, ?_, ?_⟩
        · rw [List.length_map]
          exact szlt (by omega)
        · refine ⟨_, rfl, .inl ⟨_, rfl, _, rfl, _, _, rfl, rfl, (by show (0 : Int) < _; omega), ?_⟩⟩
          dsimp only
          rw [err]
          refine q _ _ hrr ⟨⟨L ++ [z.fdiv m], cs, sm, tn, ?_, ?_, ?_, ?_, a5, a6⟩, nsd, nsc, ndc⟩ (f1.set (.inr (List.mem_cons_of_mem _ List.mem_cons_self)) (fun xs z => by rw [g2] at z; cases z))
          · rw [upd_ne nsd]
            exact g1
          · rw [upd_same, List.map_append]
            rfl
          · rw [List.length_append]
            show L.length + 1 ≤ 63
            omega
          · rw [upd_ne ndc.symm]
            exact g4
      · refine ⟨_, rfl, .inl ⟨_, rfl, _, rfl, _, _, rfl, rfl, (by show (0 : Int) < _; omega), ?_⟩⟩
        dsimp only
        rw [err]
        exact q _ _ hrr ⟨⟨L, cs, sm, tn, g1, g2, by omega, g4, a5, a6⟩, nsd, nsc, ndc⟩ f1
end
end Lt

set_option Elab.async false
set_option linter.all false
set_option maxRecDepth 100000
set_option maxHeartbeats 4000000
namespace Lt
open PySem PySem.Spec PyProof.Rows L2
section
variable {P : Program} {w : World} {K : PySem.W.Frag} {mg : Str → Option Value} {base : Heap} {f : Addr} {fd : FuncData}
theorem perm_move {α : Type} : ∀ {l m : List α} {r : Nat} {y : α}, l[r]? = some y → (l.eraseIdx r ++ (m ++ [y])).Perm (l ++ m)
  | [], _, _, _, h => by simp at h
  | x :: l, m, 0, y, h => by
    cases h
    show (l ++ (m ++ [x])).Perm (x :: (l ++ m))
    rw [← List.append_assoc]
    exact List.perm_append_singleton x (l ++ m)
  | x :: l, m, r + 1, y, h => by
    have h' : l[r]? = some y := h
    exact (perm_move (m := m) h').cons x
def spShuf : Sp := fun vs H Q _ => ∃ (s d c a : Addr) (xs : List V) (ds : List PyData), vs = [.ref s, .ref a] ∧ Stk s d c H ∧ H a = some (.lst xs) ∧ Tps H xs ds ∧ xs.length ≤ 1000 ∧ a ≠ s ∧ a ≠ d ∧
  ∀ H' p ys es, es.Perm ds → Fr [s, d] H H' → H p = none → Stk s d c H' → H' p = some (.lst ys) → Tps H' ys es → Q (.ref p) H'
theorem ok_shuffled (F : FnP K "_law_shuffled" s__law_shuffled f fd) (g_range : mg "range" = none) (g_list : mg "list" = none) (g_len : mg "len" = none) {f__law_draw : Addr} {fd__law_draw : FuncData} (F__law_draw : FnP K "_law_draw" s__law_draw f__law_draw fd__law_draw) (m__law_draw : mg "_law_draw" = some (.ref f__law_draw)) (G__law_draw : FnG P w K mg base CX0 1 f__law_draw fd__law_draw ["stock", "size"] spDraw) : FnG P w K mg base CX0 2 f fd ["stock", "row"] spShuf := by
  have b__law_draw : Binds K fd__law_draw ["stock", "size"] [] := F__law_draw.bindsN fun _ _ _ _ _ _ us hl => match us, hl with | [_, _], _ => rfl
  refine okG0 F sc__law_shuffled (fun vs H Q E h => ?_) (fun cdv A outer s H vs Q E hS hr h => ?_)
  · obtain ⟨_, _, _, _, _, _, rfl, _⟩ := h
    rfl
  · obtain ⟨s0, d, c, a, xs, ds, rfl, hk, ha, hx, hl, nas, nad, q⟩ := h
    refine ⟨_, (pss_cons (ps_par (i := 2) (j := 3) (by rfl) sc__law_shuffled.nd rfl rfl (by decide) rfl rfl (pa_cons (pe_callTy (lstOfK K) (by rfl) g_list (by decide +kernel) (pa_cons (pv 1) pa_nil)) (pa_cons (pe_lst pa_nil) pa_nil)) (by rfl))
      (pss_cons (ps_for PassesOwn.never rfl (pi_range1 rfl g_range (pa_cons (pe_callB (lenK K) (by rfl) g_len (by decide +kernel) (pa_cons (pv 1) pa_nil)) pa_nil)) (pg_name (i := 4) sc__law_shuffled.nd rfl (Or.inl rfl)) (pss_one (ps_expr (pe_bm PySem.F.plainAttrs_list PySem.F.slot_list_append PySem.F.type_list_append mt_append (pv 3) (pa_cons (pe_bm PySem.F.plainAttrs_list PySem.F.slot_list_pop PySem.F.type_list_pop mt_popAt (pv 2) (pa_cons (pe_callG G__law_draw hS (hr.mono (by decide)) (by rfl) m__law_draw F__law_draw.kp b__law_draw .nil pass0 (pa_cons (pv 0) (pa_cons (pe_callB (lenK K) (by rfl) g_len (by decide +kernel) (pa_cons (pv 2) pa_nil)) pa_nil))) pa_nil)) pa_nil)))))
      (pss_one (ps_ret (pv 3))))), ?_⟩
    -- rest, found = list(row), []
    refine ⟨_, rfl, a, xs, rfl, .inl (SqL.of ha), fun R hR => ⟨szl (Nat.zero_le _), fun D hD => ?_⟩⟩
    have hR0 : H R = none := hR
    have nRD : R ≠ D := ne_new upd_same hD
    have hD0 : H D = none := (Fr.new (S := []) (o := .lst xs) hR).free hD
    have fa : Fr [s0, d] H (upd (upd H R (.lst xs)) D (.lst [])) := (Fr.new hR).add hD
    refine ⟨_, _, rfl, ?_⟩
    -- for turn in range(len(row))
    have eA := fa.keep _ _ ha (by simp [nas, nad])
    refine ⟨_, rfl, a, xs, rfl, .inl (SqL.of eA), (xs.length : Nat), rfl, by omega, by omega, ?_⟩
    have kk : Stk s0 d c (upd (upd H R (.lst xs)) D (.lst [])) := (hk.add hk hR).add (hk.add hk hR) hD
    obtain ⟨r1, r2, r3⟩ := hk.apart hR0
    obtain ⟨q1, q2, q3⟩ := hk.apart hD0
    refine for_range (lo := 0) (n := xs.length) (fun i σ H' => ∃ y4 us ws ds1 ds2, σ = [some (.ref s0), some (.ref a), some (.ref R), some (.ref D), y4] ∧ Stk s0 d c H' ∧ Fr [s0, d] H H' ∧
      H' R = some (.lst us) ∧ Tps H' us ds1 ∧ H' D = some (.lst ws) ∧ Tps H' ws ds2 ∧ ds2.length = i ∧ (ds1 ++ ds2).Perm ds) ?_ ?_ ?_
    · exact ⟨none, xs, [], ds, [], rfl, kk, fa, by rw [upd_ne nRD, upd_same], hx.fr fa, upd_same, .nil, rfl, by rw [List.append_nil]⟩
    · rintro i σ H1 hi ⟨y4, us, ws, ds1, ds2, rfl, k1, f1, e1, t1, e2, t2, l2, pm⟩
      have lx := hx.length
      have lu := t1.length
      have lw := t2.length
      have lp := pm.length_eq
      rw [List.length_append] at lp
      have hu : 0 < us.length := by omega
      -- found.append(rest.pop(draw(stock, len(rest))))
      refine ⟨_, rfl, .inl ⟨rfl, _, SqL.of e2⟩, _, rfl, .inl ⟨rfl, _, SqL.of e1⟩, _, rfl, _, rfl, R, us, rfl, .inl (SqL.of e1), ?_⟩
      refine ⟨s0, d, c, us.length, rfl, k1, hu, by omega, fun H2 r hr2 k2 f2 => ?_⟩
      have eR := f2.keep _ _ e1 (by simp [r1, r2])
      have eD := f2.keep _ _ e2 (by simp [q1, q2])
      have t1' := t1.fr f2
      have t2' := t2.fr f2
      obtain ⟨y, ey⟩ : ∃ y, us[r]? = some y := ⟨us[r], List.getElem?_eq_getElem hr2⟩
      obtain ⟨dy, edy, ty⟩ := t1'.at ey
      refine ⟨R, us, r, r, y, rfl, rfl, eR, by omega, by omega, seq_at hr2, ey, ?_⟩
      have f3 : Fr [s0, d] H (upd H2 R (.lst (us.eraseIdx r))) := (f1.trans f2).set (.inl hR0) (fun xs z => by rw [eR] at z; cases z)
      have g3 : Fr [R] H2 (upd H2 R (.lst (us.eraseIdx r))) := Fr.refl.set (.inr List.mem_cons_self) (fun xs z => by rw [eR] at z; cases z)
      have eD3 : upd H2 R (.lst (us.eraseIdx r)) D = some (.lst ws) := by rw [upd_ne nRD.symm]; exact eD
      refine ⟨D, ws, y, rfl, rfl, eD3, szlt (by omega), ?_⟩
      have f4 : Fr [s0, d] H (upd (upd H2 R (.lst (us.eraseIdx r))) D (.lst (ws ++ [y]))) := f3.set (.inl hD0) (fun xs z => by rw [eD3] at z; cases z)
      have g4 : Fr [D] (upd H2 R (.lst (us.eraseIdx r))) (upd (upd H2 R (.lst (us.eraseIdx r))) D (.lst (ws ++ [y]))) := Fr.refl.set (.inr List.mem_cons_self) (fun xs z => by rw [eD3] at z; cases z)
      refine ⟨_, us.eraseIdx r, ws ++ [y], ds1.eraseIdx r, ds2 ++ [dy], rfl, hk.add (hk.add k2 hR0) hD0, f4, ?_, ((t1'.erase r).fr g3).fr g4, upd_same, ((t2'.fr g3).fr g4).app (Tps.one ((ty.fr g3).fr g4)), ?_, ?_⟩
      · rw [upd_ne nRD, upd_same]
      · rw [List.length_append, l2]
        rfl
      · refine List.Perm.trans ?_ pm
        exact perm_move edy
    · rintro σ H1 ⟨y4, us, ws, ds1, ds2, rfl, k1, f1, e1, t1, e2, t2, l2, pm⟩
      have lp := pm.length_eq
      rw [List.length_append] at lp
      have lx := hx.length
      have ld : ds1 = [] := List.eq_nil_of_length_eq_zero (by omega)
      subst ld
      exact ⟨_, rfl, q H1 D ws ds2 pm f1 hD0 k1 e2 t2⟩
end
end Lt

set_option Elab.async false
set_option linter.all false
set_option maxRecDepth 100000
set_option maxHeartbeats 4000000
namespace Lt
open PySem PySem.Spec PyProof.Rows L2
section
variable {P : Program} {w : World} {K : PySem.W.Frag} {mg : Str → Option Value} {base : Heap} {f : Addr} {fd : FuncData}
theorem ok_law_pairs (F : FnP K "_law_pairs" s__law_pairs f fd) (g_range : mg "range" = none) : FnG P w K mg base CX0 1 f fd ["many"] spPairs := by
  refine okG0 F sc__law_pairs (fun vs H Q E h => ?_) (fun cdv A outer s H vs Q E hS hr h => ?_)
  · obtain ⟨_, rfl, _⟩ := h
    rfl
  · obtain ⟨n, rfl, hn, q⟩ := h
    refine ⟨_, (pss_cons (ps_set (i := 1) sc__law_pairs.nd rfl (Or.inl rfl) (pe_lst pa_nil))
      (pss_cons (ps_for PassesOwn.never rfl (pi_range1 rfl g_range (pa_cons (pv 0) pa_nil)) (pg_name (i := 2) sc__law_pairs.nd rfl (Or.inr rfl)) (pss_one (ps_set (i := 1) sc__law_pairs.nd rfl (Or.inl rfl) (pe_op op_cat (pv 1) (pe_lc (own := [("b", 3)]) (g := (gName 3)) (tt := tYes) rfl sc__law_pairs.nd (pi_range2 rfl g_range (pa_cons (pe_op op_add (pv 2) pe_int) (pa_cons (pv 0) pa_nil))) (blkOk_by (own := [("b", 3)]) (N := N__law_pairs) (sc := defScope s__law_pairs) (by decide +kernel)) (fun _ _ _ _ _ => (pg_name (i := 3) sc__law_pairs.nd rfl (Or.inl rfl))) (fun _ _ _ _ _ => pts_nil) (fun _ _ _ _ _ => (pe_tup (pa_cons (pv 2) (pa_cons (pv 3) pa_nil)))))))))
      (pss_one (ps_ret (pv 1))))), ?_⟩
    refine ⟨szl (Nat.zero_le _), fun R hR => ?_⟩
    refine ⟨_, rfl, n, rfl, by omega, by omega, ?_⟩
    refine for_range (lo := 0) (n := n) (fun i σ H' => ∃ p ys y2, σ = [some (.int n), some (.ref p), y2, none] ∧ Fr [] H H' ∧ H p = none ∧ H' p = some (.lst ys) ∧ Tps H' ys (dPs (pairsTo n i))) ?_ ?_ ?_
    · exact ⟨R, [], none, rfl, Fr.new hR, hR, upd_same, .nil⟩
    · rintro i σ H1 hi ⟨p, ys, y2, rfl, f1, np, e1, t1⟩
      refine ⟨_, rfl, _, rfl, _, _, rfl, rfl, _, rfl, ((0 : Int) + i) + 1, n, rfl, ⟨by omega, by omega, by omega, by omega⟩, fun D hD => ?_⟩
      have hm : ((n : Int) - (((0 : Int) + i) + 1)).toNat = n - (i + 1) := by omega
      have C : LcC [] (fun _ => True) H1 D := ⟨hD, List.not_mem_nil, fun _ _ h => h⟩
      refine lcr (M := fun k ds => ds = made (List.range (n - (i + 1))) (fun j => some (i, i + 1 + j)) dP k) C trivial rfl ?_ ?_
      · intro j H2 zs ds hj L
        rw [hm] at hj
        have ej := range_at hj
        refine ⟨rfl, tyes ?_⟩
        refine ⟨_, rfl, _, rfl, szl (Nat.le_of_ble_eq_true rfl), fun p2 hp2 => ?_⟩
        refine L.put C (d := dP (i, i + 1 + j)) (by omega) (Fr.new hp2) trivial (Tp.pr (p := (i, i + 1 + j)) (by rw [upd_same]; simp only [Option.some.injEq, HO.tup.injEq, List.cons.injEq, V.int.injEq, and_true]; omega)) ?_
        rw [L.m]
        exact (made_some (f := fun j => some (i, i + 1 + j)) (en := dP) ej rfl).symm
      · intro H2 zs ds L
        have em := L.m
        rw [hm, made_all (by rw [List.length_range]; exact Nat.le_refl _), filterMap_one] at em
        have td := L.dat
        rw [em] at td
        have e2 := L.fr.keep _ _ e1 List.not_mem_nil
        have lz := td.length
        have ly := t1.length
        rw [List.length_map, List.length_map, List.length_range] at lz
        rw [List.length_map] at ly
        have lp := pairsTo_len n i
        have : i * n ≤ 20 * 20 := Nat.mul_le_mul (by omega) hn
        refine ⟨p, D, ys, zs, rfl, rfl, e2, L.at_, szl (by omega), fun p3 hp3 => ?_⟩
        have f3 : Fr [] H2 (upd H2 p3 (.lst (ys ++ zs))) := Fr.new hp3
        refine ⟨p3, ys ++ zs, some (.int (0 + i)), rfl, (f1.trans L.fr).trans f3, (f1.trans L.fr).free hp3, upd_same, ?_⟩
        rw [pairsTo_succ, dPs_app]
        exact ((t1.fr L.fr).fr f3).app (td.fr f3)
    · rintro σ H1 ⟨p, ys, y2, rfl, f1, np, e1, t1⟩
      exact ⟨_, rfl, q H1 p ys f1 np e1 t1⟩
end
end Lt

set_option Elab.async false
set_option linter.all false
set_option maxRecDepth 100000
set_option maxHeartbeats 4000000
namespace Lt
open PySem PySem.Spec PyProof.Rows L2
/-! ## pairs put in order -/
def kOf (H : Hp) (x : V) : Int × Int := match x with
  | .ref t => (match H t with
    | some (.tup [.int i, .int j]) => (i, j)
    | _ => (0, 0))
  | _ => (0, 0)
def pOf (H : Hp) (x : V) : Pr := ((kOf H x).1.toNat, (kOf H x).2.toNat)
theorem kOf_pr {H : Hp} {x : V} {p : Pr} (h : Tp H x (dP p)) : kOf H x = ((p.1 : Int), (p.2 : Int)) := by
  obtain ⟨a, rfl, e⟩ := h.pr_inv
  simp only [kOf]
  rw [e]
theorem pOf_pr {H : Hp} {x : V} {p : Pr} (h : Tp H x (dP p)) : pOf H x = p := by
  unfold pOf
  rw [kOf_pr h]
  simp
theorem pOf_all {H : Hp} : ∀ {xs : List V} {ps : List Pr}, Tps H xs (dPs ps) → xs.map (pOf H) = ps
  | _, [], .nil => rfl
  | _, p :: ps, .cons a t => by
    rw [List.map_cons, pOf_pr a, pOf_all t]
theorem tps_of {H : Hp} {g : V → Pr} : ∀ {ys : List V}, (∀ y ∈ ys, Tp H y (dP (g y))) → Tps H ys (dPs (ys.map g))
  | [], _ => .nil
  | y :: ys, h => .cons (h y List.mem_cons_self) (tps_of fun z m => h z (List.mem_cons_of_mem _ m))
theorem tps_mem {H : Hp} : ∀ {xs : List V} {ps : List Pr}, Tps H xs (dPs ps) → ∀ x ∈ xs, ∃ p ∈ ps, Tp H x (dP p)
  | _, [], .nil, x, m => absurd m List.not_mem_nil
  | _, p :: ps, .cons a t, x, m => by
    rcases List.mem_cons.mp m with rfl | m
    · exact ⟨p, List.mem_cons_self, a⟩
    · obtain ⟨q, mq, hq⟩ := tps_mem t x m
      exact ⟨q, List.mem_cons_of_mem _ mq, hq⟩
/-- sorted(xs), xs a list of pairs -/
theorem sorted_prs {K : PySem.W.Frag} {H : Hp} {Q : VK} {a : Addr} {xs : List V} {ps : List Pr} (ha : H a = some (.lst xs)) (t : Tps H xs (dPs ps)) (hn : ps.Nodup)
    (q : ∀ ys p qs, qs.Perm ps → qs.Pairwise Up → H p = none → Tps H ys (dPs qs) → Q (.ref p) (upd H p (.lst ys))) : rSortedPO K [.ref a] H Q := by
  refine ⟨a, xs, kOf H, rfl, SqL.of ha, ?_, fun ys p hs hb hp => ?_⟩
  · intro x m
    obtain ⟨pr, _, tx⟩ := tps_mem t x m
    obtain ⟨b, rfl, e⟩ := tx.pr_inv
    rw [kOf_pr tx]
    exact ⟨b, rfl, e⟩
  · have hm : ∀ y ∈ ys, ∃ pr, Tp H y (dP pr) := fun y m => by
      obtain ⟨pr, _, tx⟩ := tps_mem t y (hb.perm.mem_iff.mp m)
      exact ⟨pr, tx⟩
    have pm : (ys.map (pOf H)).Perm ps := by
      rw [← pOf_all t]
      exact hb.perm.map _
    refine q ys p (ys.map (pOf H)) pm ?_ hp (tps_of fun y m => ?_)
    · have nd : (ys.map (pOf H)).Nodup := pm.nodup_iff.mpr hn
      have nd2 := List.pairwise_map.mp nd
      refine List.pairwise_map.mpr ((List.Pairwise.and hs nd2).imp_of_mem ?_)
      intro x y mx my hxy
      obtain ⟨px, tx⟩ := hm x mx
      obtain ⟨py, ty⟩ := hm y my
      have h1 := SrtO.lexB_no.mp hxy.1
      have h2 := hxy.2
      rw [kOf_pr tx, kOf_pr ty] at h1
      rw [pOf_pr tx, pOf_pr ty] at h2 ⊢
      obtain ⟨a1, a2⟩ := px
      obtain ⟨b1, b2⟩ := py
      simp only [ne_eq, Prod.mk.injEq] at h1 h2 ⊢
      omega
    · obtain ⟨pr, tx⟩ := hm y m
      rw [pOf_pr tx]
      exact tx
section
variable {P : Program} {w : World} {K : PySem.W.Frag} {mg : Str → Option Value} {base : Heap} {f : Addr} {fd : FuncData}
def ren (nm : List Nat) (p : Pr) : Pr := (min (nm.getD p.1 0) (nm.getD p.2 0), max (nm.getD p.1 0) (nm.getD p.2 0))
def spNamed : Sp := fun vs H Q _ => ∃ (n : Nat) (t m : Addr) (xs : List V) (ps : List Pr) (nm : List Nat), vs = [.int n, .ref t, .ref m] ∧ H t = some (.lst xs) ∧ Tps H xs (dPs ps) ∧ ps.length ≤ 1000 ∧
  H m = some (.lst (nm.map fun x => V.int (x : Nat))) ∧ (∀ p ∈ ps, p.1 < nm.length ∧ p.2 < nm.length) ∧ (ps.map (ren nm)).Nodup ∧
  ∀ H' r qs, Fr [] H H' → Tp H' r (dW n qs) → qs.Perm (ps.map (ren nm)) → qs.Pairwise Up → Q r H'
theorem ok_named (F : FnP K "_law_named" s__law_named f fd) (g_tuple : mg "tuple" = none) (g_sorted : mg "sorted" = none) (g_min : mg "min" = none) (g_max : mg "max" = none) : FnG P w K mg base CX0 1 f fd ["many", "ties", "names"] spNamed := by
  refine okG0 F sc__law_named (fun vs H Q E h => ?_) (fun cdv A outer s H vs Q E hS hr h => ?_)
  · obtain ⟨_, _, _, _, _, _, rfl, _⟩ := h
    rfl
  · obtain ⟨n, t, m, xs, ps, nm, rfl, ht, tx, hl, hm, hin, hnd, q⟩ := h
    refine ⟨_, (pss_one (ps_ret (pe_tup (pa_cons (pv 0) (pa_cons (pe_callTy (tupOfK K) (by rfl) g_tuple (by decide +kernel) (pa_cons (pe_callB (sortedPK K) (by rfl) g_sorted (by decide +kernel) (pa_cons (pe_lc (own := [("a", 3), ("b", 4)]) (tt := tYes) rfl sc__law_named.nd (pi_list (pv 1)) (blkOk_by (own := [("a", 3), ("b", 4)]) (N := N__law_named) (sc := defScope s__law_named) (by decide +kernel)) (fun _ _ _ _ _ => (pg_tupK K (n := 2) (by rfl) (pgs_cons (pg_name (i := 3) sc__law_named.nd rfl (Or.inl rfl)) (pgs_cons (pg_name (i := 4) sc__law_named.nd rfl (Or.inl rfl)) pgs_nil)))) (fun _ _ _ _ _ => pts_nil) (fun _ _ _ _ _ => (pe_tup (pa_cons (pe_callB (call_min2 rfl) (by rfl) g_min (by decide +kernel) (pa_cons (pe_ix (ixL K) (pv 2) (pv 3) (fun _ _ => rfl)) (pa_cons (pe_ix (ixL K) (pv 2) (pv 4) (fun _ _ => rfl)) pa_nil))) (pa_cons (pe_callB (call_max2 rfl) (by rfl) g_max (by decide +kernel) (pa_cons (pe_ix (ixL K) (pv 2) (pv 3) (fun _ _ => rfl)) (pa_cons (pe_ix (ixL K) (pv 2) (pv 4) (fun _ _ => rfl)) pa_nil))) pa_nil))))) pa_nil)) pa_nil)) pa_nil))))), ?_⟩
    refine ⟨_, rfl, _, rfl, t, rfl, ⟨_, SqL.of ht⟩, fun D hD => ?_⟩
    have C : LcC [] (fun _ => True) H D := ⟨hD, List.not_mem_nil, fun _ _ h => h⟩
    refine lcl (M := fun k ds => ds = made ps (fun p => some (ren nm p)) dP k) C (SqL.of ht) List.not_mem_nil trivial rfl ?_ ?_
    · intro i x H2 zs ds ex L
      obtain ⟨p, ep, tp⟩ := tx.pr_at ex
      have hi : i < 2000 := by
        have := (List.getElem?_eq_some_iff.mp ep).1
        omega
      have hb := hin p (List.mem_of_getElem? ep)
      obtain ⟨b, rfl, eb⟩ := (tp.fr L.fr).pr_inv
      have em := L.fr.keep _ _ hm List.not_mem_nil
      have g1 : (nm.map fun x => V.int (x : Nat))[p.1]? = some (.int (nm.getD p.1 0 : Nat)) := by
        rw [List.getElem?_map, List.getElem?_eq_getElem hb.1, List.getD_eq_getElem?_getD, List.getElem?_eq_getElem hb.1]
        rfl
      have g2 : (nm.map fun x => V.int (x : Nat))[p.2]? = some (.int (nm.getD p.2 0 : Nat)) := by
        rw [List.getElem?_map, List.getElem?_eq_getElem hb.2, List.getD_eq_getElem?_getD, List.getElem?_eq_getElem hb.2]
        rfl
      refine ⟨b, _, rfl, SqT.of eb, rfl, _, _, rfl, _, _, rfl, rfl, rfl, tyes ?_⟩
      refine ⟨_, rfl, _, rfl, m, _, p.1, _, rfl, rfl, SqL.of em, atI_nat g1, _, rfl, _, rfl, m, _, p.2, _, rfl, rfl, SqL.of em, atI_nat g2, _, _, rfl, ?_⟩
      refine ⟨_, rfl, _, rfl, m, _, p.1, _, rfl, rfl, SqL.of em, atI_nat g1, _, rfl, _, rfl, m, _, p.2, _, rfl, rfl, SqL.of em, atI_nat g2, _, _, rfl, szl (Nat.le_of_ble_eq_true rfl), fun p2 hp2 => ?_⟩
      refine L.put C (d := dP (ren nm p)) (by omega) (Fr.new hp2) trivial (Tp.pr ?_) ?_
      · rw [upd_same]
        have e1 : ∀ i j : Nat, (if (j : Int) < (i : Int) then (j : Int) else (i : Int)) = ((min i j : Nat) : Int) := fun i j => by split <;> omega
        have e2 : ∀ i j : Nat, (if (j : Int) > (i : Int) then (j : Int) else (i : Int)) = ((max i j : Nat) : Int) := fun i j => by split <;> omega
        rw [e1, e2]
        rfl
      · rw [L.m]
        exact (made_some (f := fun p => some (ren nm p)) (en := dP) ep rfl).symm
    · intro H2 zs ds L
      have em := L.m
      rw [made_all (by rw [tx.len]; exact Nat.le_refl _), filterMap_one] at em
      have td := L.dat
      rw [em] at td
      dsimp only [tNil]
      refine sorted_prs L.at_ td hnd fun ys p qs hq hu hp ty => ?_
      have f2 : Fr [] H2 (upd H2 p (.lst ys)) := Fr.new hp
      refine ⟨p, ys, rfl, .inl ⟨SqL.of upd_same, fun l hl2 => ⟨szl (Nat.le_of_ble_eq_true rfl), fun p2 hp2 => ?_⟩⟩⟩
      have f3 : Fr [] (upd H2 p (.lst ys)) (upd (upd (upd H2 p (.lst ys)) l (.tup ys)) p2 (.tup [.int n, .ref l])) := (Fr.new hl2).add hp2
      exact q _ _ qs ((L.fr.trans f2).trans f3) (Tp.web upd_same (at_add upd_same hp2) ((ty.fr f2).fr f3)) hq hu
end
end Lt

set_option Elab.async false
set_option linter.all false
set_option maxRecDepth 100000
set_option maxHeartbeats 8000000
namespace Lt
open PySem PySem.Spec PyProof.Rows L2
theorem cut {t u : TS} {D : Ends} {σ : Slots} {H : Hp} (I : Slots → Hp → Prop) (hu : ∀ σ H, I σ H → u D σ H) (ht : (∀ σ H, I σ H → u D σ H) → t { D with nx := u D } σ H) : tSeq t u D σ H := ht hu
/-! ## parts of all pairs -/
theorem sub_put {α : Type} {ps qs : List α} {i : Nat} {p : α} (e : ps[i]? = some p) (h : qs.Sublist (ps.take i)) : (qs ++ [p]).Sublist (ps.take (i + 1)) := by
  rw [List.take_add_one, e]
  exact h.append (List.Sublist.refl _)
theorem sub_skip {α : Type} {ps qs : List α} {i : Nat} (h : qs.Sublist (ps.take i)) : qs.Sublist (ps.take (i + 1)) := by
  rw [List.take_add_one]
  exact h.trans (List.sublist_append_left _ _)
abbrev SubM (ps : List Pr) (i : Nat) (ds : List PyData) : Prop := ∃ qs, ds = dPs qs ∧ qs.Sublist (ps.take i)
theorem SubM.put {ps : List Pr} {i : Nat} {ds : List PyData} {p : Pr} (h : SubM ps i ds) (e : ps[i]? = some p) : SubM ps (i + 1) (ds ++ [dP p]) := by
  obtain ⟨qs, rfl, s⟩ := h
  exact ⟨qs ++ [p], by rw [dPs_app]; rfl, sub_put e s⟩
theorem SubM.skip {ps : List Pr} {i : Nat} {ds : List PyData} (h : SubM ps i ds) : SubM ps (i + 1) ds := by
  obtain ⟨qs, rfl, s⟩ := h
  exact ⟨qs, rfl, sub_skip s⟩
theorem pairsOf_nodup (n : Nat) : (pairsOf n).Nodup := up_nodup (pairsTo_up n n)
/-- some pairs of n places, none twice -/
structure Good (n : Nat) (ps : List Pr) : Prop where
  ins : ∀ p ∈ ps, p ∈ pairsOf n
  nd : ps.Nodup
theorem Good.sub {n : Nat} {ps : List Pr} (h : ps.Sublist (pairsOf n)) : Good n ps := ⟨fun p m => h.subset m, (pairsOf_nodup n).sublist h⟩
theorem Good.nil (n : Nat) : Good n [] := ⟨fun p m => absurd m List.not_mem_nil, List.nodup_nil⟩
def twosOf (n : Nat) : List Pr := (List.range (n / 2)).map fun i => (2 * i, 2 * i + 1)
def pathOf (n : Nat) : List Pr := (List.range (n - 1)).map fun i => (i, i + 1)
theorem map_nodup {α β : Type} {f : α → β} {l : List α} (h : l.Nodup) (hf : ∀ x ∈ l, ∀ y ∈ l, f x = f y → x = y) : (l.map f).Nodup := by
  refine List.pairwise_map.mpr (h.imp_of_mem ?_)
  intro x y mx my hxy e
  exact hxy (hf x mx y my e)
theorem twos_good (n : Nat) : Good n (twosOf n) := by
  refine ⟨fun p m => ?_, ?_⟩
  · obtain ⟨i, mi, rfl⟩ := List.mem_map.mp m
    have := List.mem_range.mp mi
    exact mem_pairsOf.mpr ⟨by show 2 * i < 2 * i + 1; omega, by show 2 * i + 1 < n; omega⟩
  · refine map_nodup List.nodup_range fun x _ y _ e => ?_
    have := congrArg Prod.fst e
    simp only at this
    omega
theorem path_good (n : Nat) : Good n (pathOf n) := by
  refine ⟨fun p m => ?_, ?_⟩
  · obtain ⟨i, mi, rfl⟩ := List.mem_map.mp m
    have := List.mem_range.mp mi
    exact mem_pairsOf.mpr ⟨by show i < i + 1; omega, by show i + 1 < n; omega⟩
  · refine map_nodup List.nodup_range fun x _ y _ e => ?_
    exact congrArg Prod.fst e
theorem ring_good {n : Nat} (h : 2 < n) : Good n (pathOf n ++ [(0, n - 1)]) := by
  have g := path_good n
  refine ⟨fun p m => ?_, ?_⟩
  · rcases List.mem_append.mp m with m | m
    · exact g.ins p m
    · rw [List.mem_singleton.mp m]
      exact mem_pairsOf.mpr ⟨by show 0 < n - 1; omega, by show n - 1 < n; omega⟩
  · refine List.nodup_append.mpr ⟨g.nd, by simp, ?_⟩
    intro x mx y my e
    subst e
    rw [List.mem_singleton.mp my] at mx
    obtain ⟨i, mi, e⟩ := List.mem_map.mp mx
    simp only [Prod.mk.injEq] at e
    omega
theorem len_sub {α : Type} [BEq α] [LawfulBEq α] : ∀ {l m : List α}, l.Nodup → (∀ x ∈ l, x ∈ m) → l.length ≤ m.length
  | [], _, _, _ => Nat.zero_le _
  | x :: l, m, h, hs => by
    have h' := List.nodup_cons.mp h
    have hx := hs x List.mem_cons_self
    have ih := len_sub (m := m.erase x) h'.2 fun y my => (List.mem_erase_of_ne (fun e : y = x => h'.1 (by rw [← e]; exact my))).mpr (hs y (List.mem_cons_of_mem _ my))
    rw [List.length_erase_of_mem hx] at ih
    have : 0 < m.length := List.length_pos_of_mem hx
    rw [List.length_cons]
    omega
theorem Good.len {n : Nat} {ps : List Pr} (g : Good n ps) (h : n ≤ 20) : ps.length ≤ 400 := by
  have h1 : ps.length ≤ (pairsOf n).length := len_sub g.nd g.ins
  exact Nat.le_trans h1 (pairsOf_len h)
/-! ## places called otherwise -/
theorem getD_inj {nm : List Nat} (h : nm.Nodup) {i j : Nat} (hi : i < nm.length) (hj : j < nm.length) (e : nm.getD i 0 = nm.getD j 0) : i = j := by
  rw [List.getD_eq_getElem?_getD, List.getD_eq_getElem?_getD, List.getElem?_eq_getElem hi, List.getElem?_eq_getElem hj] at e
  exact (List.getElem_inj h).mp e
theorem getD_lt {nm : List Nat} {n : Nat} (h : ∀ x ∈ nm, x < n) {i : Nat} (hi : i < nm.length) : nm.getD i 0 < n := by
  rw [List.getD_eq_getElem?_getD, List.getElem?_eq_getElem hi]
  exact h _ (List.getElem_mem hi)
theorem ren_good {n : Nat} {nm : List Nat} {ps : List Pr} (hp : nm.Perm (List.range n)) (g : Good n ps) : (ps.map (ren nm)).Nodup ∧ ∀ p ∈ ps.map (ren nm), p ∈ pairsOf n := by
  have hl : nm.length = n := by rw [hp.length_eq, List.length_range]
  have hnd : nm.Nodup := hp.nodup_iff.mpr List.nodup_range
  have hlt : ∀ x ∈ nm, x < n := fun x m => List.mem_range.mp (hp.mem_iff.mp m)
  constructor
  · refine map_nodup g.nd fun p mp q mq e => ?_
    have bp := mem_pairsOf.mp (g.ins p mp)
    have bq := mem_pairsOf.mp (g.ins q mq)
    have e1 : min (nm.getD p.1 0) (nm.getD p.2 0) = min (nm.getD q.1 0) (nm.getD q.2 0) := congrArg Prod.fst e
    have e2 : max (nm.getD p.1 0) (nm.getD p.2 0) = max (nm.getD q.1 0) (nm.getD q.2 0) := congrArg Prod.snd e
    have n1 : nm.getD p.1 0 ≠ nm.getD p.2 0 := fun z => by
      have := getD_inj hnd (by omega) (by omega) z
      omega
    have cases4 : (nm.getD p.1 0 = nm.getD q.1 0 ∧ nm.getD p.2 0 = nm.getD q.2 0) ∨ (nm.getD p.1 0 = nm.getD q.2 0 ∧ nm.getD p.2 0 = nm.getD q.1 0) := by omega
    rcases cases4 with ⟨a, b⟩ | ⟨a, b⟩
    · have a' := getD_inj hnd (by omega) (by omega) a
      have b' := getD_inj hnd (by omega) (by omega) b
      exact Prod.ext a' b'
    · have a' := getD_inj hnd (by omega) (by omega) a
      have b' := getD_inj hnd (by omega) (by omega) b
      omega
  · intro r mr
    obtain ⟨p, mp, rfl⟩ := List.mem_map.mp mr
    have bp := mem_pairsOf.mp (g.ins p mp)
    have n1 : nm.getD p.1 0 ≠ nm.getD p.2 0 := fun z => by
      have := getD_inj hnd (by omega) (by omega) z
      omega
    have l1 := getD_lt hlt (i := p.1) (by omega)
    have l2 := getD_lt hlt (i := p.2) (by omega)
    refine mem_pairsOf.mpr ⟨?_, ?_⟩
    · show min _ _ < max _ _
      omega
    · show max _ _ < n
      omega
theorem names_of {n : Nat} {es : List PyData} (h : es.Perm (dNs (List.range n))) : ∃ nm : List Nat, es = dNs nm ∧ nm.Perm (List.range n) := by
  let g : PyData → Nat := fun d => match d with
    | .int i => i.toNat
    | _ => 0
  have hg : ∀ i : Nat, g (dN i) = i := fun i => by
    show (i : Int).toNat = i
    simp
  refine ⟨es.map g, ?_, ?_⟩
  · rw [show dNs (es.map g) = es.map (fun d => dN (g d)) from List.map_map]
    have hid : ∀ d ∈ es, dN (g d) = d := fun d m => by
      obtain ⟨i, _, rfl⟩ := List.mem_map.mp (h.mem_iff.mp m)
      rw [hg]
    exact ((List.map_congr_left hid).trans (List.map_id' es)).symm
  · have := h.map g
    rw [show (dNs (List.range n)).map g = List.range n by
      rw [show (dNs (List.range n)).map g = (List.range n).map (fun i => g (dN i)) from List.map_map]
      exact List.map_id'' hg _] at this
    exact this
end Lt

set_option Elab.async false
set_option linter.all false
set_option maxRecDepth 100000
set_option maxHeartbeats 8000000
namespace Lt
open PySem PySem.Spec PyProof.Rows L2
/-! ## a range with a step -/
theorem walk_c {Hs : Hp} {Qd : Hp → Prop} {T : V → Hp → (Hp → Prop) → Prop} {lo c : Int} {n : Nat} (Pv : Nat → Hp → Prop) (h0 : Pv 0 Hs) (hs : ∀ (i : Nat) H, i < n → Pv i H → T (.int (lo + (i : Nat) * c)) H (Pv (i + 1))) (hd : ∀ H, Pv n H → Qd H) : WalkGoal (Itc lo c n) Hs Qd T := by
  refine ⟨fun i m H => m + i = n ∧ Pv i H, ⟨n, by omega, h0⟩, ?_⟩
  rintro i m H ⟨e, p⟩
  by_cases c : i < n
  · refine .inr ⟨c, Pv (i + 1), fun H' p' => ⟨m - 1, by omega, by omega, p'⟩, ?_⟩
    rintro x H' ⟨rfl, rfl⟩
    exact hs i H' c p
  · obtain rfl : i = n := by omega
    exact .inl ⟨Nat.le_refl _, hd H p⟩
theorem lcc {S : List Addr} {J : Hp → Prop} {M : Nat → List PyData → Prop} {g : TG} {tt : TT} {te : TE} {vs : List Nat} {σ : Slots} {H1 : Hp} {D : Addr} {Qd : Hp → Prop} {lo c : Int} {n : Nat} (C : LcC S J H1 D) (j0 : J H1) (m0 : M 0 [])
    (turn : ∀ (i : Nat) H ys ds, i < n → LcS S J M H1 D i H ys ds → TurnGoal S J M g tt te vs σ H1 D i (.int (lo + (i : Nat) * c)) H)
    (done : ∀ H ys ds, LcS S J M H1 D n H ys ds → Qd H) : LcGoal (Itc lo c n) g tt te vs σ H1 D Qd :=
  walk_c (lo := lo) (c := c) (n := n) (LcAny S J M H1 D) (C.zero j0 m0) (fun i H hi ⟨ys, ds, L⟩ => turn i H ys ds hi L) (fun H ⟨ys, ds, L⟩ => done H ys ds L)
theorem rg_two : ∀ n : Nat, n ≤ 12 → 1 ≤ n → (2 : Int) ≠ 0 ∧ (2 : Int).natAbs < 1073741824 ∧ Builtin.Range.small 0 ((n : Int) - 1) 2 = true ∧ Builtin.Range.rangeSize 0 ((n : Int) - 1) 2 = ((n / 2 : Nat) : Int) := by decide
section
variable {P : Program} {w : World} {K : PySem.W.Frag} {mg : Str → Option Value} {base : Heap} {f : Addr} {fd : FuncData}
/-- where the law's web stands: its places n, its way wy, all pairs in a list, its ties in a list -/
def WebSt (H0 : Hp) (s d c : Addr) (lo hi n wy : Nat) (σ : Slots) (H : Hp) : Prop := ∃ e es t ts ps y7,
  σ = [some (.ref s), some (.int lo), some (.int hi), some (.int n), some (.int wy), some (.ref e), some (.ref t), y7, none, none] ∧ Stk s d c H ∧ Fr [s, d] H0 H ∧
  H0 e = none ∧ H e = some (.lst es) ∧ Tps H es (dPs (pairsOf n)) ∧ H0 t = none ∧ H t = some (.lst ts) ∧ Tps H ts (dPs ps) ∧ Good n ps
def rd__law_web_1 (K : PySem.W.Frag) : TS := (tPar 3 4 (tCons (tOp rAddI (tVar 1) (tCall spDraw [] E0 (tCons (tVar 0) (tCons (tOp rAddI (tOp rSubI (tVar 2) (tVar 1)) (tC (.int 1))) tNil)))) (tCons (tCall spDraw [] E0 (tCons (tVar 0) (tCons (tC (.int 11)) tNil))) tNil)))
def rd__law_web_2 (K : PySem.W.Frag) : TS := (tAsg (tTup (tCons (tCall spPairs [] E0 (tCons (tVar 3) tNil)) (tCons (tLst tNil) tNil))) (gTup K 2 (gCons (gName 5) (gCons (gName 6) gNil))))
def rd__law_web_3 (K : PySem.W.Frag) : TS := (tIfS (tTest (tOp rEq (tVar 4) (tC (.int 0)))) (tAsg (tIf (tTest (tOp rEq (tCall spDraw [] E0 (tCons (tVar 0) (tCons (tC (.int 2)) tNil))) (tC (.int 0)))) (tVar 5) (tLst tNil)) (gName 6)) tNext)
def rd__law_web_4 (K : PySem.W.Frag) : TS := (tIfS (tTest (tOp rEq (tVar 4) (tC (.int 1)))) (tAsg (tLc (iRng3 (tCons (tC (.int 0)) (tCons (tOp rSubI (tVar 3) (tC (.int 1))) (tCons (tC (.int 2)) tNil)))) (gName 8) tYes (tTup (tCons (tVar 8) (tCons (tOp rAddI (tVar 8) (tC (.int 1))) tNil))) [8]) (gName 6)) tNext)
def rd__law_web_5 (K : PySem.W.Frag) : TS := (tIfS (tTest (tOp (rMem K) (tVar 4) (tTup (tCons (tC (.int 2)) (tCons (tC (.int 3)) tNil))))) (tAsg (tOp rCat (tLc (iRng1 (tCons (tOp rSubI (tVar 3) (tC (.int 1))) tNil)) (gName 8) tYes (tTup (tCons (tVar 8) (tCons (tOp rAddI (tVar 8) (tC (.int 1))) tNil))) [8]) (tOp rRep (tLst (tCons (tTup (tCons (tC (.int 0)) (tCons (tOp rSubI (tVar 3) (tC (.int 1))) tNil))) tNil)) (tCB cInt1 (tCons (tAndV (tOp rEq (tVar 4) (tC (.int 3))) (tOp rGtI (tVar 3) (tC (.int 2)))) tNil)))) (gName 6)) tNext)
def rd__law_web_6 (K : PySem.W.Frag) : TS := (tIfS (tTest (tOp rEq (tVar 4) (tC (.int 4)))) (tAsg (tLc (iList K (tVar 5)) (gName 9) (tTest (tOp rNe (tOp rModI (tOp (rIxT K) (tVar 9) (tC (.int 0))) (tC (.int 2))) (tOp rModI (tOp (rIxT K) (tVar 9) (tC (.int 1))) (tC (.int 2))))) (tVar 9) [9]) (gName 6)) tNext)
def rd__law_web_7 (K : PySem.W.Frag) : TS := (tIfS (tTest (tOp rGtI (tVar 4) (tC (.int 4)))) (tSeq (tAsg (tOp rAddI (tC (.int 1)) (tCall spDraw [] E0 (tCons (tVar 0) (tCons (tC (.int 3)) tNil)))) (gName 7)) (tAsg (tLc (iList K (tVar 5)) (gName 9) (tTest (tOp rLtI (tCall spDraw [] E0 (tCons (tVar 0) (tCons (tC (.int 4)) tNil))) (tVar 7))) (tVar 9) [9]) (gName 6))) tNext)
def rd__law_web_8 (K : PySem.W.Frag) : TS := (tIfS (tAnd (tTest (tOp rLtI (tVar 4) (tC (.int 5)))) (tTest (tOp rEq (tCall spDraw [] E0 (tCons (tVar 0) (tCons (tC (.int 3)) tNil))) (tC (.int 0))))) (tAsg (tLc (iList K (tVar 5)) (gName 9) (tTest (tOp (rNMem K) (tVar 9) (tVar 6))) (tVar 9) [9]) (gName 6)) tNext)
def rd__law_web_9 (K : PySem.W.Frag) : TS := (tRet (tCall spNamed [] E0 (tCons (tVar 3) (tCons (tVar 6) (tCons (tCall spShuf [] E0 (tCons (tVar 0) (tCons (tLstRg (tRg1 (tVar 3))) tNil))) tNil)))))
def rdS__law_web_9 (K : PySem.W.Frag) : TS := rd__law_web_9 K
def rdS__law_web_8 (K : PySem.W.Frag) : TS := tSeq (rd__law_web_8 K) (rdS__law_web_9 K)
def rdS__law_web_7 (K : PySem.W.Frag) : TS := tSeq (rd__law_web_7 K) (rdS__law_web_8 K)
def rdS__law_web_6 (K : PySem.W.Frag) : TS := tSeq (rd__law_web_6 K) (rdS__law_web_7 K)
def rdS__law_web_5 (K : PySem.W.Frag) : TS := tSeq (rd__law_web_5 K) (rdS__law_web_6 K)
def rdS__law_web_4 (K : PySem.W.Frag) : TS := tSeq (rd__law_web_4 K) (rdS__law_web_5 K)
def rdS__law_web_3 (K : PySem.W.Frag) : TS := tSeq (rd__law_web_3 K) (rdS__law_web_4 K)
def rdS__law_web_2 (K : PySem.W.Frag) : TS := tSeq (rd__law_web_2 K) (rdS__law_web_3 K)
def rdS__law_web_1 (K : PySem.W.Frag) : TS := tSeq (rd__law_web_1 K) (rdS__law_web_2 K)
def spWeb : Sp := fun vs H Q _ => ∃ (s d c : Addr) (lo hi : Nat), vs = [.ref s, .int lo, .int hi] ∧ Stk s d c H ∧ 1 ≤ lo ∧ lo ≤ hi ∧ hi ≤ 12 ∧
  ∀ H' r n ps, lo ≤ n → n ≤ hi → WebOk n ps → Fr [s, d] H H' → Stk s d c H' → Tp H' r (dW n ps) → Q r H'
variable {H0 : Hp} {s d c : Addr} {lo hi n wy : Nat} {D : Ends} {σ : Slots} {H : Hp}
theorem WebSt.off (L : WebSt H0 s d c lo hi n wy σ H) (h0 : Stk s d c H0) {x : Addr} (hx : H0 x = none) : x ∉ [s, d] := by
  obtain ⟨a, b, _⟩ := h0.apart hx
  simp [a, b]
theorem off_of (h0 : Stk s d c H0) {x : Addr} (hx : H0 x = none) : x ∉ [s, d] := by
  obtain ⟨a, b, _⟩ := h0.apart hx
  simp [a, b]
/-- the ties are another list now -/
theorem web_put {e t : Addr} {es ts : List V} {ps : List Pr} {y7 y6 : Option V} {H1 : Hp} (h0 : Stk s d c H0) (kk : Stk s d c H1) (ff : Fr [s, d] H0 H) (f1 : Fr [s, d] H H1) (ne : H0 e = none) (ee : H e = some (.lst es)) (te : Tps H es (dPs (pairsOf n)))
    (nt : H0 t = none) (et : H1 t = some (.lst ts)) (tt : Tps H1 ts (dPs ps)) (g : Good n ps) :
    WebSt H0 s d c lo hi n wy (([some (.ref s), some (.int lo), some (.int hi), some (.int n), some (.int wy), some (.ref e), y6, y7, none, none] : Slots).set 6 (some (.ref t))) H1 :=
  ⟨e, es, t, ts, ps, y7, rfl, kk, ff.trans f1, ne, f1.keep _ _ ee (off_of h0 ne), te.fr f1, nt, et, tt, g⟩
theorem web_0 (h0 : Stk s d c H0) (L : WebSt H0 s d c lo hi n wy σ H) (k : ∀ σ H, WebSt H0 s d c lo hi n wy σ H → D.nx σ H) : rd__law_web_3 K D σ H := by
  have L0 := L
  obtain ⟨e, es, t, ts, ps, y7, rfl, kk, ff, ne, ee, te, nt, et, tt, g⟩ := L
  refine ⟨_, rfl, rfl, _, rfl, ite2 (fun c1 => ?_) (fun c1 => k _ _ L0)⟩
  refine ⟨_, rfl, s, d, c, 2, rfl, kk, by decide, by decide, fun H4 r4 hr4 k4 f4 => ⟨rfl, _, rfl, ite2 (fun c2 => ?_) (fun c2 => ?_)⟩⟩
  · refine ⟨_, rfl, k _ _ (web_put h0 k4 ff f4 ne ee te ne (f4.keep _ _ ee (off_of h0 ne)) (te.fr f4) (Good.sub (List.Sublist.refl _)))⟩
  · refine ⟨szl (Nat.zero_le _), fun p hp => k _ _ ?_⟩
    exact web_put h0 (h0.add k4 ((ff.trans f4).free hp)) ff (f4.add hp) ne ee te ((ff.trans f4).free hp) upd_same .nil (Good.nil n)
theorem web_1 (h0 : Stk s d c H0) (hn : 1 ≤ n) (hn2 : n ≤ 12) (L : WebSt H0 s d c lo hi n wy σ H) (k : ∀ σ H, WebSt H0 s d c lo hi n wy σ H → D.nx σ H) : rd__law_web_4 K D σ H := by
  have L0 := L
  obtain ⟨e, es, t, ts, ps, y7, rfl, kk, ff, ne, ee, te, nt, et, tt, g⟩ := L
  refine ⟨_, rfl, rfl, _, rfl, ite2 (fun c1 => ?_) (fun c1 => k _ _ L0)⟩
  refine ⟨_, rfl, _, _, rfl, rfl, 0, (n : Int) - 1, 2, n / 2, rfl, rg_two n hn2 hn, fun D1 hD1 => ?_⟩
  have nD := ff.free hD1
  obtain ⟨a1, a2, a3⟩ := h0.apart nD
  have C : LcC [s, d] (Stk s d c) H D1 := ⟨hD1, off_of h0 nD, fun H o j => j.far a1 a2 a3⟩
  refine lcc (M := fun i ds => ds = made (List.range (n / 2)) (fun i => some (2 * i, 2 * i + 1)) dP i) C kk rfl ?_ ?_
  · intro i H2 zs ds hi2 L
    have ei := range_at hi2
    refine ⟨rfl, tyes ⟨_, rfl, _, rfl, _, _, rfl, rfl, szl (Nat.le_of_ble_eq_true rfl), fun p hp => ?_⟩⟩
    refine L.put C (d := dP (2 * i, 2 * i + 1)) (by omega) (Fr.new hp) (h0.add L.j ((ff.trans L.fr).free hp)) (Tp.pr (p := (2 * i, 2 * i + 1)) ?_) ?_
    · rw [upd_same]
      simp only [Option.some.injEq, HO.tup.injEq, List.cons.injEq, V.int.injEq, and_true]
      omega
    · rw [L.m]
      exact (made_some (f := fun i => some (2 * i, 2 * i + 1)) (en := dP) ei rfl).symm
  · intro H2 zs ds L
    have em := L.m
    rw [made_all (by rw [List.length_range]; exact Nat.le_refl _), filterMap_one] at em
    have td := L.dat
    rw [em] at td
    exact k _ _ (web_put h0 L.j ff L.fr ne ee te nD L.at_ td (twos_good n))
theorem web_4 (h0 : Stk s d c H0) (hn2 : n ≤ 12) (L : WebSt H0 s d c lo hi n wy σ H) (k : ∀ σ H, WebSt H0 s d c lo hi n wy σ H → D.nx σ H) : rd__law_web_6 K D σ H := by
  have L0 := L
  obtain ⟨e, es, t, ts, ps, y7, rfl, kk, ff, ne, ee, te, nt, et, tt, g⟩ := L
  refine ⟨_, rfl, rfl, _, rfl, ite2 (fun c1 => ?_) (fun c1 => k _ _ L0)⟩
  refine ⟨_, rfl, e, rfl, ⟨_, SqL.of ee⟩, fun D1 hD1 => ?_⟩
  have nD := ff.free hD1
  obtain ⟨a1, a2, a3⟩ := h0.apart nD
  have C : LcC [s, d] (Stk s d c) H D1 := ⟨hD1, off_of h0 nD, fun H o j => j.far a1 a2 a3⟩
  refine lcl (M := SubM (pairsOf n)) C (SqL.of ee) (off_of h0 ne) kk ⟨[], rfl, List.nil_sublist _⟩ ?_ ?_
  · intro i x H2 zs ds ex L
    obtain ⟨p, ep, tp⟩ := te.pr_at ex
    have hi : i < 1000 := by
      have := (List.getElem?_eq_some_iff.mp ep).1
      have := pairsOf_len (n := n) (by omega)
      omega
    have tp2 := tp.fr L.fr
    obtain ⟨b, rfl, eb⟩ := tp2.pr_inv
    refine ⟨rfl, _, rfl, b, _, 0, _, rfl, rfl, SqT.of eb, atI_nat (j := 0) rfl, _, _, rfl, rfl, (show (0 : Int) < 2 by decide), _, rfl, b, _, 1, _, rfl, rfl, SqT.of eb, atI_nat (j := 1) rfl, _, _, rfl, rfl, (show (0 : Int) < 2 by decide), rfl, _, rfl, ite2 (fun c2 => ?_) (fun c2 => ?_)⟩
    · exact ⟨_, rfl, L.put C (by omega) Fr.refl L.j tp2 (L.m.put ep)⟩
    · exact L.skip C Fr.refl L.j L.m.skip
  · intro H2 zs ds L
    obtain ⟨qs, rfl, sb⟩ := L.m
    exact k _ _ (web_put h0 L.j ff L.fr ne ee te nD L.at_ L.dat (Good.sub (sb.trans (List.take_sublist _ _))))
theorem web_5 (h0 : Stk s d c H0) (hn2 : n ≤ 12) (L : WebSt H0 s d c lo hi n wy σ H) (k : ∀ σ H, WebSt H0 s d c lo hi n wy σ H → D.nx σ H) : rd__law_web_7 K D σ H := by
  have L0 := L
  obtain ⟨e, es, t, ts, ps, y7, rfl, kk, ff, ne, ee, te, nt, et, tt, g⟩ := L
  refine ⟨_, rfl, _, _, rfl, rfl, _, rfl, ite2 (fun c1 => ?_) (fun c1 => k _ _ L0)⟩
  refine ⟨_, rfl, s, d, c, 3, rfl, kk, by decide, by decide, fun H4 r4 hr4 k4 f4 => ⟨_, _, rfl, rfl, ?_⟩⟩
  have ee4 := f4.keep _ _ ee (off_of h0 ne)
  have te4 := te.fr f4
  refine ⟨_, rfl, e, rfl, ⟨_, SqL.of ee4⟩, fun D1 hD1 => ?_⟩
  have ff4 := ff.trans f4
  have nD := ff4.free hD1
  obtain ⟨a1, a2, a3⟩ := h0.apart nD
  have C : LcC [s, d] (Stk s d c) H4 D1 := ⟨hD1, off_of h0 nD, fun H o j => j.far a1 a2 a3⟩
  refine lcl (M := SubM (pairsOf n)) C (SqL.of ee4) (off_of h0 ne) k4 ⟨[], rfl, List.nil_sublist _⟩ ?_ ?_
  · intro i x H2 zs ds ex L
    obtain ⟨p, ep, tp⟩ := te4.pr_at ex
    have hi : i < 1000 := by
      have := (List.getElem?_eq_some_iff.mp ep).1
      have := pairsOf_len (n := n) (by omega)
      omega
    refine ⟨rfl, _, rfl, s, d, c, 4, rfl, L.j, by decide, by decide, fun H5 r5 hr5 k5 f5 => ⟨_, rfl, _, _, rfl, rfl, _, rfl, ite2 (fun c2 => ?_) (fun c2 => ?_)⟩⟩
    · exact ⟨_, rfl, L.put C (by omega) f5 k5 ((tp.fr L.fr).fr f5) (L.m.put ep)⟩
    · exact L.skip C f5 k5 L.m.skip
  · intro H2 zs ds L
    obtain ⟨qs, rfl, sb⟩ := L.m
    exact k _ _ (web_put h0 L.j ff4 L.fr ne ee4 te4 nD L.at_ L.dat (Good.sub (sb.trans (List.take_sublist _ _))))
theorem web_6 (h0 : Stk s d c H0) (hn2 : n ≤ 12) (L : WebSt H0 s d c lo hi n wy σ H) (k : ∀ σ H, WebSt H0 s d c lo hi n wy σ H → D.nx σ H) : rd__law_web_8 K D σ H := by
  have L0 := L
  obtain ⟨e, es, t, ts, ps, y7, rfl, kk, ff, ne, ee, te, nt, et, tt, g⟩ := L
  refine ⟨_, rfl, _, _, rfl, rfl, _, rfl, ite2 (fun c1 => ?_) (fun c1 => iteF (k _ _ L0))⟩
  refine ⟨_, rfl, s, d, c, 3, rfl, kk, by decide, by decide, fun H4 r4 hr4 k4 f4 => ⟨rfl, _, rfl, ite2 (fun c2 => ?_) (fun c2 => ?_)⟩⟩
  · have ee4 := f4.keep _ _ ee (off_of h0 ne)
    have et4 := f4.keep _ _ et (off_of h0 nt)
    have te4 := te.fr f4
    have tt4 := tt.fr f4
    refine ⟨_, rfl, e, rfl, ⟨_, SqL.of ee4⟩, fun D1 hD1 => ?_⟩
    have ff4 := ff.trans f4
    have nD := ff4.free hD1
    obtain ⟨a1, a2, a3⟩ := h0.apart nD
    have C : LcC [s, d] (Stk s d c) H4 D1 := ⟨hD1, off_of h0 nD, fun H o j => j.far a1 a2 a3⟩
    have gb : Below 100 ps := fun p m => pairsOf_below (n := n) (by omega) p (g.ins p m)
    have gl := g.len (by omega)
    refine lcl (M := SubM (pairsOf n)) C (SqL.of ee4) (off_of h0 ne) k4 ⟨[], rfl, List.nil_sublist _⟩ ?_ ?_
    · intro i x H2 zs ds ex L
      obtain ⟨p, ep, tp⟩ := te4.pr_at ex
      have hi : i < 1000 := by
        have := (List.getElem?_eq_some_iff.mp ep).1
        have := pairsOf_len (n := n) (by omega)
        omega
      have tp2 := tp.fr L.fr
      refine ⟨rfl, _, rfl, _, rfl, nmem_lP tp2 (L.fr.keep _ _ et4 (off_of h0 nt)) (tt4.fr L.fr) (pairsOf_below (n := n) (by omega) p (List.mem_of_getElem? ep)) gb (by omega) ⟨_, rfl, ite2 (fun c2 => ?_) (fun c2 => ?_)⟩⟩
      · exact ⟨_, rfl, L.put C (by omega) Fr.refl L.j tp2 (L.m.put ep)⟩
      · exact L.skip C Fr.refl L.j L.m.skip
    · intro H2 zs ds L
      obtain ⟨qs, rfl, sb⟩ := L.m
      exact k _ _ (web_put h0 L.j ff4 L.fr ne ee4 te4 nD L.at_ L.dat (Good.sub (sb.trans (List.take_sublist _ _))))
  · exact k _ _ ⟨e, es, t, ts, ps, y7, rfl, k4, ff.trans f4, ne, f4.keep _ _ ee (off_of h0 ne), te.fr f4, nt, f4.keep _ _ et (off_of h0 nt), tt.fr f4, g⟩
end
end Lt

set_option Elab.async false
set_option linter.all false
set_option maxRecDepth 100000
set_option maxHeartbeats 8000000
namespace Lt
open PySem PySem.Spec PyProof.Rows L2
section
variable {P : Program} {w : World} {K : PySem.W.Frag} {mg : Str → Option Value} {base : Heap} {f : Addr} {fd : FuncData}
variable {H0 : Hp} {s d c : Addr} {lo hi n wy : Nat} {D : Ends} {σ : Slots} {H : Hp}
theorem web_23 (h0 : Stk s d c H0) (hn : 1 ≤ n) (hn2 : n ≤ 12) (L : WebSt H0 s d c lo hi n wy σ H) (k : ∀ σ H, WebSt H0 s d c lo hi n wy σ H → D.nx σ H) : rd__law_web_5 K D σ H := by
  have L0 := L
  obtain ⟨e, es, t, ts, ps, y7, rfl, kk, ff, ne, ee, te, nt, et, tt, g⟩ := L
  refine ⟨_, rfl, szl (Nat.le_of_ble_eq_true rfl), fun p0 hp0 => ?_⟩
  have fq : Fr [s, d] H (upd H p0 (.tup [.int 2, .int 3])) := Fr.new hp0
  have n0 := ff.free hp0
  have kq := h0.add kk (o := .tup [.int 2, .int 3]) n0
  have Lq : WebSt H0 s d c lo hi n wy [some (.ref s), some (.int lo), some (.int hi), some (.int n), some (.int wy), some (.ref e), some (.ref t), y7, none, none] (upd H p0 (.tup [.int 2, .int 3])) :=
    ⟨e, es, t, ts, ps, y7, rfl, kq, ff.trans fq, ne, at_add ee hp0, te.fr fq, nt, at_add et hp0, tt.fr fq, g⟩
  by_cases hw : wy < 1000
  rotate_left
  · refine .inl ⟨.int wy, [.int 2, .int 3], .int _, .tup (SqT.of upd_same) (.cons (.int _) (.cons (.int _) .nil)), rfl, rfl, _, rfl, ?_⟩
    have e1 : (PyData.eqv (.int 2) (.int wy)) = false := by
      show ((2 : Int) == (wy : Int)) = false
      exact beq_eq_false_iff_ne.mpr (by omega)
    have e2 : (PyData.eqv (.int 3) (.int wy)) = false := by
      show ((3 : Int) == (wy : Int)) = false
      exact beq_eq_false_iff_ne.mpr (by omega)
    simp only [List.any_cons, List.any_nil, e1, e2, Bool.or_false, Bool.or_self]
    exact iteF (k _ _ Lq)
  refine mem_tN (i := wy) (is := [2, 3]) upd_same (.cons (.int _) (.cons (.int _) .nil)) hw (by simp) (by decide) ⟨_, rfl, ite2 (fun c1 => ?_) (fun c1 => k _ _ Lq)⟩
  have ff1 := ff.trans fq
  have ee1 := at_add (o := .tup [.int 2, .int 3]) ee hp0
  have te1 := te.fr fq
  -- the path
  refine ⟨_, rfl, _, _, rfl, rfl, (n : Int) - 1, rfl, by omega, by omega, fun D1 hD1 => ?_⟩
  have hm : ((n : Int) - 1).toNat = n - 1 := by omega
  have nD := ff1.free hD1
  obtain ⟨a1, a2, a3⟩ := h0.apart nD
  have C : LcC [s, d] (Stk s d c) (upd H p0 (.tup [.int 2, .int 3])) D1 := ⟨hD1, off_of h0 nD, fun H o j => j.far a1 a2 a3⟩
  refine lcr (M := fun i ds => ds = made (List.range (n - 1)) (fun i => some (i, i + 1)) dP i) C kq rfl ?_ ?_
  · intro i H2 zs ds hi2 L
    rw [hm] at hi2
    have ei := range_at hi2
    refine ⟨rfl, tyes ⟨_, rfl, _, rfl, _, _, rfl, rfl, szl (Nat.le_of_ble_eq_true rfl), fun p hp => ?_⟩⟩
    refine L.put C (d := dP (i, i + 1)) (by omega) (Fr.new hp) (h0.add L.j ((ff1.trans L.fr).free hp)) (Tp.pr (p := (i, i + 1)) ?_) ?_
    · rw [upd_same]
      simp only [Option.some.injEq, HO.tup.injEq, List.cons.injEq, V.int.injEq, and_true]
      omega
    · rw [L.m]
      exact (made_some (f := fun i => some (i, i + 1)) (en := dP) ei rfl).symm
  · intro H2 zs ds L
    have em := L.m
    rw [hm, made_all (by rw [List.length_range]; exact Nat.le_refl _), filterMap_one] at em
    have td := L.dat
    rw [em] at td
    have ff2 := ff1.trans L.fr
    -- [(0, many - 1)]
    refine ⟨_, rfl, _, _, rfl, rfl, szl (Nat.le_of_ble_eq_true rfl), fun p1 hp1 => ⟨szl (Nat.le_of_ble_eq_true rfl), fun l1 hl1 => ?_⟩⟩
    have f1 : Fr [s, d] H2 (upd H2 p1 (.tup [.int 0, .int ((n : Int) - 1)])) := Fr.new hp1
    have f2 : Fr [s, d] H2 (upd (upd H2 p1 (.tup [.int 0, .int ((n : Int) - 1)])) l1 (.lst [.ref p1])) := f1.add hl1
    have k2 : Stk s d c (upd (upd H2 p1 (.tup [.int 0, .int ((n : Int) - 1)])) l1 (.lst [.ref p1])) := h0.add (h0.add L.j (ff2.free hp1)) ((ff2.trans f1).free hl1)
    have eD2 := f2.keep _ _ L.at_ (off_of h0 nD)
    have eP : upd (upd H2 p1 (.tup [.int 0, .int ((n : Int) - 1)])) l1 (.lst [.ref p1]) p1 = some (.tup [.int (0 : Nat), .int (n - 1 : Nat)]) := by
      rw [upd_ne (ne_new upd_same hl1), upd_same]
      simp only [Option.some.injEq, HO.tup.injEq, List.cons.injEq, V.int.injEq, and_true]
      omega
    have lz := td.length
    rw [List.length_map, List.length_map, List.length_range] at lz
    -- int(way == 3 and many > 2)
    have fin0 : ∀ {b : Bool}, (b = true → 2 < n) → ∀ (l2 : Addr), upd (upd H2 p1 (.tup [.int 0, .int ((n : Int) - 1)])) l1 (.lst [.ref p1]) l2 = none →
        WebSt H0 s d c lo hi n wy [some (.ref s), some (.int lo), some (.int hi), some (.int n), some (.int wy), some (.ref e), some (.ref t), y7, none, none]
          (upd (upd (upd H2 p1 (.tup [.int 0, .int ((n : Int) - 1)])) l1 (.lst [.ref p1])) l2 (.lst (if b then [.ref p1] else []))) ∧
        ∀ l3, upd (upd (upd H2 p1 (.tup [.int 0, .int ((n : Int) - 1)])) l1 (.lst [.ref p1])) l2 (.lst (if b then [.ref p1] else [])) l3 = none →
          WebSt H0 s d c lo hi n wy (([some (.ref s), some (.int lo), some (.int hi), some (.int n), some (.int wy), some (.ref e), some (.ref t), y7, none, none] : Slots).set 6 (some (.ref l3)))
            (upd (upd (upd (upd H2 p1 (.tup [.int 0, .int ((n : Int) - 1)])) l1 (.lst [.ref p1])) l2 (.lst (if b then [.ref p1] else []))) l3 (.lst (zs ++ if b then [.ref p1] else []))) := by
      intro b hb l2 hl2
      have f3 : Fr [s, d] H2 (upd (upd (upd H2 p1 (.tup [.int 0, .int ((n : Int) - 1)])) l1 (.lst [.ref p1])) l2 (.lst (if b then [.ref p1] else []))) := f2.add hl2
      have k3 := h0.add k2 (o := .lst (if b then [.ref p1] else [])) ((ff2.trans f2).free hl2)
      refine ⟨⟨e, es, t, ts, ps, y7, rfl, k3, ff2.trans f3, ne, ?_, ?_, nt, ?_, ?_, g⟩, fun l3 hl3 => ?_⟩
      · exact (L.fr.trans f3).keep _ _ ee1 (off_of h0 ne)
      · exact te1.fr (L.fr.trans f3)
      · exact (L.fr.trans f3).keep _ _ (at_add et hp0) (off_of h0 nt)
      · exact (tt.fr fq).fr (L.fr.trans f3)
      · have f4 : Fr [s, d] H2 _ := f3.add (o := .lst (zs ++ if b then [.ref p1] else [])) hl3
        have tz := td.fr f4
        cases b with
        | false =>
          refine web_put (ps := pathOf n) h0 (h0.add k3 ((ff2.trans f3).free hl3)) ff1 (L.fr.trans f4) ne ee1 te1 ((ff2.trans f3).free hl3) upd_same ?_ (path_good n)
          show Tps _ (zs ++ []) _
          rw [List.append_nil]
          exact tz
        | true =>
          refine web_put (ps := pathOf n ++ [(0, n - 1)]) h0 (h0.add k3 ((ff2.trans f3).free hl3)) ff1 (L.fr.trans f4) ne ee1 te1 ((ff2.trans f3).free hl3) upd_same ?_ (ring_good (hb rfl))
          rw [dPs_app]
          refine Tps.app tz (Tps.one (Tp.pr (p := (0, n - 1)) ?_))
          have g4 := f4.trans (Fr.refl (S := [s, d]))
          exact at_add (at_add eP hl2) hl3
    have fin : ∀ {b : Bool}, (b = true → 2 < n) → ∀ (Q : V → Hp → Prop), (∀ l3 H', WebSt H0 s d c lo hi n wy (([some (.ref s), some (.int lo), some (.int hi), some (.int n), some (.int wy), some (.ref e), some (.ref t), y7, none, none] : Slots).set 6 (some (.ref l3))) H' → Q (.ref l3) H') →
        rRep (.ref l1) (.int (if b then 1 else 0)) (upd (upd H2 p1 (.tup [.int 0, .int ((n : Int) - 1)])) l1 (.lst [.ref p1])) fun y H' => rCat (.ref D1) y H' Q := by
      intro b hb Q hQ
      refine ⟨l1, _, _, rfl, rfl, upd_same, by split <;> omega, by split <;> omega, szl ?_, fun l2 hl2 => ?_⟩
      · show 1 * _ ≤ 100000
        split <;> decide
      · have er : (List.replicate (if b = true then (1 : Int) else 0).toNat [V.ref p1]).flatten = if b then [.ref p1] else [] := by cases b <;> rfl
        rw [er]
        obtain ⟨_, w2⟩ := fin0 hb l2 hl2
        refine ⟨D1, l2, zs, _, rfl, rfl, at_add eD2 hl2, upd_same, szl ?_, fun l3 hl3 => hQ _ _ (w2 l3 hl3)⟩
        have : (if b = true then [V.ref p1] else ([] : List V)).length ≤ 1 := by cases b <;> simp
        omega
    refine ⟨_, rfl, rfl, _, rfl, ite2 (fun c2 => ?_) (fun c2 => ?_)⟩
    · refine ⟨_, rfl, _, _, rfl, rfl, .inr ⟨_, rfl, ?_⟩⟩
      exact fin (b := decide ((2 : Int) < n)) (fun z => by have := of_decide_eq_true z; omega) _ fun l3 H' w => k _ _ w
    · refine .inr ⟨_, rfl, ?_⟩
      exact fin (b := false) (fun z => by cases z) _ fun l3 H' w => k _ _ w
theorem web_end (h0 : Stk s d c H0) (hn : 1 ≤ n) (hn2 : n ≤ 12) (L : WebSt H0 s d c lo hi n wy σ H)
    (k : ∀ r ps H', WebOk n ps → Fr [s, d] H0 H' → Stk s d c H' → Tp H' r (dW n ps) → D.rt r H') : rd__law_web_9 K D σ H := by
  obtain ⟨e, es, t, ts, ps, y7, rfl, kk, ff, ne, ee, te, nt, et, tt, g⟩ := L
  refine ⟨_, rfl, _, rfl, _, rfl, _, rfl, n, rfl, RgOk.of_le (by decide) (by omega) (by decide) (by omega), fun q hq => ?_⟩
  have er : rgV 0 n = (List.range n).map fun i => V.int (i : Nat) := by
    unfold rgV
    rw [show ((n : Int) - 0).toNat = n by omega]
    refine List.map_congr_left fun i _ => ?_
    rw [Int.zero_add]
  rw [er]
  have nq := ff.free hq
  have fq : Fr [s, d] H (upd H q (.lst ((List.range n).map fun i => V.int (i : Nat)))) := Fr.new hq
  have kq := h0.add kk (o := .lst ((List.range n).map fun i => V.int (i : Nat))) nq
  obtain ⟨a1, a2, a3⟩ := h0.apart nq
  have tn : ∀ (H : Hp) (is : List Nat), Tps H (is.map fun i => V.int (i : Nat)) (dNs is) := fun H is => by
    induction is with
    | nil => exact .nil
    | cons x xs ih => exact .cons (.int _) ih
  refine ⟨s, d, c, q, _, _, rfl, kq, upd_same, tn _ _, by rw [List.length_map, List.length_range]; omega, a1, a2, fun H1 p ys es1 pm f1 np k1 ep tp => ?_⟩
  obtain ⟨nm, rfl, hnm⟩ := names_of pm
  have ey : ys = nm.map fun i => V.int (i : Nat) := by
    have : ∀ {ys : List V} {is : List Nat}, Tps H1 ys (dNs is) → ys = is.map fun i => V.int (i : Nat) := by
      intro ys is
      induction is generalizing ys with
      | nil => intro h; cases h; rfl
      | cons x xs ih =>
        intro h
        cases h with
        | cons a b =>
          cases a
          rw [ih b]
          rfl
    exact this tp
  subst ey
  have f2 := fq.trans f1
  obtain ⟨r1, r2⟩ := ren_good hnm g
  have hl : nm.length = n := by rw [hnm.length_eq, List.length_range]
  refine ⟨n, t, p, ts, ps, nm, rfl, f2.keep _ _ et (off_of h0 nt), tt.fr f2, by have := g.len (by omega); omega, ep, fun pr m => ?_, r1, fun H2 r qs f3 tr hp hu => ?_⟩
  · have := mem_pairsOf.mp (g.ins pr m)
    omega
  · have k2 : Stk s d c H2 := by
      obtain ⟨ds, cs, sm, tn, b1, b2, b3, b4, b5⟩ := k1.ex
      exact ⟨⟨ds, cs, sm, tn, f3.keep _ _ b1 List.not_mem_nil, f3.keep _ _ b2 List.not_mem_nil, b3, f3.keep _ _ b4 List.not_mem_nil, b5⟩, h0.sd, h0.sc, h0.dc⟩
    exact k r qs H2 ⟨hn, hn2, hu, fun x m => r2 x (hp.mem_iff.mp m)⟩ ((ff.trans f2).trans f3.of0) k2 tr
theorem ok_web (F : FnP K "_law_web" s__law_web f fd) (g_list : mg "list" = none) (g_range : mg "range" = none) (g_int : mg "int" = none) {f__law_named : Addr} {fd__law_named : FuncData} (F__law_named : FnP K "_law_named" s__law_named f__law_named fd__law_named) (m__law_named : mg "_law_named" = some (.ref f__law_named)) {f__law_draw : Addr} {fd__law_draw : FuncData} (F__law_draw : FnP K "_law_draw" s__law_draw f__law_draw fd__law_draw) (m__law_draw : mg "_law_draw" = some (.ref f__law_draw)) {f__law_pairs : Addr} {fd__law_pairs : FuncData} (F__law_pairs : FnP K "_law_pairs" s__law_pairs f__law_pairs fd__law_pairs) (m__law_pairs : mg "_law_pairs" = some (.ref f__law_pairs)) {f__law_shuffled : Addr} {fd__law_shuffled : FuncData} (F__law_shuffled : FnP K "_law_shuffled" s__law_shuffled f__law_shuffled fd__law_shuffled) (m__law_shuffled : mg "_law_shuffled" = some (.ref f__law_shuffled)) (G__law_draw : FnG P w K mg base CX0 1 f__law_draw fd__law_draw ["stock", "size"] spDraw) (G__law_pairs : FnG P w K mg base CX0 1 f__law_pairs fd__law_pairs ["many"] spPairs)
    (G__law_named : FnG P w K mg base CX0 1 f__law_named fd__law_named ["many", "ties", "names"] spNamed) (G__law_shuffled : FnG P w K mg base CX0 2 f__law_shuffled fd__law_shuffled ["stock", "row"] spShuf) : FnG P w K mg base CX0 3 f fd ["stock", "least", "most"] spWeb := by
  have b__law_draw : Binds K fd__law_draw ["stock", "size"] [] := F__law_draw.bindsN fun _ _ _ _ _ _ us hl => match us, hl with | [_, _], _ => rfl
  have b__law_pairs : Binds K fd__law_pairs ["many"] [] := F__law_pairs.bindsN fun _ _ _ _ _ _ us hl => match us, hl with | [_], _ => rfl
  have b__law_named : Binds K fd__law_named ["many", "ties", "names"] [] := F__law_named.bindsN fun _ _ _ _ _ _ us hl => match us, hl with | [_, _, _], _ => rfl
  have b__law_shuffled : Binds K fd__law_shuffled ["stock", "row"] [] := F__law_shuffled.bindsN fun _ _ _ _ _ _ us hl => match us, hl with | [_, _], _ => rfl
  refine okG0 F sc__law_web (fun vs H Q E h => ?_) (fun cdv A outer s0 H vs Q E hS hr h => ?_)
  · obtain ⟨_, _, _, _, _, rfl, _⟩ := h
    rfl
  · obtain ⟨s, d, c, lo, hi, rfl, hk, h1, h2, h3, q⟩ := h
    refine ⟨rdS__law_web_1 K, (pss_cons (ps_par (i := 3) (j := 4) (by rfl) sc__law_web.nd rfl rfl (by decide) rfl rfl (pa_cons (pe_op op_add (pv 1) (pe_callG G__law_draw hS (hr.mono (by decide)) (by rfl) m__law_draw F__law_draw.kp b__law_draw .nil pass0 (pa_cons (pv 0) (pa_cons (pe_op op_add (pe_op op_sub (pv 2) (pv 1)) pe_int) pa_nil)))) (pa_cons (pe_callG G__law_draw hS (hr.mono (by decide)) (by rfl) m__law_draw F__law_draw.kp b__law_draw .nil pass0 (pa_cons (pv 0) (pa_cons pe_int pa_nil))) pa_nil)) (by rfl))
      (pss_cons (ps_asg (pe_tup (pa_cons (pe_callG G__law_pairs hS (hr.mono (by decide)) (by rfl) m__law_pairs F__law_pairs.kp b__law_pairs .nil pass0 (pa_cons (pv 3) pa_nil)) (pa_cons (pe_lst pa_nil) pa_nil))) (pg_tupK K (n := 2) (by rfl) (pgs_cons (pg_name (i := 5) sc__law_web.nd rfl (Or.inl rfl)) (pgs_cons (pg_name (i := 6) sc__law_web.nd rfl (Or.inr rfl)) pgs_nil))))
      (pss_cons (ps_if (pt_cmpR op_eq (pv 4) pe_int (nomark _)) (pss_one (ps_set (i := 6) sc__law_web.nd rfl (Or.inr rfl) (pe_ifExp (pt_cmpR op_eq (pe_callG G__law_draw hS (hr.mono (by decide)) (by rfl) m__law_draw F__law_draw.kp b__law_draw .nil pass0 (pa_cons (pv 0) (pa_cons pe_int pa_nil))) pe_int (nomark _)) (pv 5) (pe_lst pa_nil)))) pss_nil)
      (pss_cons (ps_if (pt_cmpR op_eq (pv 4) pe_int (nomark _)) (pss_one (ps_set (i := 6) sc__law_web.nd rfl (Or.inr rfl) (pe_lc (own := [("a", 8)]) (g := (gName 8)) (tt := tYes) rfl sc__law_web.nd (pi_range3 rfl g_range (pa_cons pe_int (pa_cons (pe_op op_sub (pv 3) pe_int) (pa_cons pe_int pa_nil)))) (blkOk_by (own := [("a", 8)]) (N := N__law_web) (sc := defScope s__law_web) (by decide +kernel)) (fun _ _ _ _ _ => (pg_name (i := 8) sc__law_web.nd rfl (Or.inl rfl))) (fun _ _ _ _ _ => pts_nil) (fun _ _ _ _ _ => (pe_tup (pa_cons (pv 8) (pa_cons (pe_op op_add (pv 8) pe_int) pa_nil))))))) pss_nil)
      (pss_cons (ps_if (pt_cmpR (memK K (hu80_of hr)) (pv 4) (pe_tup (pa_cons pe_int (pa_cons pe_int pa_nil))) rfl) (pss_one (ps_set (i := 6) sc__law_web.nd rfl (Or.inr rfl) (pe_op op_cat (pe_lc (own := [("a", 8)]) (g := (gName 8)) (tt := tYes) rfl sc__law_web.nd (pi_range1 rfl g_range (pa_cons (pe_op op_sub (pv 3) pe_int) pa_nil)) (blkOk_by (own := [("a", 8)]) (N := N__law_web) (sc := defScope s__law_web) (by decide +kernel)) (fun _ _ _ _ _ => (pg_name (i := 8) sc__law_web.nd rfl (Or.inl rfl))) (fun _ _ _ _ _ => pts_nil) (fun _ _ _ _ _ => (pe_tup (pa_cons (pv 8) (pa_cons (pe_op op_add (pv 8) pe_int) pa_nil))))) (pe_op op_rep (pe_lst (pa_cons (pe_tup (pa_cons pe_int (pa_cons (pe_op op_sub (pv 3) pe_int) pa_nil))) pa_nil)) (pe_callTy call_int1 (by rfl) g_int (by decide +kernel) (pa_cons (pe_and (pe_cmpR op_eq (pv 4) pe_int (nomark _)) (pe_one (pe_cmpR op_gt (pv 3) pe_int (nomark _)))) pa_nil)))))) pss_nil)
      (pss_cons (ps_if (pt_cmpR op_eq (pv 4) pe_int (nomark _)) (pss_one (ps_set (i := 6) sc__law_web.nd rfl (Or.inr rfl) (pe_lc (own := [("pair", 9)]) (g := (gName 9)) rfl sc__law_web.nd (pi_list (pv 5)) (blkOk_by (own := [("pair", 9)]) (N := N__law_web) (sc := defScope s__law_web) (by decide +kernel)) (fun _ _ _ _ _ => (pg_name (i := 9) sc__law_web.nd rfl (Or.inl rfl))) (fun _ _ _ _ _ => (pts_one (pt_cmpR op_ne (pe_op op_mod (pe_ix (ixT K) (pv 9) pe_int (fun _ _ => rfl)) pe_int) (pe_op op_mod (pe_ix (ixT K) (pv 9) pe_int (fun _ _ => rfl)) pe_int) (nomark _)))) (fun _ _ _ _ _ => (pv 9))))) pss_nil)
      (pss_cons (ps_if (pt_cmpR op_gt (pv 4) pe_int (nomark _)) (pss_cons (ps_set (i := 7) sc__law_web.nd rfl (Or.inr rfl) (pe_op op_add pe_int (pe_callG G__law_draw hS (hr.mono (by decide)) (by rfl) m__law_draw F__law_draw.kp b__law_draw .nil pass0 (pa_cons (pv 0) (pa_cons pe_int pa_nil)))))
      (pss_one (ps_set (i := 6) sc__law_web.nd rfl (Or.inr rfl) (pe_lc (own := [("pair", 9)]) (g := (gName 9)) rfl sc__law_web.nd (pi_list (pv 5)) (blkOk_by (own := [("pair", 9)]) (N := N__law_web) (sc := defScope s__law_web) (by decide +kernel)) (fun _ _ _ _ _ => (pg_name (i := 9) sc__law_web.nd rfl (Or.inl rfl))) (fun _ _ _ _ _ => (pts_one (pt_cmpR op_lt (pe_callG G__law_draw hS (hr.mono (by decide)) (by rfl) m__law_draw F__law_draw.kp b__law_draw .nil pass0 (pa_cons (pv 0) (pa_cons pe_int pa_nil))) (pv 7) (nomark _)))) (fun _ _ _ _ _ => (pv 9)))))) pss_nil)
      (pss_cons (ps_if (PW.pt (pw_and (pt_cmpR op_lt (pv 4) pe_int (nomark _)) (pw_and1 (pt_cmpR op_eq (pe_callG G__law_draw hS (hr.mono (by decide)) (by rfl) m__law_draw F__law_draw.kp b__law_draw .nil pass0 (pa_cons (pv 0) (pa_cons pe_int pa_nil))) pe_int (nomark _))))) (pss_one (ps_set (i := 6) sc__law_web.nd rfl (Or.inr rfl) (pe_lc (own := [("pair", 9)]) (g := (gName 9)) rfl sc__law_web.nd (pi_list (pv 5)) (blkOk_by (own := [("pair", 9)]) (N := N__law_web) (sc := defScope s__law_web) (by decide +kernel)) (fun _ _ _ _ _ => (pg_name (i := 9) sc__law_web.nd rfl (Or.inl rfl))) (fun _ _ _ _ _ => (pts_one (pt_cmpR (nmemK K (hu80_of hr)) (pv 9) (pv 6) rfl))) (fun _ _ _ _ _ => (pv 9))))) pss_nil)
      (pss_one (ps_ret (pe_callG G__law_named hS (hr.mono (by decide)) (by rfl) m__law_named F__law_named.kp b__law_named .nil pass0 (pa_cons (pv 3) (pa_cons (pv 6) (pa_cons (pe_callG G__law_shuffled hS (hr.mono (by decide)) (by rfl) m__law_shuffled F__law_shuffled.kp b__law_shuffled .nil pass0 (pa_cons (pv 0) (pa_cons (pe_listRg rfl (by rfl) g_list (prg_1 (by rfl) g_range (pv 3))) pa_nil))) pa_nil)))))))))))))), ?_⟩
    -- many, way
    refine ⟨_, rfl, _, rfl, _, rfl, _, rfl, _, _, rfl, rfl, _, _, rfl, rfl, ?_⟩
    refine ⟨s, d, c, hi - lo + 1, by show [V.ref s, V.int ((hi : Int) - lo + 1)] = _; rw [show ((hi : Int) - lo + 1) = ((hi - lo + 1 : Nat) : Int) by omega], hk, by omega, by omega, fun H1 r hr1 k1 f1 => ?_⟩
    refine ⟨_, _, rfl, rfl, _, rfl, s, d, c, 11, rfl, k1, by omega, by omega, fun H2 wy hw k2 f2 => ⟨_, _, rfl, ?_⟩⟩
    obtain ⟨n, hn⟩ : ∃ n : Nat, (lo : Int) + (r : Int) = (n : Int) := ⟨lo + r, by omega⟩
    dsimp only
    rw [hn]
    have n1 : lo ≤ n := by omega
    have n2 : n ≤ hi := by omega
    -- every, ties
    refine ⟨_, rfl, n, rfl, by omega, fun H3 e es f3 ne ee te => ⟨szl (Nat.zero_le _), fun t ht => ⟨szl (Nat.le_of_ble_eq_true rfl), fun p hp => ?_⟩⟩⟩
    refine ⟨p, _, rfl, SqT.of upd_same, rfl, _, _, rfl, _, _, rfl, rfl, ?_⟩
    have f03 : Fr [s, d] H H3 := (f1.trans f2).trans f3.of0
    have k3 : Stk s d c H3 := by
      obtain ⟨ds, cs, sm, tn, a1, a2, a3, a4, a5⟩ := k2.ex
      exact ⟨⟨ds, cs, sm, tn, f3.keep _ _ a1 List.not_mem_nil, f3.keep _ _ a2 List.not_mem_nil, a3, f3.keep _ _ a4 List.not_mem_nil, a5⟩, hk.sd, hk.sc, hk.dc⟩
    have nt := f03.free ht
    have fT : Fr [s, d] H3 (upd (upd H3 t (.lst [])) p (.tup [.ref e, .ref t])) := (Fr.new ht).add hp
    have kT : Stk s d c (upd (upd H3 t (.lst [])) p (.tup [.ref e, .ref t])) := (k3.add k3 ht).add (k3.add k3 ht) hp
    have st0 : WebSt H s d c lo hi n wy [some (.ref s), some (.int lo), some (.int hi), some (.int n), some (.int wy), some (.ref e), some (.ref t), none, none, none] (upd (upd H3 t (.lst [])) p (.tup [.ref e, .ref t])) :=
      ⟨e, es, t, [], [], none, rfl, kT, f03.trans fT, (f1.trans f2).free ne, at_add (at_add ee ht) hp, te.fr fT, nt, at_add upd_same hp, .nil, Good.nil n⟩
    exact web_0 (K := K) hk st0 fun σ H' L => web_1 (K := K) hk (by omega) (by omega) L fun σ H' L => web_23 (K := K) hk (by omega) (by omega) L fun σ H' L => web_4 (K := K) hk (by omega) L fun σ H' L =>
      web_5 (K := K) hk (by omega) L fun σ H' L => web_6 (K := K) hk (by omega) L fun σ H' L => web_end (K := K) hk (by omega) (by omega) L fun r ps H' ok f k t => q H' r n ps n1 n2 ok f k t
end
end Lt

set_option Elab.async false
set_option linter.all false
set_option maxRecDepth 100000
set_option maxHeartbeats 4000000
namespace Lt
open PySem PySem.Spec PyProof.Rows L2
/-! ## rows and webs -/
abbrev selF : Pr × Nat → Option Pr := fun z => if z.2 = 1 then some z.1 else none
def sel (l : List Pr) (r : List Nat) : List Pr := (l.zip r).filterMap selF
def selOf (n : Nat) (r : List Nat) : List Pr := sel (pairsOf n) r
theorem sel_sub : ∀ (l : List Pr) (r : List Nat), (sel l r).Sublist l
  | [], r => by unfold sel; rw [List.zip_nil_left]; exact List.Sublist.refl _
  | p :: l, [] => by unfold sel; rw [List.zip_nil_right]; exact List.nil_sublist _
  | p :: l, k :: r => by
    have ih := sel_sub l r
    unfold sel at ih ⊢
    rw [List.zip_cons_cons, List.filterMap_cons]
    by_cases c : k = 1
    · simp only [selF, c, if_true]
      exact ih.cons_cons p
    · simp only [selF, c, if_false]
      exact ih.cons p
theorem sel_map (ps : List Pr) : ∀ l : List Pr, sel l (l.map fun p => if p ∈ ps then 1 else 0) = l.filter fun p => decide (p ∈ ps)
  | [] => rfl
  | p :: l => by
    have ih := sel_map ps l
    unfold sel at ih ⊢
    rw [List.map_cons, List.zip_cons_cons, List.filterMap_cons, List.filter_cons]
    by_cases c : p ∈ ps
    · simp only [selF, c, if_true, decide_true]
      rw [ih]
    · simp only [selF, c, if_false, decide_false, Nat.zero_ne_one, Bool.false_eq_true]
      rw [ih]
theorem row_sel' : ∀ {l : List Pr} {r : List Nat}, l.Nodup → r.length = l.length → (∀ k ∈ r, k ≤ 1) → l.map (fun p => if p ∈ sel l r then 1 else 0) = r
  | [], [], _, _, _ => rfl
  | [], _ :: _, _, h, _ => by cases h
  | _ :: _, [], _, h, _ => by cases h
  | p :: l, k :: r, hn, hl, hk => by
    have hn' := List.nodup_cons.mp hn
    have ih := row_sel' (l := l) (r := r) hn'.2 (by simpa using hl) (fun x m => hk x (List.mem_cons_of_mem _ m))
    have hp : p ∉ sel l r := fun m => hn'.1 ((sel_sub l r).subset m)
    have hk1 := hk k List.mem_cons_self
    rw [List.map_cons]
    by_cases c : k = 1
    · have e : sel (p :: l) (k :: r) = p :: sel l r := by
        unfold sel
        rw [List.zip_cons_cons, List.filterMap_cons]
        simp only [selF, c, if_true]
      rw [e, if_pos List.mem_cons_self, c]
      congr 1
      refine Eq.trans (List.map_congr_left fun q m => ?_) ih
      have : q ≠ p := fun z => hn'.1 (z ▸ m)
      simp only [List.mem_cons, this, false_or]
    · have e : sel (p :: l) (k :: r) = sel l r := by
        unfold sel
        rw [List.zip_cons_cons, List.filterMap_cons]
        simp only [selF, c, if_false]
      rw [e, if_neg hp]
      have hz : k = 0 := by omega
      rw [hz, ih]
theorem sel_row {n : Nat} {ps : List Pr} (w : WebOk n ps) : selOf n (rowOf n ps) = ps := by
  unfold selOf rowOf
  rw [sel_map, w.eq]
theorem sel_ok {n : Nat} (r : List Nat) (h1 : 1 ≤ n) (h2 : n ≤ 12) : WebOk n (selOf n r) :=
  ⟨h1, h2, (pairsTo_up n n).sublist (sel_sub _ _), fun p m => (sel_sub _ _).subset m⟩
theorem row_sel {n : Nat} {r : List Nat} (h : r.length = (pairsOf n).length) (hk : ∀ k ∈ r, k ≤ 1) : rowOf n (selOf n r) = r := row_sel' (pairsOf_nodup n) h hk
theorem zip_at {α β : Type} {l : List α} {r : List β} {i : Nat} {x : α} {y : β} (h1 : l[i]? = some x) (h2 : r[i]? = some y) : (l.zip r)[i]? = some (x, y) := by
  rw [List.getElem?_zip_eq_some]
  exact ⟨h1, h2⟩
theorem Tps.nat_at {H : Hp} {vs : List V} {is : List Nat} {i : Nat} {v : V} (h : Tps H vs (dNs is)) (e : vs[i]? = some v) : ∃ k : Nat, is[i]? = some k ∧ v = .int k := by
  obtain ⟨d, e1, hd⟩ := h.at e
  rw [List.getElem?_map] at e1
  obtain ⟨p, e2, rfl⟩ := Option.map_eq_some_iff.mp e1
  exact ⟨p, e2, hd.int_inv⟩
section
variable {P : Program} {w : World} {K : PySem.W.Frag} {mg : Str → Option Value} {base : Heap} {f : Addr} {fd : FuncData}
def spWebOf : Sp := fun vs H Q _ => ∃ (n : Nat) (v : V) (r : List Nat), vs = [.int n, v] ∧ n ≤ 12 ∧ Tp H v (.tuple (dNs r)) ∧ r.length = (pairsOf n).length ∧ Ret H (dW n (selOf n r)) Q
theorem ok_web_of (F : FnP K "web_of" s_web_of f fd) (g_tuple : mg "tuple" = none) (g_zip : mg "zip" = none) {f_pairs_of : Addr} {fd_pairs_of : FuncData} (F_pairs_of : FnP K "pairs_of" s_pairs_of f_pairs_of fd_pairs_of) (m_pairs_of : mg "pairs_of" = some (.ref f_pairs_of)) (G_pairs_of : FnG P w K mg base CX0 1 f_pairs_of fd_pairs_of ["many"] spPairs) : FnG P w K mg base CX0 2 f fd ["many", "row"] spWebOf := by
  have b_pairs_of : Binds K fd_pairs_of ["many"] [] := F_pairs_of.bindsN fun _ _ _ _ _ _ us hl => match us, hl with | [_], _ => rfl
  refine okG0 F sc_web_of (fun vs H Q E h => ?_) (fun cdv A outer s H vs Q E hS hr h => ?_)
  · obtain ⟨_, _, _, rfl, _⟩ := h
    rfl
  · obtain ⟨n, v, r, rfl, hn, hv, hl, q⟩ := h
    obtain ⟨b, ws, rfl, eb, tb⟩ := hv.tup_inv
    refine ⟨_, (pss_one (ps_ret (pe_tup (pa_cons (pv 0) (pa_cons (pe_callTy (tupOfK K) (by rfl) g_tuple (by decide +kernel) (pa_cons (pe_lc (own := [("pair", 2), ("tied", 3)]) rfl sc_web_of.nd (pi_zipM (by rfl) g_zip (pa_cons (pe_callG G_pairs_of hS (hr.mono (by decide)) (by rfl) m_pairs_of F_pairs_of.kp b_pairs_of .nil pass0 (pa_cons (pv 0) pa_nil)) (pa_cons (pv 1) pa_nil))) (blkOk_by (own := [("pair", 2), ("tied", 3)]) (N := N_web_of) (sc := defScope s_web_of) (by decide +kernel)) (fun _ _ _ _ _ => (pg_tupK K (n := 2) (by rfl) (pgs_cons (pg_name (i := 2) sc_web_of.nd rfl (Or.inl rfl)) (pgs_cons (pg_name (i := 3) sc_web_of.nd rfl (Or.inl rfl)) pgs_nil)))) (fun _ _ _ _ _ => (pts_one (pt_cmpR op_eq (pv 3) pe_int (nomark _)))) (fun _ _ _ _ _ => (pv 2))) pa_nil)) pa_nil))))), ?_⟩
    refine ⟨_, rfl, _, rfl, n, rfl, by omega, fun H1 p ys f1 np e1 t1 => ?_⟩
    refine ⟨_, rfl, p, b, ys, ws, rfl, SqL.of e1, SqT.of (f1.tups _ _ eb), fun D hD => ?_⟩
    have hl2 := pairsOf_len12 n hn
    have lw : ws.length = (pairsOf n).length := by rw [tb.length, List.length_map, hl]
    have ly := t1.len
    have C : LcC [] (fun _ => True) H1 D := ⟨hD, List.not_mem_nil, fun _ _ h => h⟩
    refine lcz (M := fun k ds => ds = made ((pairsOf n).zip r) selF dP k) C (SqL.of e1) List.not_mem_nil (f1.tups _ _ eb) (by omega) trivial rfl ?_ ?_
    · intro i x y p2 H2 zs ds ex ey L hp2
      obtain ⟨pr, ep, tx⟩ := t1.pr_at ex
      obtain ⟨k, ek, rfl⟩ := tb.nat_at ey
      have ez := zip_at ep ek
      have hi : i < 100 := by
        have := (List.getElem?_eq_some_iff.mp ep).1
        omega
      have fp : Fr [] H2 (upd H2 p2 (.tup [x, .int k])) := Fr.new hp2
      have tx2 := (tx.fr L.fr).fr fp
      refine ⟨p2, _, rfl, SqT.of upd_same, rfl, _, _, rfl, _, _, rfl, rfl, rfl, ?_⟩
      refine ⟨_, rfl, rfl, _, rfl, ite2 (fun c => ?_) (fun c => ?_)⟩
      · refine ⟨_, rfl, L.put C (d := dP pr) (by omega) fp trivial tx2 (by rw [L.m]; exact (made_some ez (by show (if k = 1 then some pr else none) = _; rw [if_pos]; rw [dec_int] at c; simp at c; omega)).symm)⟩
      · exact L.skip C fp trivial (by rw [L.m]; exact (made_none ez (by show (if k = 1 then some pr else none) = _; rw [if_neg]; rw [dec_int] at c; simp at c; omega)).symm)
    · intro H2 zs ds L
      refine ⟨D, zs, rfl, .inl ⟨SqL.of L.at_, fun l hl3 => ⟨szl (Nat.le_of_ble_eq_true rfl), fun p2 hp2 => ?_⟩⟩⟩
      have em := L.m
      rw [made_all (by rw [List.length_zip]; omega)] at em
      have td := L.dat
      rw [em] at td
      have fa : Fr [] H2 (upd (upd H2 l (.tup zs)) p2 (.tup [.int n, .ref l])) := (Fr.new hl3).add hp2
      exact q _ _ ((f1.trans L.fr).trans fa) (Tp.web upd_same (at_add upd_same hp2) (td.fr fa))
end
end Lt

set_option Elab.async false
set_option linter.all false
set_option maxRecDepth 100000
set_option maxHeartbeats 4000000
namespace Lt
open PySem PySem.Spec PyProof.Rows L2
/-! ## the other ends of the ties of a place -/
abbrev endF (i : Nat) : Pr → Option Nat := fun p => if i = p.1 ∨ i = p.2 then some (p.1 + p.2 - i) else none
def ends (ps : List Pr) (i : Nat) : List Nat := ps.filterMap (endF i)
theorem mem_ends {n : Nat} {ps : List Pr} (w : WebOk n ps) {i j : Nat} (hi : i < n) : j ∈ ends ps i ↔ j ∈ nbs n ps i := by
  unfold ends nbs
  rw [List.mem_filterMap, List.mem_filter, List.mem_range]
  unfold tied
  rw [decide_eq_true_iff]
  constructor
  · rintro ⟨p, m, e⟩
    have hp := mem_pairsOf.mp (w.ins p m)
    by_cases c : i = p.1 ∨ i = p.2
    · simp only [endF, c, if_true, Option.some.injEq] at e
      refine ⟨by omega, ?_⟩
      have : (min i j, max i j) = p := by
        obtain ⟨a, b⟩ := p
        simp only at hp c e
        simp only [Prod.mk.injEq]
        omega
      rw [this]
      exact m
    · simp only [endF, c, if_false] at e
      cases e
  · rintro ⟨hj, m⟩
    have hp := mem_pairsOf.mp (w.ins _ m)
    simp only at hp
    refine ⟨_, m, ?_⟩
    have c : i = min i j ∨ i = max i j := by omega
    simp only [endF, c, if_true, Option.some.injEq]
    omega
theorem ends_nodup {n : Nat} {ps : List Pr} (w : WebOk n ps) (i : Nat) : (ends ps i).Nodup := by
  unfold ends
  refine List.pairwise_filterMap.mpr ((up_nodup w.up).imp_of_mem ?_)
  intro p q mp mq hne x hx y hy e
  subst e
  have hp := mem_pairsOf.mp (w.ins p mp)
  have hq := mem_pairsOf.mp (w.ins q mq)
  apply hne
  obtain ⟨a, b⟩ := p
  obtain ⟨c, d⟩ := q
  simp only at hp hq
  simp only [endF] at hx hy
  split at hx
  · split at hy
    · simp only [Option.some.injEq] at hx hy
      simp only [Prod.mk.injEq]
      omega
    · cases hy
  · cases hx
theorem ends_perm {n : Nat} {ps : List Pr} (w : WebOk n ps) {i : Nat} (hi : i < n) : (ends ps i).Perm (nbs n ps i) :=
  (List.perm_ext_iff_of_nodup (ends_nodup w i) ((List.nodup_range).sublist List.filter_sublist)).mpr fun _ => mem_ends w hi
theorem nbs_sorted (n : Nat) (ps : List Pr) (i : Nat) : (nbs n ps i).Pairwise (· ≤ ·) := (List.pairwise_le_range).sublist List.filter_sublist
theorem sorted_nats {ns' : List Int} {l m : List Nat} (h : ns'.Perm (l.map fun i => ((i : Nat) : Int))) (hs : ns'.Pairwise (· ≤ ·)) (p : l.Perm m) (hm : m.Pairwise (· ≤ ·)) : ns' = m.map fun i => ((i : Nat) : Int) :=
  List.Perm.eq_of_pairwise (fun _ _ _ _ a b => Int.le_antisymm a b) hs (List.pairwise_map.mpr (hm.imp fun h => by omega)) (h.trans (p.map _))
/-! ## each tie has two ends -/
theorem sum_ends (a b : Nat) (h : a < b) : ∀ n, ((List.range n).map fun i => if i = a ∨ i = b then 1 else 0).sum = (if a < n then 1 else 0) + (if b < n then 1 else 0)
  | 0 => by simp
  | n + 1 => by
    rw [List.range_succ, List.map_append, List.sum_append, sum_ends a b h n]
    simp only [List.map_cons, List.map_nil, List.sum_cons, List.sum_nil]
    split <;> split <;> split <;> split <;> split <;> omega
theorem sum_add {α : Type} (f g : α → Nat) : ∀ l : List α, (l.map fun x => f x + g x).sum = (l.map f).sum + (l.map g).sum
  | [] => rfl
  | x :: l => by
    simp only [List.map_cons, List.sum_cons]
    rw [sum_add f g l]
    omega
theorem ends_sum (n : Nat) : ∀ ps : List Pr, (∀ p ∈ ps, p.1 < p.2 ∧ p.2 < n) → ((List.range n).map fun i => (ends ps i).length).sum = 2 * ps.length
  | [], _ => by
    have : ∀ l : List Nat, (l.map fun i => (ends [] i).length).sum = 0 := by
      intro l
      induction l with
      | nil => rfl
      | cons x l ih => rw [List.map_cons, List.sum_cons, ih]; rfl
    rw [this]
    rfl
  | p :: ps, h => by
    have hp := h p List.mem_cons_self
    have ih := ends_sum n ps fun q m => h q (List.mem_cons_of_mem _ m)
    have e : ∀ i : Nat, (ends (p :: ps) i).length = (if i = p.1 ∨ i = p.2 then 1 else 0) + (ends ps i).length := fun i => by
      unfold ends
      rw [List.filterMap_cons]
      by_cases c : i = p.1 ∨ i = p.2
      · simp only [endF, c, if_true, List.length_cons]
        omega
      · simp only [endF, c, if_false]
        omega
    rw [List.map_congr_left fun i _ => e i, sum_add, ih, sum_ends p.1 p.2 hp.1, List.length_cons, if_pos hp.2, if_pos (by omega)]
    omega
theorem nums_sum {n : Nat} {ps : List Pr} (w : WebOk n ps) : (nums n ps).sum = 2 * ps.length := by
  rw [← ends_sum n ps fun p m => mem_pairsOf.mp (w.ins p m)]
  unfold nums
  congr 1
  exact List.map_congr_left fun i m => (ends_perm w (List.mem_range.mp m)).length_eq.symm
theorem odd_count (f : Nat → Nat) : ∀ l : List Nat, (l.filter fun i => f i % 2 == 1).length % 2 = (l.map f).sum % 2
  | [] => rfl
  | x :: l => by
    have ih := odd_count f l
    rw [List.filter_cons, List.map_cons, List.sum_cons]
    by_cases c : f x % 2 = 1
    · rw [if_pos (by rw [c]; rfl), List.length_cons]
      omega
    · rw [if_neg (by simpa using c)]
      omega
theorem odds_even {n : Nat} {ps : List Pr} (w : WebOk n ps) : (odds n ps).length % 2 = 0 := by
  have h := odd_count (fun i => (nbs n ps i).length) (List.range n)
  have s := nums_sum w
  unfold nums at s
  unfold odds
  rw [h, s]
  omega
theorem tps_nats (H : Hp) : ∀ is : List Nat, Tps H (is.map fun i => V.int (i : Nat)) (dNs is)
  | [] => .nil
  | _ :: is => .cons (.int _) (tps_nats H is)
theorem nats_inv {H : Hp} : ∀ {ys : List V} {is : List Nat}, Tps H ys (dNs is) → ys = is.map fun i => V.int (i : Nat)
  | _, [], .nil => rfl
  | _, _ :: is, .cons (.int _) t => by rw [nats_inv t]; rfl
theorem ints_nats (is : List Nat) : (is.map fun i => ((i : Nat) : Int)).map V.int = is.map fun i => V.int (i : Nat) := List.map_map
section
variable {P : Program} {w : World} {K : PySem.W.Frag} {mg : Str → Option Value} {base : Heap} {f : Addr} {fd : FuncData}
theorem ok_beside (F : FnP K "_law_beside" s__law_beside f fd) (g_tuple : mg "tuple" = none) (g_sorted : mg "sorted" = none) : FnG P w K mg base CX0 1 f fd ["web", "place"] spNb := by
  refine okG0 F sc__law_beside (fun vs H Q E h => ?_) (fun cdv A outer s H vs Q E hS hr h => ?_)
  · obtain ⟨_, _, _, _, rfl, _⟩ := h
    rfl
  · obtain ⟨v, n, ps, i, rfl, ⟨hv, hw⟩, hi, q⟩ := h
    obtain ⟨a, t, xs, rfl, ha, ht, hx⟩ := hv.web_inv
    refine ⟨_, (pss_one (ps_ret (pe_callTy (tupOfK K) (by rfl) g_tuple (by decide +kernel) (pa_cons (pe_callB (sortedIK K) (by rfl) g_sorted (by decide +kernel) (pa_cons (pe_lc (own := [("a", 2), ("b", 3)]) rfl sc__law_beside.nd (pi_tup (pe_ix (ixT K) (pv 0) pe_int (fun _ _ => rfl))) (blkOk_by (own := [("a", 2), ("b", 3)]) (N := N__law_beside) (sc := defScope s__law_beside) (by decide +kernel)) (fun _ _ _ _ _ => (pg_tupK K (n := 2) (by rfl) (pgs_cons (pg_name (i := 2) sc__law_beside.nd rfl (Or.inl rfl)) (pgs_cons (pg_name (i := 3) sc__law_beside.nd rfl (Or.inl rfl)) pgs_nil)))) (fun _ _ _ _ _ => (pts_one (pt_cmpR (memK K (hu80_of hr)) (pv 1) (pe_tup (pa_cons (pv 2) (pa_cons (pv 3) pa_nil))) rfl))) (fun _ _ _ _ _ => (pe_op op_sub (pe_op op_add (pv 2) (pv 3)) (pv 1)))) pa_nil)) pa_nil)))), ?_⟩
    have := hw.hi
    refine ⟨_, rfl, a, _, 1, _, rfl, rfl, SqT.of ha, atI_nat (j := 1) rfl, t, rfl, ⟨_, SqT.of ht⟩, fun D hD => ?_⟩
    have C : LcC [] (fun _ => True) H D := ⟨hD, List.not_mem_nil, fun _ _ h => h⟩
    refine lct (M := fun k ds => ds = made ps (endF i) dN k) C ht trivial rfl ?_ ?_
    · intro k x H2 zs ds ex L
      obtain ⟨pr, ep, tx⟩ := hx.pr_at ex
      have hk : k < 100 := by
        have := (List.getElem?_eq_some_iff.mp ep).1
        have := hw.len
        omega
      have hp := mem_pairsOf.mp (hw.ins pr (List.mem_of_getElem? ep))
      obtain ⟨b, rfl, eb⟩ := (tx.fr L.fr).pr_inv
      refine ⟨b, _, rfl, SqT.of eb, rfl, _, _, rfl, _, _, rfl, rfl, rfl, ?_⟩
      refine ⟨_, rfl, _, rfl, _, rfl, szl (Nat.le_of_ble_eq_true rfl), fun p2 hp2 => ?_⟩
      have fp : Fr [] H2 (upd H2 p2 (.tup [.int pr.1, .int pr.2])) := Fr.new hp2
      refine mem_tN (i := i) (is := [pr.1, pr.2]) upd_same (.cons (.int _) (.cons (.int _) .nil)) (by omega) (fun j m => by simp only [List.mem_cons, List.not_mem_nil, or_false] at m; omega) (Nat.le_of_ble_eq_true rfl) ⟨_, rfl, ite2 (fun c => ?_) (fun c => ?_)⟩
      · have c' : i = pr.1 ∨ i = pr.2 := by simpa using c
        refine ⟨_, rfl, _, rfl, _, _, rfl, rfl, _, rfl, _, _, rfl, rfl, L.put C (d := dN (pr.1 + pr.2 - i)) (by omega) fp trivial ?_ (by rw [L.m]; exact (made_some ep (by show (if i = pr.1 ∨ i = pr.2 then some (pr.1 + pr.2 - i) else none) = _; rw [if_pos c'])).symm)⟩
        have e : ((pr.1 : Int) + (pr.2 : Int) - (i : Int)) = ((pr.1 + pr.2 - i : Nat) : Int) := by omega
        show Tp _ (.int ((pr.1 : Int) + (pr.2 : Int) - (i : Int))) _
        rw [e]
        exact .int _
      · have c' : ¬ (i = pr.1 ∨ i = pr.2) := by simpa using c
        exact L.skip C fp trivial (by rw [L.m]; exact (made_none ep (by show (if i = pr.1 ∨ i = pr.2 then some (pr.1 + pr.2 - i) else none) = _; rw [if_neg c'])).symm)
    · intro H2 zs ds L
      have em := L.m
      rw [made_all (by rw [hx.len]; exact Nat.le_refl _)] at em
      have td := L.dat
      rw [em] at td
      have ez := nats_inv td
      have ea := L.at_
      rw [ez, ← ints_nats] at ea
      dsimp only [tNil]
      refine ⟨D, _, rfl, SqL.of ea, fun ns' p hpm hso hp => ?_⟩
      have en := sorted_nats hpm hso (ends_perm hw hi) (nbs_sorted n ps i)
      rw [en, ints_nats]
      have f2 : Fr [] H2 (upd H2 p (.lst ((nbs n ps i).map fun i => V.int (i : Nat)))) := Fr.new hp
      refine ⟨p, _, rfl, .inl ⟨SqL.of upd_same, fun l hl2 => ?_⟩⟩
      have fa : Fr [] (upd H2 p (.lst ((nbs n ps i).map fun i => V.int (i : Nat)))) (upd (upd H2 p (.lst ((nbs n ps i).map fun i => V.int (i : Nat)))) l (.tup ((nbs n ps i).map fun i => V.int (i : Nat)))) := Fr.new hl2
      exact q _ _ ((L.fr.trans f2).trans fa) (.tup upd_same (tps_nats _ _))
end
end Lt

set_option Elab.async false
set_option linter.all false
set_option maxRecDepth 100000
set_option maxHeartbeats 8000000
namespace Lt
open PySem PySem.Spec PyProof.Rows L2
theorem Stk.fr0 {s d c : Addr} {H H' : Hp} (h : Stk s d c H) (f : Fr [] H H') : Stk s d c H' := by
  obtain ⟨ds, cs, sm, tn, b1, b2, b3, b4, b5⟩ := h.ex
  exact ⟨⟨ds, cs, sm, tn, f.keep _ _ b1 List.not_mem_nil, f.keep _ _ b2 List.not_mem_nil, b3, f.keep _ _ b4 List.not_mem_nil, b5⟩, h.sd, h.sc, h.dc⟩
theorem noT {A B : Prop} {x y : Str} (e : x = y) (h : B) : if (!decide (V.str x = V.str y)) = true then A else B := by
  subst e
  rw [decide_eq_true rfl]
  exact iteF h
theorem smN {is : List Nat} (h : ∀ i ∈ is, i < 1000) (hl : is.length ≤ 100) : Sm 3 60000 (.tuple (dNs is)) := (sm_dNs h hl).mono (by decide) (by decide)
theorem smL {ds : List PyData} (h : ∀ d ∈ ds, Sm 3 60000 d) (hl : ds.length ≤ 8) : Sm 4 (8 * 60001) (.list ds) := Sm.lst h hl
theorem smB {bs : List Bool} (hl : bs.length ≤ 100) : Sm 1 (100 * 1) (.list (bs.map PyData.bool)) := Sm.lst (n := 0) (w := 0) (m := 100) (fun d m => by
  obtain ⟨b, _, rfl⟩ := List.mem_map.mp m
  exact Sm.bl b) (by rw [List.length_map]; exact hl)
section
variable {P : Program} {w : World} {K : PySem.W.Frag} {mg : Str → Option Value} {base : Heap} {f : Addr} {fd : FuncData}
variable {s d c : Addr} {n : Nat} {ps : List Pr} {D : Ends} {H : Hp} {v v6 v9 v10 v11 : V} {t e : Addr}
abbrev dRow (n : Nat) (ps : List Pr) : PyData := .tuple (dNs (rowOf n ps))
abbrev dNums (n : Nat) (ps : List Pr) : PyData := .tuple (dNs (nums n ps))
abbrev dOdds (n : Nat) (ps : List Pr) : PyData := .tuple (dNs (odds n ps))
abbrev dNb (n : Nat) (ps : List Pr) (i : Nat) : PyData := .tuple (dNs (nbs n ps i))
theorem sm_row (w : WebOk n ps) : Sm 3 60000 (dRow n ps) := smN (fun i m => by have := row_le m; omega) (by rw [row_len]; have := pairsOf_len12 n w.hi; omega)
theorem sm_nums (w : WebOk n ps) : Sm 3 60000 (dNums n ps) := smN (fun i m => by have := nums_lt w m; have := w.hi; omega) (by unfold nums; rw [List.length_map, List.length_range]; have := w.hi; omega)
theorem sm_odds (w : WebOk n ps) : Sm 3 60000 (dOdds n ps) := smN (fun i m => by have := odds_lt m; have := w.hi; omega) (by
  have := w.hi
  have h := List.length_filter_le (fun i => (nbs n ps i).length % 2 == 1) (List.range n)
  rw [List.length_range] at h
  unfold odds
  omega)
theorem sm_nb (w : WebOk n ps) (i : Nat) : Sm 3 60000 (dNb n ps i) := smN (fun j m => by have := nbs_lt m; have := w.hi; omega) (by have := nbs_len n ps i; have := w.hi; omega)
theorem sm_two {d : PyData} (h : Sm 3 60000 d) : Sm 4 (8 * 60001) (.list [d, d]) := smL (by
    intro x m
    simp only [List.mem_cons, List.not_mem_nil, or_false] at m
    rcases m with rfl | rfl <;> exact h) (Nat.le_of_ble_eq_true rfl)
def rd__law_is_right_1 (K : PySem.W.Frag) : TS := (tAsg (tVar 1) (gTup K 2 (gCons (gName 2) (gCons (gName 3) gNil))))
def rd__law_is_right_2 (K : PySem.W.Frag) : TS := (tPar 4 5 (tCons (tCall spPairs [] E0 (tCons (tVar 2) tNil)) (tCons (tCB (rRepr K) (tCons (tVar 1) tNil)) tNil)))
def rd__law_is_right_3 (K : PySem.W.Frag) : TS := (tAsg (tCB (rTupOf K) (tCons (tLc (iList K (tVar 4)) (gName 13) tYes (tCB cInt1 (tCons (tOp (rMem K) (tVar 13) (tVar 3)) tNil)) [13]) tNil)) (gName 6))
def rd__law_is_right_4 (K : PySem.W.Frag) : TS := (tAsg (tLst (tCons (tCall spRow [] E0 (tCons (tVar 1) tNil)) (tCons (tCallN spRow (fun ws => match ws with | [a0] => [a0] | _ => []) E0 (tCons (tVar 1) tNil)) (tCons (tCall spWebOf [] E0 (tCons (tVar 2) (tCons (tVar 6) tNil))) (tCons (tCallN spWebOf (fun ws => match ws with | [a0, a1] => [a1, a0] | _ => []) E0 (tCons (tVar 6) (tCons (tVar 2) tNil))) tNil))))) (gName 7))
def rd__law_is_right_5 (K : PySem.W.Frag) : TS := (tIfS (tTest (tOp rNe (tCB (rRepr K) (tCons (tVar 7) tNil)) (tCB (rRepr K) (tCons (tLst (tCons (tVar 6) (tCons (tVar 6) (tCons (tVar 1) (tCons (tVar 1) tNil))))) tNil)))) (tRet (tC (.bl false))) tNext)
def rd__law_is_right_6 (K : PySem.W.Frag) : TS := (tAsg (tCB (rTupOf K) (tCons (tLc (iRng1 (tCons (tVar 2) tNil)) (gName 8) tYes (tCB (rLen K) (tCons (tCall spNb [] E0 (tCons (tVar 1) (tCons (tVar 8) tNil))) tNil)) [8]) tNil)) (gName 9))
def rd__law_is_right_7 (K : PySem.W.Frag) : TS := (tIfS (tOr (tTest (tOp rNe (tCB (rRepr K) (tCons (tLst (tCons (tCall spNums [] E0 (tCons (tVar 1) tNil)) (tCons (tCallN spNums (fun ws => match ws with | [a0] => [a0] | _ => []) E0 (tCons (tVar 1) tNil)) tNil))) tNil)) (tCB (rRepr K) (tCons (tLst (tCons (tVar 9) (tCons (tVar 9) tNil))) tNil)))) (tTest (tOp rNe (tCB (rSumT K) (tCons (tVar 9) tNil)) (tOp rMulI (tC (.int 2)) (tCB (rLen K) (tCons (tVar 3) tNil)))))) (tRet (tC (.bl false))) tNext)
def rd__law_is_right_8 (K : PySem.W.Frag) : TS := (tAsg (tCB (rTupOf K) (tCons (tLc (iRng1 (tCons (tVar 2) tNil)) (gName 8) (tTest (tOp rEq (tOp rModI (tOp (rIxT K) (tVar 9) (tVar 8)) (tC (.int 2))) (tC (.int 1)))) (tVar 8) [8]) tNil)) (gName 10))
def rd__law_is_right_9 (K : PySem.W.Frag) : TS := (tIfS (tOr (tTest (tOp rNe (tCB (rRepr K) (tCons (tLst (tCons (tCall spOdd [] E0 (tCons (tVar 1) tNil)) (tCons (tCallN spOdd (fun ws => match ws with | [a0] => [a0] | _ => []) E0 (tCons (tVar 1) tNil)) tNil))) tNil)) (tCB (rRepr K) (tCons (tLst (tCons (tVar 10) (tCons (tVar 10) tNil))) tNil)))) (tTest (tOp rNe (tOp rModI (tCB (rLen K) (tCons (tVar 10) tNil)) (tC (.int 2))) (tC (.int 0))))) (tRet (tC (.bl false))) tNext)
def rd__law_is_right_10_1 (K : PySem.W.Frag) : TS := (tAsg (tCall spNb [] E0 (tCons (tVar 1) (tCons (tVar 8) tNil))) (gName 11))
def rd__law_is_right_10_2 (K : PySem.W.Frag) : TS := (tIfS (tTest (tOp rNe (tCB (rRepr K) (tCons (tLst (tCons (tCall spNb [] E0 (tCons (tVar 1) (tCons (tVar 8) tNil))) (tCons (tCallN spNb (fun ws => match ws with | [a0, a1] => [a1, a0] | _ => []) E0 (tCons (tVar 8) (tCons (tVar 1) tNil))) tNil))) tNil)) (tCB (rRepr K) (tCons (tLst (tCons (tVar 11) (tCons (tVar 11) tNil))) tNil)))) (tRet (tC (.bl false))) tNext)
def rd__law_is_right_10_3 (K : PySem.W.Frag) : TS := (tAsg (tLc (iRng1 (tCons (tVar 2) tNil)) (gName 12) tYes (tCall spTied [] E0 (tCons (tVar 1) (tCons (tVar 8) (tCons (tVar 12) tNil)))) [12]) (gName 7))
def rd__law_is_right_10_4 (K : PySem.W.Frag) : TS := (tIfS (tTest (tOp rNe (tCB (rRepr K) (tCons (tVar 7) tNil)) (tCB (rRepr K) (tCons (tLc (iRng1 (tCons (tVar 2) tNil)) (gName 12) tYes (tOp (rMem K) (tVar 12) (tVar 11)) [12]) tNil)))) (tRet (tC (.bl false))) tNext)
def rd__law_is_right_10_5 (K : PySem.W.Frag) : TS := (tAsg (tCall spDraw [] E0 (tCons (tVar 0) (tCons (tVar 2) tNil))) (gName 12))
def rd__law_is_right_10_6 (K : PySem.W.Frag) : TS := (tIfS (tTest (tOp rNe (tCB (rRepr K) (tCons (tCallN spTied (fun ws => match ws with | [a0, a1, a2] => [a2, a1, a0] | _ => []) E0 (tCons (tVar 12) (tCons (tVar 8) (tCons (tVar 1) tNil)))) tNil)) (tCB (rRepr K) (tCons (tOp (rMem K) (tVar 12) (tVar 11)) tNil)))) (tRet (tC (.bl false))) tNext)
def rdS__law_is_right_10_6 (K : PySem.W.Frag) : TS := rd__law_is_right_10_6 K
def rdS__law_is_right_10_5 (K : PySem.W.Frag) : TS := tSeq (rd__law_is_right_10_5 K) (rdS__law_is_right_10_6 K)
def rdS__law_is_right_10_4 (K : PySem.W.Frag) : TS := tSeq (rd__law_is_right_10_4 K) (rdS__law_is_right_10_5 K)
def rdS__law_is_right_10_3 (K : PySem.W.Frag) : TS := tSeq (rd__law_is_right_10_3 K) (rdS__law_is_right_10_4 K)
def rdS__law_is_right_10_2 (K : PySem.W.Frag) : TS := tSeq (rd__law_is_right_10_2 K) (rdS__law_is_right_10_3 K)
def rdS__law_is_right_10_1 (K : PySem.W.Frag) : TS := tSeq (rd__law_is_right_10_1 K) (rdS__law_is_right_10_2 K)
def rd__law_is_right_10 (K : PySem.W.Frag) : TS := tFor (iList K (tSl (rSlL K) (tCall spShuf [] E0 (tCons (tVar 0) (tCons (tLstRg (tRg1 (tVar 2))) tNil))) tNoPart (tPart (tC (.int 4))))) (gName 8) (rdS__law_is_right_10_1 K)
def rd__law_is_right_11 (K : PySem.W.Frag) : TS := (tRet (tOp rEq (tCB (rRepr K) (tCons (tVar 1) tNil)) (tVar 5)))
def rdS__law_is_right_11 (K : PySem.W.Frag) : TS := rd__law_is_right_11 K
def rdS__law_is_right_10 (K : PySem.W.Frag) : TS := tSeq (rd__law_is_right_10 K) (rdS__law_is_right_11 K)
def rdS__law_is_right_9 (K : PySem.W.Frag) : TS := tSeq (rd__law_is_right_9 K) (rdS__law_is_right_10 K)
def rdS__law_is_right_8 (K : PySem.W.Frag) : TS := tSeq (rd__law_is_right_8 K) (rdS__law_is_right_9 K)
def rdS__law_is_right_7 (K : PySem.W.Frag) : TS := tSeq (rd__law_is_right_7 K) (rdS__law_is_right_8 K)
def rdS__law_is_right_6 (K : PySem.W.Frag) : TS := tSeq (rd__law_is_right_6 K) (rdS__law_is_right_7 K)
def rdS__law_is_right_5 (K : PySem.W.Frag) : TS := tSeq (rd__law_is_right_5 K) (rdS__law_is_right_6 K)
def rdS__law_is_right_4 (K : PySem.W.Frag) : TS := tSeq (rd__law_is_right_4 K) (rdS__law_is_right_5 K)
def rdS__law_is_right_3 (K : PySem.W.Frag) : TS := tSeq (rd__law_is_right_3 K) (rdS__law_is_right_4 K)
def rdS__law_is_right_2 (K : PySem.W.Frag) : TS := tSeq (rd__law_is_right_2 K) (rdS__law_is_right_3 K)
def rdS__law_is_right_1 (K : PySem.W.Frag) : TS := tSeq (rd__law_is_right_1 K) (rdS__law_is_right_2 K)
/-- row = tuple([int(pair in ties) for pair in every]) -/
theorem right_3 {y5 y6 y7 y8 y9 y10 y11 y12 y13 : Option V} {xs es : List V} (hw : WebOk n ps) (ht : H t = some (.tup xs)) (hx : Tps H xs (dPs ps)) (he : H e = some (.lst es)) (te : Tps H es (dPs (pairsOf n)))
    (k : ∀ H' r, Fr [] H H' → Tp H' r (dRow n ps) → D.nx [some (.ref s), some v, some (.int n), some (.ref t), some (.ref e), y5, some r, y7, y8, y9, y10, y11, y12, y13] H') :
    rd__law_is_right_3 K D [some (.ref s), some v, some (.int n), some (.ref t), some (.ref e), y5, y6, y7, y8, y9, y10, y11, y12, y13] H := by
  have hn := hw.hi
  have hl := pairsOf_len12 n hn
  refine ⟨_, rfl, e, rfl, ⟨_, SqL.of he⟩, fun D1 hD1 => ?_⟩
  have C : LcC [] (fun _ => True) H D1 := ⟨hD1, List.not_mem_nil, fun _ _ h => h⟩
  refine lcl (M := fun i ds => ds = made (pairsOf n) (fun p => some (if p ∈ ps then 1 else 0)) dN i) C (SqL.of he) List.not_mem_nil trivial rfl ?_ ?_
  · intro i x H2 zs ds ex L
    obtain ⟨pr, ep, tx⟩ := te.pr_at ex
    have hi : i < 100 := by
      have := (List.getElem?_eq_some_iff.mp ep).1
      omega
    have hb := pairsOf_below (n := n) (by omega) pr (List.mem_of_getElem? ep)
    have tx2 := tx.fr L.fr
    refine ⟨rfl, tyes ?_⟩
    refine ⟨_, rfl, _, rfl, mem_tP tx2 (L.fr.tups _ _ ht) (hx.fr L.fr) hb hw.below (by have := hw.len; omega) (.inr ⟨_, rfl, ?_⟩)⟩
    refine L.put C (d := dN (if pr ∈ ps then 1 else 0)) (by omega) Fr.refl trivial ?_ (by rw [L.m]; exact (made_some (f := fun p => some (if p ∈ ps then 1 else 0)) (en := dN) ep rfl).symm)
    by_cases c : pr ∈ ps
    · rw [if_pos c, decide_eq_true c]
      exact .int _
    · rw [if_neg c, decide_eq_false c]
      exact .int _
  · intro H2 zs ds L
    refine ⟨D1, zs, rfl, .inl ⟨SqL.of L.at_, fun l hl2 => ?_⟩⟩
    have em := L.m
    rw [made_all (by rw [te.len]; exact Nat.le_refl _), filterMap_one] at em
    have td := L.dat
    rw [em] at td
    have fa : Fr [] H2 (upd H2 l (.tup zs)) := Fr.new hl2
    exact k _ _ (L.fr.trans fa) (.tup upd_same (td.fr fa))
/-- told = [row_of(web), row_of(web=web), web_of(many, row), web_of(row=row, many=many)] -/
theorem right_4 {y3 y4 y5 y7 : Option V} {T : List (Option V)} (hw : WebOk n ps) (hv : Tp H v (dW n ps)) (h6 : Tp H v6 (dRow n ps))
    (k : ∀ H' l xs, Fr [] H H' → H' l = some (.lst xs) → Tps H' xs [dRow n ps, dRow n ps, dW n ps, dW n ps] → D.nx (some (.ref s) :: some v :: some (.int n) :: y3 :: y4 :: y5 :: some v6 :: some (.ref l) :: T) H') :
    rd__law_is_right_4 K D (some (.ref s) :: some v :: some (.int n) :: y3 :: y4 :: y5 :: some v6 :: y7 :: T) H := by
  have hn := hw.hi
  refine ⟨_, rfl, v, n, ps, rfl, ⟨hv, hw⟩, fun H1 r1 f1 t1 => ?_⟩
  refine ⟨_, rfl, v, n, ps, rfl, ⟨hv.fr f1, hw⟩, fun H2 r2 f2 t2 => ?_⟩
  refine ⟨_, rfl, _, rfl, n, v6, rowOf n ps, rfl, hn, (h6.fr f1).fr f2, row_len n ps, fun H3 r3 f3 t3 => ?_⟩
  refine ⟨_, rfl, _, rfl, n, v6, rowOf n ps, rfl, hn, ((h6.fr f1).fr f2).fr f3, row_len n ps, fun H4 r4 f4 t4 => ?_⟩
  rw [sel_row hw] at t3 t4
  refine ⟨szl (Nat.le_of_ble_eq_true rfl), fun l hl => ?_⟩
  have fl : Fr [] H4 (upd H4 l (.lst [r1, r2, r3, r4])) := Fr.new hl
  exact k _ l _ ((((f1.trans f2).trans f3).trans f4).trans fl) upd_same (.cons ((((t1.fr f2).fr f3).fr f4).fr fl) (.cons (((t2.fr f3).fr f4).fr fl) (.cons ((t3.fr f4).fr fl) (.cons (t4.fr fl) .nil))))
/-- if repr(told) != repr([row, row, web, web]) -/
theorem right_5 {y2 y3 y4 y5 : Option V} {T : List (Option V)} {l : Addr} {xs : List V} (hw : WebOk n ps) (hv : Tp H v (dW n ps)) (h6 : Tp H v6 (dRow n ps)) (el : H l = some (.lst xs)) (tl : Tps H xs [dRow n ps, dRow n ps, dW n ps, dW n ps])
    (k : ∀ H', Fr [] H H' → D.nx (some (.ref s) :: some v :: y2 :: y3 :: y4 :: y5 :: some v6 :: some (.ref l) :: T) H') :
    rd__law_is_right_5 K D (some (.ref s) :: some v :: y2 :: y3 :: y4 :: y5 :: some v6 :: some (.ref l) :: T) H := by
  have sm : Sm 4 (8 * 60001) (.list [dRow n ps, dRow n ps, dW n ps, dW n ps]) := smL (by
    intro x m
    simp only [List.mem_cons, List.not_mem_nil, or_false] at m
    rcases m with rfl | rfl | rfl | rfl
    · exact sm_row hw
    · exact sm_row hw
    · exact hw.sm
    · exact hw.sm) (Nat.le_of_ble_eq_true rfl)
  refine ⟨_, rfl, _, _, _, _, rfl, .lst (SqL.of el) tl.dp, sm, by decide, by decide, ?_⟩
  refine ⟨_, rfl, _, rfl, _, rfl, _, rfl, szl (Nat.le_of_ble_eq_true rfl), fun m hm => ?_⟩
  have fm : Fr [] H (upd H m (.lst [v6, v6, v, v])) := Fr.new hm
  have tm : Tps (upd H m (.lst [v6, v6, v, v])) [v6, v6, v, v] [dRow n ps, dRow n ps, dW n ps, dW n ps] :=
    .cons (h6.fr fm) (.cons (h6.fr fm) (.cons (hv.fr fm) (.cons (hv.fr fm) .nil)))
  exact ⟨_, _, _, _, rfl, .lst (SqL.of upd_same) tm.dp, sm, by decide, by decide, rfl, _, rfl, noT rfl (k _ fm)⟩
/-- sizes = tuple([len(_law_beside(web, place)) for place in range(many)]) -/
theorem right_6 {y3 y4 y5 y6 y7 y8 y9 y10 y11 y12 y13 : Option V} (hw : WebOk n ps) (hv : Tp H v (dW n ps))
    (k : ∀ H' r, Fr [] H H' → Tp H' r (dNums n ps) → D.nx [some (.ref s), some v, some (.int n), y3, y4, y5, y6, y7, y8, some r, y10, y11, y12, y13] H') :
    rd__law_is_right_6 K D [some (.ref s), some v, some (.int n), y3, y4, y5, y6, y7, y8, y9, y10, y11, y12, y13] H := by
  have hn := hw.hi
  refine ⟨_, rfl, n, rfl, by omega, by omega, fun D1 hD1 => ?_⟩
  have C : LcC [] (fun _ => True) H D1 := ⟨hD1, List.not_mem_nil, fun _ _ h => h⟩
  refine lcr (M := fun k ds => ds = made (List.range n) (fun j => some (nbs n ps j).length) dN k) C trivial rfl ?_ ?_
  · intro j H2 zs ds hj L
    have hj : j < n := hj
    have ej := range_at hj
    refine ⟨rfl, tyes ?_⟩
    rw [Int.zero_add]
    refine ⟨_, rfl, _, rfl, v, n, ps, j, rfl, ⟨hv.fr L.fr, hw⟩, hj, fun H3 r f3 tr => ?_⟩
    obtain ⟨b, ws, rfl, eb, tb⟩ := tr.tup_inv
    refine ⟨b, ws, rfl, .inr (SqT.of eb), ?_⟩
    refine L.put C (d := dN (nbs n ps j).length) (by omega) f3 trivial ?_ (by rw [L.m]; exact (made_some (f := fun j => some (nbs n ps j).length) (en := dN) ej rfl).symm)
    rw [tb.length, List.length_map]
    exact .int _
  · intro H2 zs ds L
    refine ⟨D1, zs, rfl, .inl ⟨SqL.of L.at_, fun l hl2 => ?_⟩⟩
    have em := L.m
    rw [made_all (by rw [List.length_range]; exact Nat.le_refl _), filterMap_one] at em
    have td := L.dat
    rw [em] at td
    have fa : Fr [] H2 (upd H2 l (.tup zs)) := Fr.new hl2
    exact k _ _ (L.fr.trans fa) (.tup upd_same (td.fr fa))
end
end Lt

set_option Elab.async false
set_option linter.all false
set_option maxRecDepth 100000
set_option maxHeartbeats 8000000
namespace Lt
open PySem PySem.Spec PyProof.Rows L2
theorem natsum_int : ∀ l : List Nat, (l.map fun i => ((i : Nat) : Int)).sum = ((l.sum : Nat) : Int)
  | [] => rfl
  | x :: l => by
    rw [List.map_cons, List.sum_cons, List.sum_cons, natsum_int l]
    omega
section
variable {P : Program} {w : World} {K : PySem.W.Frag} {mg : Str → Option Value} {base : Heap} {f : Addr} {fd : FuncData}
variable {s d c : Addr} {n : Nat} {ps : List Pr} {D : Ends} {H : Hp} {v v6 v9 v10 v11 : V} {t e : Addr}
/-- if repr([numbers(web), numbers(web=web)]) != repr([sizes, sizes]) or sum(sizes) != 2 * len(ties) -/
theorem right_7 {y2 y4 y5 y6 y7 y8 : Option V} {T : List (Option V)} {xs : List V} (hw : WebOk n ps) (hv : Tp H v (dW n ps)) (ht : H t = some (.tup xs)) (hx : Tps H xs (dPs ps)) (h9 : Tp H v9 (dNums n ps))
    (k : ∀ H', Fr [] H H' → D.nx (some (.ref s) :: some v :: y2 :: some (.ref t) :: y4 :: y5 :: y6 :: y7 :: y8 :: some v9 :: T) H') :
    rd__law_is_right_7 K D (some (.ref s) :: some v :: y2 :: some (.ref t) :: y4 :: y5 :: y6 :: y7 :: y8 :: some v9 :: T) H := by
  have sm := sm_two (sm_nums hw)
  refine ⟨_, rfl, v, n, ps, rfl, ⟨hv, hw⟩, fun H1 r1 f1 t1 => ?_⟩
  refine ⟨_, rfl, v, n, ps, rfl, ⟨hv.fr f1, hw⟩, fun H2 r2 f2 t2 => ?_⟩
  refine ⟨szl (Nat.le_of_ble_eq_true rfl), fun l hl => ?_⟩
  have fl : Fr [] H2 (upd H2 l (.lst [r1, r2])) := Fr.new hl
  have tl : Tps (upd H2 l (.lst [r1, r2])) [r1, r2] [dNums n ps, dNums n ps] := .cons ((t1.fr f2).fr fl) (.cons (t2.fr fl) .nil)
  refine ⟨_, _, _, _, rfl, .lst (SqL.of upd_same) tl.dp, sm, by decide, by decide, ?_⟩
  have g := (f1.trans f2).trans fl
  refine ⟨_, rfl, _, rfl, szl (Nat.le_of_ble_eq_true rfl), fun m hm => ?_⟩
  have fm : Fr [] (upd H2 l (.lst [r1, r2])) (upd (upd H2 l (.lst [r1, r2])) m (.lst [v9, v9])) := Fr.new hm
  have g2 := g.trans fm
  have tm : Tps (upd (upd H2 l (.lst [r1, r2])) m (.lst [v9, v9])) [v9, v9] [dNums n ps, dNums n ps] := .cons (h9.fr g2) (.cons (h9.fr g2) .nil)
  refine ⟨_, _, _, _, rfl, .lst (SqL.of upd_same) tm.dp, sm, by decide, by decide, rfl, _, rfl, noT rfl ?_⟩
  -- sum(sizes) != 2 * len(ties)
  obtain ⟨b, ws, rfl, eb, tb⟩ := h9.tup_inv
  have ew := nats_inv tb
  have eb2 := g2.tups _ _ eb
  rw [ew, ← ints_nats] at eb2
  refine ⟨_, rfl, b, _, rfl, SqT.of eb2, ?_⟩
  refine ⟨_, rfl, t, xs, rfl, .inr (SqT.of (g2.tups _ _ ht)), _, _, rfl, rfl, .inl ⟨by decide, by decide⟩, rfl, _, rfl, ?_⟩
  refine Eq.mpr (if_neg ?_) (k _ g2)
  have es : ((nums n ps).map fun i => ((i : Nat) : Int)).sum = 2 * (xs.length : Nat) := by
    rw [natsum_int, nums_sum hw, hx.len]
    omega
  show ¬ (!decide (V.int ((nums n ps).map fun i => ((i : Nat) : Int)).sum = V.int (2 * (xs.length : Nat)))) = true
  rw [es]
  simp
/-- odd = tuple([place for place in range(many) if sizes[place] % 2 == 1]) -/
theorem right_8 {y1 y3 y4 y5 y6 y7 y8 y10 y11 y12 y13 : Option V} (hw : WebOk n ps) (h9 : Tp H v9 (dNums n ps))
    (k : ∀ H' r, Fr [] H H' → Tp H' r (dOdds n ps) → D.nx [some (.ref s), y1, some (.int n), y3, y4, y5, y6, y7, y8, some v9, some r, y11, y12, y13] H') :
    rd__law_is_right_8 K D [some (.ref s), y1, some (.int n), y3, y4, y5, y6, y7, y8, some v9, y10, y11, y12, y13] H := by
  have hn := hw.hi
  obtain ⟨b, ws, rfl, eb, tb⟩ := h9.tup_inv
  have ew := nats_inv tb
  refine ⟨_, rfl, n, rfl, by omega, by omega, fun D1 hD1 => ?_⟩
  have C : LcC [] (fun _ => True) H D1 := ⟨hD1, List.not_mem_nil, fun _ _ h => h⟩
  refine lcr (M := fun k ds => ds = made (List.range n) (fun i => if ((nbs n ps i).length % 2 == 1) = true then some i else none) dN k) C trivial rfl ?_ ?_
  · intro i H2 zs ds hi L
    have hi : i < n := hi
    have ei := range_at hi
    have g1 : ws[i]? = some (.int ((nbs n ps i).length : Nat)) := by
      rw [ew, List.getElem?_map, nums_at hi]
      rfl
    refine ⟨rfl, ?_⟩
    rw [Int.zero_add]
    refine ⟨_, rfl, _, rfl, b, _, i, _, rfl, rfl, SqT.of (L.fr.tups _ _ eb), atI_nat g1, _, _, rfl, rfl, (show (0 : Int) < 2 by decide), rfl, _, rfl, ite2 (fun c => ?_) (fun c => ?_)⟩
    · refine ⟨_, rfl, L.put C (d := dN i) (by omega) Fr.refl trivial (.int _) (by rw [L.m]; exact (made_some ei (by rw [if_pos]; rw [dec_int] at c; simp at c ⊢; omega)).symm)⟩
    · exact L.skip C Fr.refl trivial (by rw [L.m]; exact (made_none ei (by rw [if_neg]; rw [dec_int] at c; simp at c ⊢; omega)).symm)
  · intro H2 zs ds L
    refine ⟨D1, zs, rfl, .inl ⟨SqL.of L.at_, fun l hl2 => ?_⟩⟩
    have em := L.m
    rw [made_all (by rw [List.length_range]; exact Nat.le_refl _), filterMap_if] at em
    have td := L.dat
    rw [em] at td
    have fa : Fr [] H2 (upd H2 l (.tup zs)) := Fr.new hl2
    exact k _ _ (L.fr.trans fa) (.tup upd_same (td.fr fa))
/-- if repr([odd_places(web), odd_places(web=web)]) != repr([odd, odd]) or len(odd) % 2 != 0 -/
theorem right_9 {y2 y3 y4 y5 y6 y7 y8 y9 : Option V} {T : List (Option V)} (hw : WebOk n ps) (hv : Tp H v (dW n ps)) (h10 : Tp H v10 (dOdds n ps))
    (k : ∀ H', Fr [] H H' → D.nx (some (.ref s) :: some v :: y2 :: y3 :: y4 :: y5 :: y6 :: y7 :: y8 :: y9 :: some v10 :: T) H') :
    rd__law_is_right_9 K D (some (.ref s) :: some v :: y2 :: y3 :: y4 :: y5 :: y6 :: y7 :: y8 :: y9 :: some v10 :: T) H := by
  have sm := sm_two (sm_odds hw)
  refine ⟨_, rfl, v, n, ps, rfl, ⟨hv, hw⟩, fun H1 r1 f1 t1 => ?_⟩
  refine ⟨_, rfl, v, n, ps, rfl, ⟨hv.fr f1, hw⟩, fun H2 r2 f2 t2 => ?_⟩
  refine ⟨szl (Nat.le_of_ble_eq_true rfl), fun l hl => ?_⟩
  have fl : Fr [] H2 (upd H2 l (.lst [r1, r2])) := Fr.new hl
  have tl : Tps (upd H2 l (.lst [r1, r2])) [r1, r2] [dOdds n ps, dOdds n ps] := .cons ((t1.fr f2).fr fl) (.cons (t2.fr fl) .nil)
  refine ⟨_, _, _, _, rfl, .lst (SqL.of upd_same) tl.dp, sm, by decide, by decide, ?_⟩
  have g := (f1.trans f2).trans fl
  refine ⟨_, rfl, _, rfl, szl (Nat.le_of_ble_eq_true rfl), fun m hm => ?_⟩
  have fm : Fr [] (upd H2 l (.lst [r1, r2])) (upd (upd H2 l (.lst [r1, r2])) m (.lst [v10, v10])) := Fr.new hm
  have g2 := g.trans fm
  have tm : Tps (upd (upd H2 l (.lst [r1, r2])) m (.lst [v10, v10])) [v10, v10] [dOdds n ps, dOdds n ps] := .cons (h10.fr g2) (.cons (h10.fr g2) .nil)
  refine ⟨_, _, _, _, rfl, .lst (SqL.of upd_same) tm.dp, sm, by decide, by decide, rfl, _, rfl, noT rfl ?_⟩
  -- len(odd) % 2 != 0
  obtain ⟨b, ws, rfl, eb, tb⟩ := h10.tup_inv
  have lw := tb.length
  rw [List.length_map] at lw
  have ev := odds_even hw
  refine ⟨_, rfl, b, ws, rfl, .inr (SqT.of (g2.tups _ _ eb)), _, _, rfl, rfl, (show (0 : Int) < 2 by decide), rfl, _, rfl, ?_⟩
  refine Eq.mpr (if_neg ?_) (k _ g2)
  have es : ((ws.length : Nat) : Int) % 2 = 0 := by omega
  show ¬ (!decide (V.int (((ws.length : Nat) : Int) % 2) = V.int 0)) = true
  rw [es]
  simp
/-- return repr(web) == known -/
theorem right_11 {y2 y3 y4 : Option V} {T : List (Option V)} (hw : WebOk n ps) (hv : Tp H v (dW n ps))
    (k : D.rt (.bl true) H) :
    rd__law_is_right_11 K D (some (.ref s) :: some v :: y2 :: y3 :: y4 :: some (.str (txt (dW n ps))) :: T) H := by
  refine ⟨_, rfl, _, _, _, _, rfl, hv.dp, hw.sm, by decide, by decide, _, rfl, rfl, ?_⟩
  rw [decide_eq_true rfl]
  exact k
end
end Lt

set_option Elab.async false
set_option linter.all false
set_option maxRecDepth 100000
set_option maxHeartbeats 8000000
namespace Lt
open PySem PySem.Spec PyProof.Rows L2
section
variable {P : Program} {w : World} {K : PySem.W.Frag} {mg : Str → Option Value} {base : Heap} {f : Addr} {fd : FuncData}
variable {s d c : Addr} {n i : Nat} {ps : List Pr} {D : Ends} {H : Hp} {v v6 v9 v10 v11 : V} {t e l : Addr}
theorem mem_nbs {j : Nat} (hj : j < n) : decide (j ∈ nbs n ps i) = tied ps i j := by
  unfold nbs
  rw [Bool.eq_iff_iff, decide_eq_true_iff, List.mem_filter]
  exact ⟨fun z => z.2, fun z => ⟨List.mem_range.mpr hj, z⟩⟩
/-- due = _law_beside(web, place) -/
theorem right_10_1 {y2 y3 y4 y5 y6 y7 y9 y10 y11 : Option V} {T : List (Option V)} (hw : WebOk n ps) (hv : Tp H v (dW n ps)) (hi : i < n)
    (k : ∀ H' r, Fr [] H H' → Tp H' r (dNb n ps i) → D.nx (some (.ref s) :: some v :: y2 :: y3 :: y4 :: y5 :: y6 :: y7 :: some (.int i) :: y9 :: y10 :: some r :: T) H') :
    rd__law_is_right_10_1 K D (some (.ref s) :: some v :: y2 :: y3 :: y4 :: y5 :: y6 :: y7 :: some (.int i) :: y9 :: y10 :: y11 :: T) H :=
  ⟨_, rfl, _, rfl, v, n, ps, i, rfl, ⟨hv, hw⟩, hi, fun H1 r f1 t1 => k H1 r f1 t1⟩
/-- if repr([neighbours(web, place), neighbours(place=place, web=web)]) != repr([due, due]) -/
theorem right_10_2 {y2 y3 y4 y5 y6 y7 y9 y10 : Option V} {T : List (Option V)} (hw : WebOk n ps) (hv : Tp H v (dW n ps)) (hi : i < n) (h11 : Tp H v11 (dNb n ps i))
    (k : ∀ H', Fr [] H H' → D.nx (some (.ref s) :: some v :: y2 :: y3 :: y4 :: y5 :: y6 :: y7 :: some (.int i) :: y9 :: y10 :: some v11 :: T) H') :
    rd__law_is_right_10_2 K D (some (.ref s) :: some v :: y2 :: y3 :: y4 :: y5 :: y6 :: y7 :: some (.int i) :: y9 :: y10 :: some v11 :: T) H := by
  have sm := sm_two (sm_nb hw i)
  refine ⟨_, rfl, _, rfl, v, n, ps, i, rfl, ⟨hv, hw⟩, hi, fun H1 r1 f1 t1 => ?_⟩
  refine ⟨_, rfl, _, rfl, v, n, ps, i, rfl, ⟨hv.fr f1, hw⟩, hi, fun H2 r2 f2 t2 => ?_⟩
  refine ⟨szl (Nat.le_of_ble_eq_true rfl), fun l hl => ?_⟩
  have fl : Fr [] H2 (upd H2 l (.lst [r1, r2])) := Fr.new hl
  have tl : Tps (upd H2 l (.lst [r1, r2])) [r1, r2] [dNb n ps i, dNb n ps i] := .cons ((t1.fr f2).fr fl) (.cons (t2.fr fl) .nil)
  refine ⟨_, _, _, _, rfl, .lst (SqL.of upd_same) tl.dp, sm, by decide, by decide, ?_⟩
  have g := (f1.trans f2).trans fl
  refine ⟨_, rfl, _, rfl, szl (Nat.le_of_ble_eq_true rfl), fun m hm => ?_⟩
  have fm : Fr [] (upd H2 l (.lst [r1, r2])) (upd (upd H2 l (.lst [r1, r2])) m (.lst [v11, v11])) := Fr.new hm
  have g2 := g.trans fm
  have tm : Tps (upd (upd H2 l (.lst [r1, r2])) m (.lst [v11, v11])) [v11, v11] [dNb n ps i, dNb n ps i] := .cons (h11.fr g2) (.cons (h11.fr g2) .nil)
  exact ⟨_, _, _, _, rfl, .lst (SqL.of upd_same) tm.dp, sm, by decide, by decide, rfl, _, rfl, noT rfl (k _ g2)⟩
abbrev dTs (n : Nat) (ps : List Pr) (i : Nat) : List PyData := ((List.range n).map fun j => tied ps i j).map PyData.bool
/-- told = [is_tied(web, place, mate) for mate in range(many)] -/
theorem right_10_3 {y3 y4 y5 y6 y7 y9 y10 y11 y12 y13 : Option V} (hw : WebOk n ps) (hv : Tp H v (dW n ps)) (hi : i < n)
    (k : ∀ H' l zs, Fr [] H H' → H' l = some (.lst zs) → Tps H' zs (dTs n ps i) → D.nx [some (.ref s), some v, some (.int n), y3, y4, y5, y6, some (.ref l), some (.int i), y9, y10, y11, y12, y13] H') :
    rd__law_is_right_10_3 K D [some (.ref s), some v, some (.int n), y3, y4, y5, y6, y7, some (.int i), y9, y10, y11, y12, y13] H := by
  have hn := hw.hi
  refine ⟨_, rfl, n, rfl, by omega, by omega, fun D1 hD1 => ?_⟩
  have C : LcC [] (fun _ => True) H D1 := ⟨hD1, List.not_mem_nil, fun _ _ h => h⟩
  refine lcr (M := fun k ds => ds = made (List.range n) (fun j => some (tied ps i j)) PyData.bool k) C trivial rfl ?_ ?_
  · intro j H2 zs ds hj L
    have hj : j < n := hj
    have ej := range_at hj
    refine ⟨rfl, tyes ?_⟩
    rw [Int.zero_add]
    refine ⟨_, rfl, _, rfl, _, rfl, v, n, ps, i, j, rfl, ⟨hv.fr L.fr, hw⟩, hi, hj, fun H3 f3 => ?_⟩
    exact L.put C (d := .bool (tied ps i j)) (by omega) f3 trivial (.bl _) (by rw [L.m]; exact (made_some (f := fun j => some (tied ps i j)) (en := PyData.bool) ej rfl).symm)
  · intro H2 zs ds L
    have em := L.m
    rw [made_all (by rw [List.length_range]; exact Nat.le_refl _), filterMap_one] at em
    have td := L.dat
    rw [em] at td
    exact k _ D1 zs L.fr L.at_ td
/-- if repr(told) != repr([mate in due for mate in range(many)]) -/
theorem right_10_4 {y1 y3 y4 y5 y6 y8 y9 y10 y12 y13 : Option V} {zs : List V} (hw : WebOk n ps) (el : H l = some (.lst zs)) (tl : Tps H zs (dTs n ps i)) (h11 : Tp H v11 (dNb n ps i))
    (k : ∀ H', Fr [] H H' → D.nx [some (.ref s), y1, some (.int n), y3, y4, y5, y6, some (.ref l), y8, y9, y10, some v11, y12, y13] H') :
    rd__law_is_right_10_4 K D [some (.ref s), y1, some (.int n), y3, y4, y5, y6, some (.ref l), y8, y9, y10, some v11, y12, y13] H := by
  have hn := hw.hi
  obtain ⟨b, ws, rfl, eb, tb⟩ := h11.tup_inv
  have sm : Sm 1 (100 * 1) (.list (dTs n ps i)) := smB (by rw [List.length_map, List.length_range]; omega)
  refine ⟨_, rfl, _, _, _, _, rfl, .lst (SqL.of el) tl.dp, sm, by decide, by decide, ?_⟩
  refine ⟨_, rfl, n, rfl, by omega, by omega, fun D1 hD1 => ?_⟩
  have C : LcC [] (fun _ => True) H D1 := ⟨hD1, List.not_mem_nil, fun _ _ h => h⟩
  refine lcr (M := fun k ds => ds = made (List.range n) (fun j => some (tied ps i j)) PyData.bool k) C trivial rfl ?_ ?_
  · intro j H2 zs ds hj L
    have hj : j < n := hj
    have ej := range_at hj
    refine ⟨rfl, tyes ?_⟩
    rw [Int.zero_add]
    refine ⟨_, rfl, _, rfl, mem_tN (i := j) (L.fr.tups _ _ eb) (tb.fr L.fr) (by omega) (fun k m => by have := nbs_lt m; omega) (by have := nbs_len n ps i; omega) ?_⟩
    rw [mem_nbs hj]
    exact L.put C (d := .bool (tied ps i j)) (by omega) Fr.refl trivial (.bl _) (by rw [L.m]; exact (made_some (f := fun j => some (tied ps i j)) (en := PyData.bool) ej rfl).symm)
  · intro H2 zs2 ds L
    have em := L.m
    rw [made_all (by rw [List.length_range]; exact Nat.le_refl _), filterMap_one] at em
    have td := L.dat
    rw [em] at td
    exact ⟨_, _, _, _, rfl, .lst (SqL.of L.at_) td.dp, sm, by decide, by decide, rfl, _, rfl, noT rfl (k _ L.fr)⟩
/-- mate = _law_draw(stock, many) -/
theorem right_10_5 {y1 y3 y4 y5 y6 y7 y8 y9 y10 y11 y12 : Option V} {T : List (Option V)} (hw : WebOk n ps) (hk : Stk s d c H)
    (k : ∀ H' (j : Nat), j < n → Fr [s, d] H H' → Stk s d c H' → D.nx (some (.ref s) :: y1 :: some (.int n) :: y3 :: y4 :: y5 :: y6 :: y7 :: y8 :: y9 :: y10 :: y11 :: some (.int j) :: T) H') :
    rd__law_is_right_10_5 K D (some (.ref s) :: y1 :: some (.int n) :: y3 :: y4 :: y5 :: y6 :: y7 :: y8 :: y9 :: y10 :: y11 :: y12 :: T) H := by
  have := hw.lo
  have := hw.hi
  exact ⟨_, rfl, _, rfl, s, d, c, n, rfl, hk, by omega, by omega, fun H1 r hr k1 f1 => k H1 r hr f1 k1⟩
/-- if repr(is_tied(mate=mate, place=place, web=web)) != repr(mate in due) -/
theorem right_10_6 {y2 y3 y4 y5 y6 y7 y9 y10 : Option V} {T : List (Option V)} {j : Nat} (hw : WebOk n ps) (hv : Tp H v (dW n ps)) (hi : i < n) (hj : j < n) (h11 : Tp H v11 (dNb n ps i))
    (k : ∀ H', Fr [] H H' → D.nx (some (.ref s) :: some v :: y2 :: y3 :: y4 :: y5 :: y6 :: y7 :: some (.int i) :: y9 :: y10 :: some v11 :: some (.int j) :: T) H') :
    rd__law_is_right_10_6 K D (some (.ref s) :: some v :: y2 :: y3 :: y4 :: y5 :: y6 :: y7 :: some (.int i) :: y9 :: y10 :: some v11 :: some (.int j) :: T) H := by
  have hn := hw.hi
  obtain ⟨b, ws, rfl, eb, tb⟩ := h11.tup_inv
  refine ⟨_, rfl, _, rfl, _, rfl, v, n, ps, i, j, rfl, ⟨hv, hw⟩, hi, hj, fun H1 f1 => ?_⟩
  refine ⟨_, _, _, _, rfl, .bl _, Sm.bl _, by decide, by decide, ?_⟩
  refine ⟨_, rfl, _, rfl, mem_tN (i := j) (f1.tups _ _ eb) (tb.fr f1) (by omega) (fun k m => by have := nbs_lt m; omega) (by have := nbs_len n ps i; omega) ?_⟩
  rw [mem_nbs hj]
  exact ⟨_, _, _, _, rfl, .bl _, Sm.bl _, by decide, by decide, rfl, _, rfl, noT rfl (k _ f1)⟩
end
end Lt

set_option Elab.async false
set_option linter.all false
set_option maxRecDepth 100000
set_option maxHeartbeats 8000000
namespace Lt
open PySem PySem.Spec PyProof.Rows L2
theorem cutV_mem {xs : List V} {lo hi : Option Int} {x : V} (h : x ∈ cutV xs lo hi) : x ∈ xs := by
  unfold cutV at h
  exact List.mem_of_mem_drop (List.mem_of_mem_take h)
section
variable {P : Program} {w : World} {K : PySem.W.Frag} {mg : Str → Option Value} {base : Heap} {f : Addr} {fd : FuncData}
variable {s d c : Addr} {n i : Nat} {ps : List Pr} {D : Ends} {H : Hp} {v v6 v9 v10 v11 : V} {t e l : Addr}
/-- for place in _law_shuffled(stock, list(range(many)))[:4] -/
theorem right_10 {y3 y4 y5 y6 y7 y8 y9 y10 y11 y12 y13 : Option V} (hw : WebOk n ps) (hv : Tp H v (dW n ps)) (h0 : Stk s d c H)
    (k : ∀ H' y7 y8 y11 y12, Fr [s, d] H H' → Stk s d c H' → D.nx [some (.ref s), some v, some (.int n), y3, y4, y5, y6, y7, y8, y9, y10, y11, y12, y13] H') :
    rd__law_is_right_10 K D [some (.ref s), some v, some (.int n), y3, y4, y5, y6, y7, y8, y9, y10, y11, y12, y13] H := by
  have hn := hw.hi
  refine ⟨_, rfl, _, rfl, n, rfl, RgOk.of_le (by decide) (by omega) (by decide) (by omega), fun q hq => ?_⟩
  have er : rgV 0 n = (List.range n).map fun i => V.int (i : Nat) := by
    unfold rgV
    rw [show ((n : Int) - 0).toNat = n by omega]
    refine List.map_congr_left fun i _ => ?_
    rw [Int.zero_add]
  rw [er]
  have fq : Fr [s, d] H (upd H q (.lst ((List.range n).map fun i => V.int (i : Nat)))) := Fr.new hq
  have kq := h0.add h0 (o := .lst ((List.range n).map fun i => V.int (i : Nat))) hq
  obtain ⟨a1, a2, a3⟩ := h0.apart hq
  refine ⟨s, d, c, q, _, _, rfl, kq, upd_same, tps_nats _ _, by rw [List.length_map, List.length_range]; omega, a1, a2, fun H1 p ys es1 pm f1 np k1 ep tp => ?_⟩
  obtain ⟨nm, rfl, hnm⟩ := names_of pm
  have ey := nats_inv tp
  refine ⟨4, rfl, p, ys, rfl, SqL.of ep, fun p2 hp2 => ?_⟩
  have g1 := fq.trans f1
  have np2 : H p2 = none := g1.free hp2
  have off : p2 ∉ [s, d] := off_of h0 np2
  have fp : Fr [s, d] H1 (upd H1 p2 (.lst (cutV ys none (some 4)))) := Fr.new hp2
  have g2 := g1.trans fp
  have k2 : Stk s d c (upd H1 p2 (.lst (cutV ys none (some 4)))) := h0.add k1 np2
  refine ⟨p2, rfl, ⟨_, SqL.of upd_same⟩, ?_⟩
  refine for_list (K := K) (a := p2) (xs := cutV ys none (some 4)) (fun _ σ H' => ∃ y7 y8 y11 y12, σ = [some (.ref s), some v, some (.int n), y3, y4, y5, y6, y7, y8, y9, y10, y11, y12, y13] ∧ Stk s d c H' ∧ Fr [s, d] (upd H1 p2 (.lst (cutV ys none (some 4)))) H')
    ⟨y7, y8, y11, y12, rfl, k2, Fr.refl⟩ (fun _ σ H' _ ⟨_, _, _, _, _, _, f3⟩ => SqL.of (f3.keep _ _ upd_same off)) ?_ ?_
  · rintro j x σ H2 hx ⟨z7, z8, z11, z12, rfl, k3, f3⟩
    have hm := cutV_mem (List.mem_of_getElem? hx)
    rw [ey] at hm
    obtain ⟨i, mi, rfl⟩ := List.mem_map.mp hm
    have hi : i < n := List.mem_range.mp (hnm.mem_iff.mp mi)
    have hv2 := (hv.fr g2).fr f3
    show rdS__law_is_right_10_1 K _ _ _
    refine right_10_1 (K := K) hw hv2 hi fun H3 r f4 t4 => ?_
    have hv3 := hv2.fr f4
    refine right_10_2 (K := K) hw hv3 hi t4 fun H4 f5 => ?_
    have hv4 := hv3.fr f5
    refine right_10_3 (K := K) hw hv4 hi fun H5 l zs f6 el tl => ?_
    have t6 := (t4.fr f5).fr f6
    refine right_10_4 (K := K) hw el tl t6 fun H6 f7 => ?_
    have g7 := ((f4.trans f5).trans f6).trans f7
    refine right_10_5 (K := K) hw (k3.fr0 g7) fun H7 m hm7 f8 k8 => ?_
    refine right_10_6 (K := K) hw ((hv2.fr g7).fr f8) hi hm7 ((t6.fr f7).fr f8) fun H8 f9 => ?_
    exact ⟨_, _, _, _, rfl, k8.fr0 f9, ((f3.trans g7.of0).trans f8).trans f9.of0⟩
  · rintro σ H2 ⟨z7, z8, z11, z12, rfl, k3, f3⟩
    exact k H2 _ _ _ _ (g2.trans f3) k3
def spRight : Sp := fun vs H Q _ => ∃ (s d c : Addr) (v : V) (n : Nat) (ps : List Pr), vs = [.ref s, v] ∧ Stk s d c H ∧ OfWeb H v n ps ∧ ∀ H', Fr [s, d] H H' → Stk s d c H' → Q (.bl true) H'
theorem ok_right (F : FnP K "_law_is_right" s__law_is_right f fd) (g_tuple : mg "tuple" = none) (g_repr : mg "repr" = none) (g_int : mg "int" = none) (g_len : mg "len" = none) (g_sum : mg "sum" = none) (g_list : mg "list" = none) (g_range : mg "range" = none) {f__law_pairs : Addr} {fd__law_pairs : FuncData} (F__law_pairs : FnP K "_law_pairs" s__law_pairs f__law_pairs fd__law_pairs) (m__law_pairs : mg "_law_pairs" = some (.ref f__law_pairs)) {f_row_of : Addr} {fd_row_of : FuncData} (F_row_of : FnP K "row_of" s_row_of f_row_of fd_row_of) (m_row_of : mg "row_of" = some (.ref f_row_of)) {f_web_of : Addr} {fd_web_of : FuncData} (F_web_of : FnP K "web_of" s_web_of f_web_of fd_web_of) (m_web_of : mg "web_of" = some (.ref f_web_of)) {f__law_shuffled : Addr} {fd__law_shuffled : FuncData} (F__law_shuffled : FnP K "_law_shuffled" s__law_shuffled f__law_shuffled fd__law_shuffled) (m__law_shuffled : mg "_law_shuffled" = some (.ref f__law_shuffled)) {f__law_beside : Addr} {fd__law_beside : FuncData} (F__law_beside : FnP K "_law_beside" s__law_beside f__law_beside fd__law_beside) (m__law_beside : mg "_law_beside" = some (.ref f__law_beside)) {f__law_draw : Addr} {fd__law_draw : FuncData} (F__law_draw : FnP K "_law_draw" s__law_draw f__law_draw fd__law_draw) (m__law_draw : mg "_law_draw" = some (.ref f__law_draw)) {f_is_tied : Addr} {fd_is_tied : FuncData} (F_is_tied : FnP K "is_tied" s_is_tied f_is_tied fd_is_tied) (m_is_tied : mg "is_tied" = some (.ref f_is_tied)) {f_numbers : Addr} {fd_numbers : FuncData} (F_numbers : FnP K "numbers" s_numbers f_numbers fd_numbers) (m_numbers : mg "numbers" = some (.ref f_numbers)) {f_odd_places : Addr} {fd_odd_places : FuncData} (F_odd_places : FnP K "odd_places" s_odd_places f_odd_places fd_odd_places) (m_odd_places : mg "odd_places" = some (.ref f_odd_places)) {f_neighbours : Addr} {fd_neighbours : FuncData} (F_neighbours : FnP K "neighbours" s_neighbours f_neighbours fd_neighbours) (m_neighbours : mg "neighbours" = some (.ref f_neighbours)) (G__law_pairs : FnG P w K mg base CX0 1 f__law_pairs fd__law_pairs ["many"] spPairs) (G_row_of : FnG P w K mg base CX0 2 f_row_of fd_row_of ["web"] spRow)
    (G_web_of : FnG P w K mg base CX0 2 f_web_of fd_web_of ["many", "row"] spWebOf) (G__law_beside : FnG P w K mg base CX0 1 f__law_beside fd__law_beside ["web", "place"] spNb)
    (G_numbers : FnG P w K mg base CX0 4 f_numbers fd_numbers ["web"] spNums) (G_odd_places : FnG P w K mg base CX0 5 f_odd_places fd_odd_places ["web"] spOdd)
    (G__law_shuffled : FnG P w K mg base CX0 2 f__law_shuffled fd__law_shuffled ["stock", "row"] spShuf) (G__law_draw : FnG P w K mg base CX0 1 f__law_draw fd__law_draw ["stock", "size"] spDraw)
    (G_neighbours : FnG P w K mg base CX0 3 f_neighbours fd_neighbours ["web", "place"] spNb) (G_is_tied : FnG P w K mg base CX0 2 f_is_tied fd_is_tied ["web", "place", "mate"] spTied) : FnG P w K mg base CX0 6 f fd ["stock", "web"] spRight := by
  have b__law_pairs : Binds K fd__law_pairs ["many"] [] := F__law_pairs.bindsN fun _ _ _ _ _ _ us hl => match us, hl with | [_], _ => rfl
  have b_row_of : Binds K fd_row_of ["web"] [] := F_row_of.bindsN fun _ _ _ _ _ _ us hl => match us, hl with | [_], _ => rfl
  have b_web_of : Binds K fd_web_of ["many", "row"] [] := F_web_of.bindsN fun _ _ _ _ _ _ us hl => match us, hl with | [_, _], _ => rfl
  have b__law_beside : Binds K fd__law_beside ["web", "place"] [] := F__law_beside.bindsN fun _ _ _ _ _ _ us hl => match us, hl with | [_, _], _ => rfl
  have b_numbers : Binds K fd_numbers ["web"] [] := F_numbers.bindsN fun _ _ _ _ _ _ us hl => match us, hl with | [_], _ => rfl
  have b_odd_places : Binds K fd_odd_places ["web"] [] := F_odd_places.bindsN fun _ _ _ _ _ _ us hl => match us, hl with | [_], _ => rfl
  have b__law_shuffled : Binds K fd__law_shuffled ["stock", "row"] [] := F__law_shuffled.bindsN fun _ _ _ _ _ _ us hl => match us, hl with | [_, _], _ => rfl
  have b__law_draw : Binds K fd__law_draw ["stock", "size"] [] := F__law_draw.bindsN fun _ _ _ _ _ _ us hl => match us, hl with | [_, _], _ => rfl
  have b_neighbours : Binds K fd_neighbours ["web", "place"] [] := F_neighbours.bindsN fun _ _ _ _ _ _ us hl => match us, hl with | [_, _], _ => rfl
  have b_is_tied : Binds K fd_is_tied ["web", "place", "mate"] [] := F_is_tied.bindsN fun _ _ _ _ _ _ us hl => match us, hl with | [_, _, _], _ => rfl
  have n_row_of_web : NBinds K fd_row_of ["web"] ["web"] (fun ws => match ws with | [a0] => [a0] | _ => []) := nbinds F_row_of (fun _ _ _ _ _ _ ws hl => match ws, hl with | [a0], _ => rfl) (fun {zs ws} r => ?_)
  rotate_left
  · cases r with
    | nil => exact .nil
    | cons a t => cases t with
      | nil => exact .cons a .nil
      | cons _ _ => exact .nil
  have n_web_of_row_many : NBinds K fd_web_of ["many", "row"] ["row", "many"] (fun ws => match ws with | [a0, a1] => [a1, a0] | _ => []) := nbinds F_web_of (fun _ _ _ _ _ _ ws hl => match ws, hl with | [a0, a1], _ => rfl) (fun {zs ws} r => ?_)
  rotate_left
  · cases r with
    | nil => exact .nil
    | cons a t => cases t with
      | nil => exact .nil
      | cons b t => cases t with
        | nil => exact .cons b (.cons a .nil)
        | cons _ _ => exact .nil
  have n_numbers_web : NBinds K fd_numbers ["web"] ["web"] (fun ws => match ws with | [a0] => [a0] | _ => []) := nbinds F_numbers (fun _ _ _ _ _ _ ws hl => match ws, hl with | [a0], _ => rfl) (fun {zs ws} r => ?_)
  rotate_left
  · cases r with
    | nil => exact .nil
    | cons a t => cases t with
      | nil => exact .cons a .nil
      | cons _ _ => exact .nil
  have n_odd_places_web : NBinds K fd_odd_places ["web"] ["web"] (fun ws => match ws with | [a0] => [a0] | _ => []) := nbinds F_odd_places (fun _ _ _ _ _ _ ws hl => match ws, hl with | [a0], _ => rfl) (fun {zs ws} r => ?_)
  rotate_left
  · cases r with
    | nil => exact .nil
    | cons a t => cases t with
      | nil => exact .cons a .nil
      | cons _ _ => exact .nil
  have n_neighbours_place_web : NBinds K fd_neighbours ["web", "place"] ["place", "web"] (fun ws => match ws with | [a0, a1] => [a1, a0] | _ => []) := nbinds F_neighbours (fun _ _ _ _ _ _ ws hl => match ws, hl with | [a0, a1], _ => rfl) (fun {zs ws} r => ?_)
  rotate_left
  · cases r with
    | nil => exact .nil
    | cons a t => cases t with
      | nil => exact .nil
      | cons b t => cases t with
        | nil => exact .cons b (.cons a .nil)
        | cons _ _ => exact .nil
  have n_is_tied_mate_place_web : NBinds K fd_is_tied ["web", "place", "mate"] ["mate", "place", "web"] (fun ws => match ws with | [a0, a1, a2] => [a2, a1, a0] | _ => []) := nbinds F_is_tied (fun _ _ _ _ _ _ ws hl => match ws, hl with | [a0, a1, a2], _ => rfl) (fun {zs ws} r => ?_)
  rotate_left
  · cases r with
    | nil => exact .nil
    | cons a t => cases t with
      | nil => exact .nil
      | cons b t => cases t with
        | nil => exact .nil
        | cons e t => cases t with
          | nil => exact .cons e (.cons b (.cons a .nil))
          | cons _ _ => exact .nil
  refine okG0 F sc__law_is_right (fun vs H Q E h => ?_) (fun cdv A outer s0 H vs Q E hS hr h => ?_)
  · obtain ⟨_, _, _, _, _, _, rfl, _⟩ := h
    rfl
  · obtain ⟨s, d, c, v, n, ps, rfl, hk, ⟨hv, hw⟩, q⟩ := h
    refine ⟨rdS__law_is_right_1 K, (pss_cons (ps_asg (pv 1) (pg_tupK K (n := 2) (by rfl) (pgs_cons (pg_name (i := 2) sc__law_is_right.nd rfl (Or.inl rfl)) (pgs_cons (pg_name (i := 3) sc__law_is_right.nd rfl (Or.inr rfl)) pgs_nil))))
      (pss_cons (ps_par (i := 4) (j := 5) (by rfl) sc__law_is_right.nd rfl rfl (by decide) rfl rfl (pa_cons (pe_callG G__law_pairs hS (hr.mono (by decide)) (by rfl) m__law_pairs F__law_pairs.kp b__law_pairs .nil pass0 (pa_cons (pv 2) pa_nil)) (pa_cons (pe_callB (reprK K hS (hu80_of hr)) (by rfl) g_repr (by decide +kernel) (pa_cons (pv 1) pa_nil)) pa_nil)) (by rfl))
      (pss_cons (ps_set (i := 6) sc__law_is_right.nd rfl (Or.inl rfl) (pe_callTy (tupOfK K) (by rfl) g_tuple (by decide +kernel) (pa_cons (pe_lc (own := [("pair", 13)]) (g := (gName 13)) (tt := tYes) rfl sc__law_is_right.nd (pi_list (pv 4)) (blkOk_by (own := [("pair", 13)]) (N := N__law_is_right) (sc := defScope s__law_is_right) (by decide +kernel)) (fun _ _ _ _ _ => (pg_name (i := 13) sc__law_is_right.nd rfl (Or.inl rfl))) (fun _ _ _ _ _ => pts_nil) (fun _ _ _ _ _ => (pe_callTy call_int1 (by rfl) g_int (by decide +kernel) (pa_cons (pe_cmpR (memK K (hu80_of hr)) (pv 13) (pv 3) rfl) pa_nil)))) pa_nil)))
      (pss_cons (ps_set (i := 7) sc__law_is_right.nd rfl (Or.inl rfl) (pe_lst (pa_cons (pe_callG G_row_of hS (hr.mono (by decide)) (by rfl) m_row_of F_row_of.kp b_row_of .nil pass0 (pa_cons (pv 1) pa_nil)) (pa_cons (pe_callGN G_row_of hS (hr.mono (by decide)) (by rfl) m_row_of F_row_of.kp n_row_of_web pass0 (pk_cons (pv 1) pk_nil)) (pa_cons (pe_callG G_web_of hS (hr.mono (by decide)) (by rfl) m_web_of F_web_of.kp b_web_of .nil pass0 (pa_cons (pv 2) (pa_cons (pv 6) pa_nil))) (pa_cons (pe_callGN G_web_of hS (hr.mono (by decide)) (by rfl) m_web_of F_web_of.kp n_web_of_row_many pass0 (pk_cons (pv 6) (pk_cons (pv 2) pk_nil))) pa_nil))))))
      (pss_cons (ps_if (pt_cmpR op_ne (pe_callB (reprK K hS (hu80_of hr)) (by rfl) g_repr (by decide +kernel) (pa_cons (pv 7) pa_nil)) (pe_callB (reprK K hS (hu80_of hr)) (by rfl) g_repr (by decide +kernel) (pa_cons (pe_lst (pa_cons (pv 6) (pa_cons (pv 6) (pa_cons (pv 1) (pa_cons (pv 1) pa_nil))))) pa_nil)) (nomark _)) (pss_one (ps_ret pe_bl)) pss_nil)
      (pss_cons (ps_set (i := 9) sc__law_is_right.nd rfl (Or.inr rfl) (pe_callTy (tupOfK K) (by rfl) g_tuple (by decide +kernel) (pa_cons (pe_lc (own := [("place", 8)]) (g := (gName 8)) (tt := tYes) rfl sc__law_is_right.nd (pi_range1 rfl g_range (pa_cons (pv 2) pa_nil)) (blkOk_by (own := [("place", 8)]) (N := N__law_is_right) (sc := defScope s__law_is_right) (by decide +kernel)) (fun _ _ _ _ _ => (pg_name (i := 8) sc__law_is_right.nd rfl (Or.inl rfl))) (fun _ _ _ _ _ => pts_nil) (fun _ _ _ _ _ => (pe_callB (lenK K) (by rfl) g_len (by decide +kernel) (pa_cons (pe_callG G__law_beside hS (hr.mono (by decide)) (by rfl) m__law_beside F__law_beside.kp b__law_beside .nil pass0 (pa_cons (pv 1) (pa_cons (pv 8) pa_nil))) pa_nil)))) pa_nil)))
      (pss_cons (ps_if (PW.pt (pw_or (pt_cmpR op_ne (pe_callB (reprK K hS (hu80_of hr)) (by rfl) g_repr (by decide +kernel) (pa_cons (pe_lst (pa_cons (pe_callG G_numbers hS (hr.mono (by decide)) (by rfl) m_numbers F_numbers.kp b_numbers .nil pass0 (pa_cons (pv 1) pa_nil)) (pa_cons (pe_callGN G_numbers hS (hr.mono (by decide)) (by rfl) m_numbers F_numbers.kp n_numbers_web pass0 (pk_cons (pv 1) pk_nil)) pa_nil))) pa_nil)) (pe_callB (reprK K hS (hu80_of hr)) (by rfl) g_repr (by decide +kernel) (pa_cons (pe_lst (pa_cons (pv 9) (pa_cons (pv 9) pa_nil))) pa_nil)) (nomark _)) (pw_or1 (pt_cmpR op_ne (pe_callB (sumTK K rfl) (by rfl) g_sum (by decide +kernel) (pa_cons (pv 9) pa_nil)) (pe_op op_mul pe_int (pe_callB (lenK K) (by rfl) g_len (by decide +kernel) (pa_cons (pv 3) pa_nil))) (nomark _))))) (pss_one (ps_ret pe_bl)) pss_nil)
      (pss_cons (ps_set (i := 10) sc__law_is_right.nd rfl (Or.inl rfl) (pe_callTy (tupOfK K) (by rfl) g_tuple (by decide +kernel) (pa_cons (pe_lc (own := [("place", 8)]) (g := (gName 8)) rfl sc__law_is_right.nd (pi_range1 rfl g_range (pa_cons (pv 2) pa_nil)) (blkOk_by (own := [("place", 8)]) (N := N__law_is_right) (sc := defScope s__law_is_right) (by decide +kernel)) (fun _ _ _ _ _ => (pg_name (i := 8) sc__law_is_right.nd rfl (Or.inl rfl))) (fun _ _ _ _ _ => (pts_one (pt_cmpR op_eq (pe_op op_mod (pe_ix (ixT K) (pv 9) (pv 8) (fun _ _ => rfl)) pe_int) pe_int (nomark _)))) (fun _ _ _ _ _ => (pv 8))) pa_nil)))
      (pss_cons (ps_if (PW.pt (pw_or (pt_cmpR op_ne (pe_callB (reprK K hS (hu80_of hr)) (by rfl) g_repr (by decide +kernel) (pa_cons (pe_lst (pa_cons (pe_callG G_odd_places hS (hr.mono (by decide)) (by rfl) m_odd_places F_odd_places.kp b_odd_places .nil pass0 (pa_cons (pv 1) pa_nil)) (pa_cons (pe_callGN G_odd_places hS (hr.mono (by decide)) (by rfl) m_odd_places F_odd_places.kp n_odd_places_web pass0 (pk_cons (pv 1) pk_nil)) pa_nil))) pa_nil)) (pe_callB (reprK K hS (hu80_of hr)) (by rfl) g_repr (by decide +kernel) (pa_cons (pe_lst (pa_cons (pv 10) (pa_cons (pv 10) pa_nil))) pa_nil)) (nomark _)) (pw_or1 (pt_cmpR op_ne (pe_op op_mod (pe_callB (lenK K) (by rfl) g_len (by decide +kernel) (pa_cons (pv 10) pa_nil)) pe_int) pe_int (nomark _))))) (pss_one (ps_ret pe_bl)) pss_nil)
      (pss_cons (ps_for PassesOwn.never rfl (pi_list (pe_slice (slL K) (pe_callG G__law_shuffled hS (hr.mono (by decide)) (by rfl) m__law_shuffled F__law_shuffled.kp b__law_shuffled .nil pass0 (pa_cons (pv 0) (pa_cons (pe_listRg rfl (by rfl) g_list (prg_1 (by rfl) g_range (pv 2))) pa_nil))) po_none (po_some pe_int))) (pg_name (i := 8) sc__law_is_right.nd rfl (Or.inr rfl)) (pss_cons (ps_set (i := 11) sc__law_is_right.nd rfl (Or.inr rfl) (pe_callG G__law_beside hS (hr.mono (by decide)) (by rfl) m__law_beside F__law_beside.kp b__law_beside .nil pass0 (pa_cons (pv 1) (pa_cons (pv 8) pa_nil))))
      (pss_cons (ps_if (pt_cmpR op_ne (pe_callB (reprK K hS (hu80_of hr)) (by rfl) g_repr (by decide +kernel) (pa_cons (pe_lst (pa_cons (pe_callG G_neighbours hS (hr.mono (by decide)) (by rfl) m_neighbours F_neighbours.kp b_neighbours .nil pass0 (pa_cons (pv 1) (pa_cons (pv 8) pa_nil))) (pa_cons (pe_callGN G_neighbours hS (hr.mono (by decide)) (by rfl) m_neighbours F_neighbours.kp n_neighbours_place_web pass0 (pk_cons (pv 8) (pk_cons (pv 1) pk_nil))) pa_nil))) pa_nil)) (pe_callB (reprK K hS (hu80_of hr)) (by rfl) g_repr (by decide +kernel) (pa_cons (pe_lst (pa_cons (pv 11) (pa_cons (pv 11) pa_nil))) pa_nil)) (nomark _)) (pss_one (ps_ret pe_bl)) pss_nil)
      (pss_cons (ps_setLc (i := 7) (own := [("mate", 12)]) (g := (gName 12)) (tt := tYes) rfl sc__law_is_right.nd rfl rfl (sw_true rfl rfl rfl (by decide +kernel)) (pi_range1 rfl g_range (pa_cons (pv 2) pa_nil)) (blkOk_by (own := [("mate", 12)]) (N := N__law_is_right) (sc := defScope s__law_is_right) (by decide +kernel)) (fun _ _ _ _ _ => (pg_name (i := 12) sc__law_is_right.nd rfl (Or.inl rfl))) (fun _ _ _ _ _ => pts_nil) (fun _ _ _ _ _ => (pe_callG G_is_tied hS (hr.mono (by decide)) (by rfl) m_is_tied F_is_tied.kp b_is_tied .nil pass0 (pa_cons (pv 1) (pa_cons (pv 8) (pa_cons (pv 12) pa_nil))))))
      (pss_cons (ps_if (pt_cmpR op_ne (pe_callB (reprK K hS (hu80_of hr)) (by rfl) g_repr (by decide +kernel) (pa_cons (pv 7) pa_nil)) (pe_callB (reprK K hS (hu80_of hr)) (by rfl) g_repr (by decide +kernel) (pa_cons (pe_lc (own := [("mate", 12)]) (g := (gName 12)) (tt := tYes) rfl sc__law_is_right.nd (pi_range1 rfl g_range (pa_cons (pv 2) pa_nil)) (blkOk_by (own := [("mate", 12)]) (N := N__law_is_right) (sc := defScope s__law_is_right) (by decide +kernel)) (fun _ _ _ _ _ => (pg_name (i := 12) sc__law_is_right.nd rfl (Or.inl rfl))) (fun _ _ _ _ _ => pts_nil) (fun _ _ _ _ _ => (pe_cmpR (memK K (hu80_of hr)) (pv 12) (pv 11) rfl))) pa_nil)) (nomark _)) (pss_one (ps_ret pe_bl)) pss_nil)
      (pss_cons (ps_set (i := 12) sc__law_is_right.nd rfl (Or.inl rfl) (pe_callG G__law_draw hS (hr.mono (by decide)) (by rfl) m__law_draw F__law_draw.kp b__law_draw .nil pass0 (pa_cons (pv 0) (pa_cons (pv 2) pa_nil))))
      (pss_one (ps_if (pt_cmpR op_ne (pe_callB (reprK K hS (hu80_of hr)) (by rfl) g_repr (by decide +kernel) (pa_cons (pe_callGN G_is_tied hS (hr.mono (by decide)) (by rfl) m_is_tied F_is_tied.kp n_is_tied_mate_place_web pass0 (pk_cons (pv 12) (pk_cons (pv 8) (pk_cons (pv 1) pk_nil)))) pa_nil)) (pe_callB (reprK K hS (hu80_of hr)) (by rfl) g_repr (by decide +kernel) (pa_cons (pe_cmpR (memK K (hu80_of hr)) (pv 12) (pv 11) rfl) pa_nil)) (nomark _)) (pss_one (ps_ret pe_bl)) pss_nil))))))))
      (pss_one (ps_ret (pe_cmpR op_eq (pe_callB (reprK K hS (hu80_of hr)) (by rfl) g_repr (by decide +kernel) (pa_cons (pv 1) pa_nil)) (pv 5) (nomark _)))))))))))))), ?_⟩
    have hn := hw.hi
    obtain ⟨a, t, xs, rfl, ha, ht, hx⟩ := hv.web_inv
    refine ⟨_, rfl, a, _, rfl, SqT.of ha, rfl, _, _, rfl, _, _, rfl, rfl, ?_⟩
    -- every, known
    refine ⟨_, rfl, n, rfl, by omega, fun H1 e es f1 ne ee te => ⟨_, rfl, _, _, _, _, rfl, (hv.fr f1).dp, hw.sm, by decide, by decide, ⟨_, _, rfl, ?_⟩⟩⟩
    refine right_3 (K := K) hw (f1.tups _ _ ht) (hx.fr f1) ee te fun H2 r2 f2 t2 => ?_
    have g2 := f1.trans f2
    refine right_4 (K := K) hw (hv.fr g2) t2 fun H3 l zs f3 el tl => ?_
    have g3 := g2.trans f3
    refine right_5 (K := K) hw (hv.fr g3) (t2.fr f3) el tl fun H4 f4 => ?_
    have g4 := g3.trans f4
    refine right_6 (K := K) hw (hv.fr g4) fun H5 r5 f5 t5 => ?_
    have g5 := g4.trans f5
    refine right_7 (K := K) hw (hv.fr g5) (g5.tups _ _ ht) (hx.fr g5) t5 fun H6 f6 => ?_
    have g6 := g5.trans f6
    refine right_8 (K := K) hw (t5.fr f6) fun H7 r7 f7 t7 => ?_
    have g7 := g6.trans f7
    refine right_9 (K := K) hw (hv.fr g7) t7 fun H8 f8 => ?_
    have g8 := g7.trans f8
    refine right_10 (K := K) hw (hv.fr g8) (hk.fr0 g8) fun H9 y7 y8 y11 y12 f9 k9 => ?_
    exact right_11 (K := K) hw ((hv.fr g8).fr f9) (q H9 (g8.of0.trans f9) k9)
end
end Lt

set_option Elab.async false
set_option linter.all false
set_option maxRecDepth 100000
set_option maxHeartbeats 8000000
namespace Lt
open PySem PySem.Spec PyProof.Rows L2
section
variable {P : Program} {w : World} {K : PySem.W.Frag} {mg : Str → Option Value} {base : Heap} {f : Addr} {fd : FuncData}
variable {s d c : Addr} {n : Nat} {ps : List Pr} {D : Ends} {H : Hp} {v v5 v7 v8 : V} {t e : Addr} {r : List Nat}
def spLaw (K : PySem.W.Frag) : Sp := fun vs H Q _ => ∃ (a : Addr) (ns : List Int), vs = [.ref a] ∧ SqL K H a (ns.map V.int) ∧ ns.length ≤ 63 ∧ ∀ H', Q (.bl true) H'
def rd_law_1 (K : PySem.W.Frag) : TS := (tAsg (tCall (spStock K) [] E0 (tCons (tVar 0) tNil)) (gName 1))
def rd_law_2_1 (K : PySem.W.Frag) : TS := (tIfS (tNot (tB (tCall spRight [] E0 (tCons (tVar 1) (tCons (tCall spWeb [] E0 (tCons (tVar 1) (tCons (tC (.int 1)) (tCons (tOp (rIxL K) (tLst (tCons (tC (.int 12)) (tCons (tC (.int 7)) (tCons (tC (.int 5)) (tCons (tC (.int 12)) tNil))))) (tVar 2)) tNil)))) tNil))))) (tRet (tC (.bl false))) tNext)
def rdS_law_2_1 (K : PySem.W.Frag) : TS := rd_law_2_1 K
def rd_law_2 (K : PySem.W.Frag) : TS := tFor (iRng1 (tCons (tC (.int 4)) tNil)) (gName 2) (rdS_law_2_1 K)
def rd_law_3 (K : PySem.W.Frag) : TS := (tAsg (tOp rAddI (tC (.int 1)) (tCall spDraw [] E0 (tCons (tVar 1) (tCons (tC (.int 12)) tNil)))) (gName 3))
def rd_law_4 (K : PySem.W.Frag) : TS := (tAsg (tCall spPairs [] E0 (tCons (tVar 3) tNil)) (gName 4))
def rd_law_5 (K : PySem.W.Frag) : TS := (tAsg (tCB (rTupOf K) (tCons (tLc (iList K (tVar 4)) (gName 9) tYes (tCall spDraw [] E0 (tCons (tVar 1) (tCons (tC (.int 2)) tNil))) [9]) tNil)) (gName 5))
def rd_law_6 (K : PySem.W.Frag) : TS := (tPar 6 7 (tCons (tCB (rRepr K) (tCons (tVar 5) tNil)) (tCons (tCall spWebOf [] E0 (tCons (tVar 3) (tCons (tVar 5) tNil))) tNil)))
def rd_law_7 (K : PySem.W.Frag) : TS := (tAsg (tTup (tCons (tVar 3) (tCons (tCB (rTupOf K) (tCons (tLc (iRng1 (tCons (tCB (rLen K) (tCons (tVar 4) tNil)) tNil)) (gName 10) (tTest (tOp rEq (tOp (rIxT K) (tVar 5) (tVar 10)) (tC (.int 1)))) (tOp (rIxL K) (tVar 4) (tVar 10)) [10]) tNil)) tNil))) (gName 8))
def rd_law_8 (K : PySem.W.Frag) : TS := (tIfS (tOr (tTest (tOp rNe (tCB (rRepr K) (tCons (tVar 7) tNil)) (tCB (rRepr K) (tCons (tVar 8) tNil)))) (tOr (tTest (tOp rNe (tCB (rRepr K) (tCons (tCall spRow [] E0 (tCons (tVar 7) tNil)) tNil)) (tVar 6))) (tTest (tOp rNe (tCB (rRepr K) (tCons (tVar 5) tNil)) (tVar 6))))) (tRet (tC (.bl false))) tNext)
def rd_law_9 (K : PySem.W.Frag) : TS := (tRet (tOp rEq (tCB (rRepr K) (tCons (tLst (tCons (tCall spWebOf [] E0 (tCons (tC (.int 1)) (tCons (tTup tNil) tNil))) (tCons (tCall spRow [] E0 (tCons (tTup (tCons (tC (.int 1)) (tCons (tTup tNil) tNil))) tNil)) (tCons (tCall spWebOf [] E0 (tCons (tC (.int 2)) (tCons (tTup (tCons (tC (.int 1)) tNil)) tNil))) tNil)))) tNil)) (tCB (rRepr K) (tCons (tLst (tCons (tTup (tCons (tC (.int 1)) (tCons (tTup tNil) tNil))) (tCons (tTup tNil) (tCons (tTup (tCons (tC (.int 2)) (tCons (tTup (tCons (tTup (tCons (tC (.int 0)) (tCons (tC (.int 1)) tNil))) tNil)) tNil))) tNil)))) tNil))))
def rdS_law_9 (K : PySem.W.Frag) : TS := rd_law_9 K
def rdS_law_8 (K : PySem.W.Frag) : TS := tSeq (rd_law_8 K) (rdS_law_9 K)
def rdS_law_7 (K : PySem.W.Frag) : TS := tSeq (rd_law_7 K) (rdS_law_8 K)
def rdS_law_6 (K : PySem.W.Frag) : TS := tSeq (rd_law_6 K) (rdS_law_7 K)
def rdS_law_5 (K : PySem.W.Frag) : TS := tSeq (rd_law_5 K) (rdS_law_6 K)
def rdS_law_4 (K : PySem.W.Frag) : TS := tSeq (rd_law_4 K) (rdS_law_5 K)
def rdS_law_3 (K : PySem.W.Frag) : TS := tSeq (rd_law_3 K) (rdS_law_4 K)
def rdS_law_2 (K : PySem.W.Frag) : TS := tSeq (rd_law_2 K) (rdS_law_3 K)
def rdS_law_1 (K : PySem.W.Frag) : TS := tSeq (rd_law_1 K) (rdS_law_2 K)
theorem webOk_nil {n : Nat} (h1 : 1 ≤ n) (h2 : n ≤ 12) : WebOk n [] := ⟨h1, h2, List.Pairwise.nil, fun p m => absurd m List.not_mem_nil⟩
theorem least_at : ∀ i : Nat, i < 4 → ∃ m : Nat, ([.int 12, .int 7, .int 5, .int 12] : List V)[i]? = some (.int m) ∧ 1 ≤ m ∧ m ≤ 12
  | 0, _ => ⟨12, rfl, by decide, by decide⟩
  | 1, _ => ⟨7, rfl, by decide, by decide⟩
  | 2, _ => ⟨5, rfl, by decide, by decide⟩
  | 3, _ => ⟨12, rfl, by decide, by decide⟩
  | _ + 4, h => absurd h (by omega)
/-- a turn -/
theorem law_2_1 {y0 : Option V} {T : List (Option V)} {i : Nat} (hi : i < 4) (hk : Stk s d c H)
    (k : ∀ H', Stk s d c H' → D.nx (y0 :: some (.ref s) :: some (.int i) :: T) H') : rd_law_2_1 K D (y0 :: some (.ref s) :: some (.int i) :: T) H := by
  obtain ⟨m, em, m1, m2⟩ := least_at i hi
  refine ⟨_, rfl, _, rfl, szl (Nat.le_of_ble_eq_true rfl), fun l hl => ?_⟩
  refine ⟨_, rfl, l, _, i, _, rfl, rfl, SqL.of upd_same, atI_nat em, ?_⟩
  refine ⟨s, d, c, 1, m, rfl, hk.add hk hl, by decide, m1, m2, fun H1 r n ps _ _ ok f1 k1 tr => ?_⟩
  exact ⟨s, d, c, r, n, ps, rfl, k1, ⟨tr, ok⟩, fun H2 f2 k2 => ⟨_, rfl, iteF (k H2 k2)⟩⟩
/-- many = 1 + _law_draw(stock, 12) -/
theorem law_3 {y0 y2 y3 : Option V} {T : List (Option V)} (hk : Stk s d c H)
    (k : ∀ H' (n : Nat), 1 ≤ n → n ≤ 12 → Stk s d c H' → D.nx (y0 :: some (.ref s) :: y2 :: some (.int n) :: T) H') : rd_law_3 K D (y0 :: some (.ref s) :: y2 :: y3 :: T) H := by
  refine ⟨_, rfl, s, d, c, 12, rfl, hk, by decide, by decide, fun H1 r hr k1 f1 => ⟨_, _, rfl, rfl, ?_⟩⟩
  have e : (1 : Int) + (r : Int) = ((1 + r : Nat) : Int) := by omega
  have := k H1 (1 + r) (by omega) (by omega) k1
  rw [← e] at this
  exact this
/-- every = _law_pairs(many) -/
theorem law_4 {y0 y1 y2 y4 : Option V} {T : List (Option V)} (hn : n ≤ 12)
    (k : ∀ H' e es, Fr [] H H' → H e = none → H' e = some (.lst es) → Tps H' es (dPs (pairsOf n)) → D.nx (y0 :: y1 :: y2 :: some (.int n) :: some (.ref e) :: T) H') : rd_law_4 K D (y0 :: y1 :: y2 :: some (.int n) :: y4 :: T) H :=
  ⟨_, rfl, n, rfl, by omega, fun H1 e es f1 ne ee te => k H1 e es f1 ne ee te⟩
abbrev RowM (i : Nat) (ds : List PyData) : Prop := ∃ r : List Nat, ds = dNs r ∧ r.length = i ∧ ∀ k ∈ r, k ≤ 1
/-- row = tuple([_law_draw(stock, 2) for pair in every]) -/
theorem law_5 {y0 y2 y3 y5 y6 y7 y8 y9 y10 : Option V} {es : List V} (h0 : Stk s d c H) (hn : n ≤ 12) (off : e ∉ [s, d]) (he : H e = some (.lst es)) (te : Tps H es (dPs (pairsOf n)))
    (k : ∀ H' v r, Fr [s, d] H H' → Tp H' v (.tuple (dNs r)) → r.length = (pairsOf n).length → (∀ k ∈ r, k ≤ 1) → D.nx [y0, some (.ref s), y2, y3, some (.ref e), some v, y6, y7, y8, y9, y10] H') :
    rd_law_5 K D [y0, some (.ref s), y2, y3, some (.ref e), y5, y6, y7, y8, y9, y10] H := by
  have hl := pairsOf_len12 n hn
  refine ⟨_, rfl, e, rfl, ⟨_, SqL.of he⟩, fun D1 hD1 => ?_⟩
  obtain ⟨a1, a2, a3⟩ := h0.apart hD1
  have C : LcC [s, d] (Stk s d c) H D1 := ⟨hD1, off_of h0 hD1, fun H o j => j.far a1 a2 a3⟩
  refine lcl (M := RowM) C (SqL.of he) off h0 ⟨[], rfl, rfl, fun _ m => absurd m List.not_mem_nil⟩ ?_ ?_
  · intro i x H2 zs ds ex L
    obtain ⟨pr, ep, tx⟩ := te.pr_at ex
    have hi : i < 100 := by
      have := (List.getElem?_eq_some_iff.mp ep).1
      omega
    obtain ⟨r0, e0, l0, b0⟩ := L.m
    refine ⟨rfl, tyes ⟨_, rfl, s, d, c, 2, rfl, L.j, by decide, by decide, fun H5 r5 hr5 k5 f5 => L.put C (d := dN r5) (by omega) f5 k5 (.int _) ⟨r0 ++ [r5], ?_, ?_, ?_⟩⟩⟩
    · rw [e0, dNs, dNs, List.map_append]
      rfl
    · rw [List.length_append, l0]
      rfl
    · intro q m
      rcases List.mem_append.mp m with m | m
      · exact b0 q m
      · rw [List.mem_singleton.mp m]
        omega
  · intro H2 zs ds L
    obtain ⟨r0, e0, l0, b0⟩ := L.m
    refine ⟨D1, zs, rfl, .inl ⟨SqL.of L.at_, fun l hl2 => ?_⟩⟩
    have td := L.dat
    rw [e0] at td
    have fa : Fr [s, d] H2 (upd H2 l (.tup zs)) := Fr.new hl2
    exact k _ _ r0 (L.fr.trans fa) (.tup upd_same (td.fr fa)) (by rw [l0, te.len]) b0
/-- known, web = repr(row), web_of(many, row) -/
theorem law_6 {y0 y1 y2 y4 y6 y7 : Option V} {T : List (Option V)} (hn : n ≤ 12) (h5 : Tp H v5 (.tuple (dNs r))) (hl : r.length = (pairsOf n).length) (hb : ∀ k ∈ r, k ≤ 1)
    (k : ∀ H' v, Fr [] H H' → Tp H' v (dW n (selOf n r)) → D.nx (y0 :: y1 :: y2 :: some (.int n) :: y4 :: some v5 :: some (.str (txt (.tuple (dNs r)))) :: some v :: T) H') :
    rd_law_6 K D (y0 :: y1 :: y2 :: some (.int n) :: y4 :: some v5 :: y6 :: y7 :: T) H := by
  have h12 := pairsOf_len12 n hn
  have sm : Sm 3 60000 (.tuple (dNs r)) := smN (fun i m => by have := hb i m; omega) (by omega)
  exact ⟨_, rfl, _, _, _, _, rfl, h5.dp, sm, by decide, by decide, _, rfl, _, rfl, n, v5, r, rfl, hn, h5, hl, fun H1 v f1 t1 => ⟨_, _, rfl, k H1 v f1 t1⟩⟩
/-- due = (many, tuple([every[at] for at in range(len(every)) if row[at] == 1])) -/
theorem law_7 {y0 y1 y2 y6 y7 y8 y9 y10 : Option V} {es : List V} (hn : n ≤ 12) (he : H e = some (.lst es)) (te : Tps H es (dPs (pairsOf n))) (h5 : Tp H v5 (.tuple (dNs r))) (hl : r.length = (pairsOf n).length)
    (k : ∀ H' v, Fr [] H H' → Tp H' v (dW n (selOf n r)) → D.nx [y0, y1, y2, some (.int n), some (.ref e), some v5, y6, y7, some v, y9, y10] H') :
    rd_law_7 K D [y0, y1, y2, some (.int n), some (.ref e), some v5, y6, y7, y8, y9, y10] H := by
  have h12 := pairsOf_len12 n hn
  obtain ⟨b, ws, rfl, eb, tb⟩ := h5.tup_inv
  have lw : ws.length = (pairsOf n).length := by rw [tb.length, List.length_map, hl]
  have le := te.len
  refine ⟨_, rfl, _, rfl, e, es, rfl, .inl (SqL.of he), (es.length : Nat), rfl, by omega, by omega, fun D1 hD1 => ?_⟩
  have C : LcC [] (fun _ => True) H D1 := ⟨hD1, List.not_mem_nil, fun _ _ h => h⟩
  refine lcr (M := fun k ds => ds = made ((pairsOf n).zip r) selF dP k) C trivial rfl ?_ ?_
  · intro i H2 zs ds hi L
    have hi : i < es.length := hi
    obtain ⟨pr, ep, tx⟩ := te.pr_at (List.getElem?_eq_getElem hi)
    have hi2 : i < ws.length := by omega
    obtain ⟨q, ek, eq⟩ := tb.nat_at (List.getElem?_eq_getElem hi2)
    have ew : ws[i]? = some (.int (q : Nat)) := by rw [List.getElem?_eq_getElem hi2, eq]
    have ez := zip_at ep ek
    refine ⟨rfl, ?_⟩
    rw [Int.zero_add]
    refine ⟨_, rfl, _, rfl, b, _, i, _, rfl, rfl, SqT.of (L.fr.tups _ _ eb), atI_nat ew, rfl, _, rfl, ite2 (fun c => ?_) (fun c => ?_)⟩
    · refine ⟨_, rfl, _, rfl, e, _, i, _, rfl, rfl, SqL.of (L.fr.keep _ _ he List.not_mem_nil), atI_nat (List.getElem?_eq_getElem hi), ?_⟩
      exact L.put C (d := dP pr) (by omega) Fr.refl trivial (tx.fr L.fr) (by rw [L.m]; exact (made_some ez (by show (if q = 1 then some pr else none) = _; rw [if_pos]; rw [dec_int] at c; simp at c; omega)).symm)
    · exact L.skip C Fr.refl trivial (by rw [L.m]; exact (made_none ez (by show (if q = 1 then some pr else none) = _; rw [if_neg]; rw [dec_int] at c; simp at c; omega)).symm)
  · intro H2 zs ds L
    refine ⟨D1, zs, rfl, .inl ⟨SqL.of L.at_, fun l hl3 => ⟨szl (Nat.le_of_ble_eq_true rfl), fun p2 hp2 => ?_⟩⟩⟩
    have em := L.m
    rw [made_all (by rw [List.length_zip]; omega)] at em
    have td := L.dat
    rw [em] at td
    have fa : Fr [] H2 (upd (upd H2 l (.tup zs)) p2 (.tup [.int n, .ref l])) := (Fr.new hl3).add hp2
    exact k _ _ (L.fr.trans fa) (Tp.web upd_same (at_add upd_same hp2) (td.fr fa))
/-- if repr(web) != repr(due) or repr(row_of(web)) != known or repr(row) != known -/
theorem law_8 {y0 y1 y2 y3 y4 : Option V} {T : List (Option V)} (h1 : 1 ≤ n) (hn : n ≤ 12) (h5 : Tp H v5 (.tuple (dNs r))) (hl : r.length = (pairsOf n).length) (hb : ∀ k ∈ r, k ≤ 1) (h7 : Tp H v7 (dW n (selOf n r))) (h8 : Tp H v8 (dW n (selOf n r)))
    (k : ∀ H', D.nx (y0 :: y1 :: y2 :: y3 :: y4 :: some v5 :: some (.str (txt (.tuple (dNs r)))) :: some v7 :: some v8 :: T) H') :
    rd_law_8 K D (y0 :: y1 :: y2 :: y3 :: y4 :: some v5 :: some (.str (txt (.tuple (dNs r)))) :: some v7 :: some v8 :: T) H := by
  have h12 := pairsOf_len12 n hn
  have ok := sel_ok r h1 hn
  have sm : Sm 3 60000 (.tuple (dNs r)) := smN (fun i m => by have := hb i m; omega) (by omega)
  refine ⟨_, rfl, _, _, _, _, rfl, h7.dp, ok.sm, by decide, by decide, _, rfl, _, _, _, _, rfl, h8.dp, ok.sm, by decide, by decide, rfl, _, rfl, noT rfl ?_⟩
  refine ⟨_, rfl, v7, n, _, rfl, ⟨h7, ok⟩, fun H1 r1 f1 t1 => ?_⟩
  rw [row_sel hl hb] at t1
  refine ⟨_, _, _, _, rfl, t1.dp, sm, by decide, by decide, _, rfl, rfl, _, rfl, noT rfl ?_⟩
  exact ⟨_, rfl, _, _, _, _, rfl, (h5.fr f1).dp, sm, by decide, by decide, _, rfl, rfl, _, rfl, noT rfl (k H1)⟩
/-- return repr([web_of(1, ()), row_of((1, ())), web_of(2, (1,))]) == repr([(1, ()), (), (2, ((0, 1),))]) -/
theorem law_9 {T : Slots} (k : ∀ H', D.rt (.bl true) H') : rd_law_9 K D T H := by
  have w1 := webOk_nil (n := 1) (by decide) (by decide)
  have w2 : WebOk 2 [(0, 1)] := ⟨by decide, by decide, by simp, fun p m => by rw [List.mem_singleton.mp m]; exact mem_pairsOf.mpr ⟨by decide, by decide⟩⟩
  have e1 : selOf 1 [] = [] := by decide
  have e2 : rowOf 1 [] = [] := by decide
  have e3 : selOf 2 [1] = [(0, 1)] := by decide
  refine ⟨szl (Nat.zero_le _), fun p0 h0 => ?_⟩
  have f0 : Fr [] H (upd H p0 (.tup [])) := Fr.new h0
  have t0 : Tp (upd H p0 (.tup [])) (.ref p0) (.tuple (dNs [])) := .tup upd_same .nil
  refine ⟨1, .ref p0, [], rfl, by decide, t0, by decide, fun H1 r1 f1 t1 => ?_⟩
  rw [e1] at t1
  refine ⟨szl (Nat.zero_le _), fun p2 h2 => ⟨szl (Nat.le_of_ble_eq_true rfl), fun p3 h3 => ?_⟩⟩
  have f3 : Fr [] H1 (upd (upd H1 p2 (.tup [])) p3 (.tup [.int 1, .ref p2])) := (Fr.new h2).add h3
  have t3 : Tp (upd (upd H1 p2 (.tup [])) p3 (.tup [.int 1, .ref p2])) (.ref p3) (dW 1 []) := Tp.web upd_same (at_add upd_same h3) .nil
  refine ⟨.ref p3, 1, [], rfl, ⟨t3, w1⟩, fun H2 r2 f2 t2 => ?_⟩
  rw [e2] at t2
  refine ⟨szl (Nat.le_of_ble_eq_true rfl), fun p4 h4 => ?_⟩
  have f4 : Fr [] H2 (upd H2 p4 (.tup [.int 1])) := Fr.new h4
  have t4 : Tp (upd H2 p4 (.tup [.int 1])) (.ref p4) (.tuple (dNs [1])) := .tup upd_same (.cons (.int _) .nil)
  refine ⟨2, .ref p4, [1], rfl, by decide, t4, by decide, fun H5 r3 f5 t5 => ?_⟩
  rw [e3] at t5
  have g2 := f4.trans f5
  have g1 := (f3.trans f2).trans g2
  refine ⟨szl (Nat.le_of_ble_eq_true rfl), fun l hl => ?_⟩
  have fl : Fr [] H5 (upd H5 l (.lst [r1, r2, r3])) := Fr.new hl
  have tl : Tps (upd H5 l (.lst [r1, r2, r3])) [r1, r2, r3] [dW 1 [], .tuple (dNs []), dW 2 [(0, 1)]] := .cons ((t1.fr g1).fr fl) (.cons ((t2.fr g2).fr fl) (.cons (t5.fr fl) .nil))
  have sm : Sm 4 (8 * 60001) (.list [dW 1 [], .tuple (dNs []), dW 2 [(0, 1)]]) := smL (by
    intro x m
    simp only [List.mem_cons, List.not_mem_nil, or_false] at m
    rcases m with rfl | rfl | rfl
    · exact w1.sm
    · exact smN (is := []) (fun _ m => absurd m List.not_mem_nil) (Nat.zero_le _)
    · exact w2.sm) (Nat.le_of_ble_eq_true rfl)
  refine ⟨_, _, _, _, rfl, .lst (SqL.of upd_same) tl.dp, sm, by decide, by decide, ?_⟩
  generalize upd H5 l (.lst [r1, r2, r3]) = H6
  -- the right side
  refine ⟨szl (Nat.zero_le _), fun q0 i0 => ⟨szl (Nat.le_of_ble_eq_true rfl), fun q1 i1 => ?_⟩⟩
  have u1 : Tp (upd (upd H6 q0 (.tup [])) q1 (.tup [.int 1, .ref q0])) (.ref q1) (dW 1 []) := Tp.web upd_same (at_add upd_same i1) .nil
  revert u1
  generalize upd (upd H6 q0 (.tup [])) q1 (.tup [.int 1, .ref q0]) = H7
  intro u1
  refine ⟨szl (Nat.zero_le _), fun q2 i2 => ?_⟩
  have x2 : Fr [] H7 (upd H7 q2 (.tup [])) := Fr.new i2
  have u2 : Tp (upd H7 q2 (.tup [])) (.ref q2) (.tuple (dNs [])) := .tup upd_same .nil
  revert x2 u2
  generalize upd H7 q2 (.tup []) = H8
  intro x2 u2
  refine ⟨szl (Nat.le_of_ble_eq_true rfl), fun q3 i3 => ⟨szl (Nat.le_of_ble_eq_true rfl), fun q4 i4 => ⟨szl (Nat.le_of_ble_eq_true rfl), fun q5 i5 => ?_⟩⟩⟩
  have x3 : Fr [] H8 (upd (upd (upd H8 q3 (.tup [.int 0, .int 1])) q4 (.tup [.ref q3])) q5 (.tup [.int 2, .ref q4])) := ((Fr.new i3).add i4).add i5
  have u3 : Tp (upd (upd (upd H8 q3 (.tup [.int 0, .int 1])) q4 (.tup [.ref q3])) q5 (.tup [.int 2, .ref q4])) (.ref q5) (dW 2 [(0, 1)]) :=
    Tp.web (xs := [.ref q3]) upd_same (at_add upd_same i5) (.cons (Tp.pr (p := (0, 1)) (at_add (at_add upd_same i4) i5)) .nil)
  revert x3 u3
  generalize upd (upd (upd H8 q3 (.tup [.int 0, .int 1])) q4 (.tup [.ref q3])) q5 (.tup [.int 2, .ref q4]) = H9
  intro x3 u3
  refine ⟨szl (Nat.le_of_ble_eq_true rfl), fun m hm => ?_⟩
  have fm : Fr [] H9 (upd H9 m (.lst [.ref q1, .ref q2, .ref q5])) := Fr.new hm
  have tm : Tps (upd H9 m (.lst [.ref q1, .ref q2, .ref q5])) [.ref q1, .ref q2, .ref q5] [dW 1 [], .tuple (dNs []), dW 2 [(0, 1)]] := .cons (((u1.fr x2).fr x3).fr fm) (.cons ((u2.fr x3).fr fm) (.cons (u3.fr fm) .nil))
  refine ⟨_, _, _, _, rfl, .lst (SqL.of upd_same) tm.dp, sm, by decide, by decide, rfl, ?_⟩
  rw [decide_eq_true rfl]
  exact k _
end
end Lt

set_option Elab.async false
set_option linter.all false
set_option maxRecDepth 100000
set_option maxHeartbeats 8000000
namespace Lt
open PySem PySem.Spec PyProof.Rows L2
section
variable {P : Program} {w : World} {K : PySem.W.Frag} {mg : Str → Option Value} {base : Heap} {f : Addr} {fd : FuncData}
theorem ok_law (F : FnP K "law" s_law f fd) (g_range : mg "range" = none) (g_tuple : mg "tuple" = none) (g_repr : mg "repr" = none) (g_len : mg "len" = none) {f__law_stock : Addr} {fd__law_stock : FuncData} (F__law_stock : FnP K "_law_stock" s__law_stock f__law_stock fd__law_stock) (m__law_stock : mg "_law_stock" = some (.ref f__law_stock)) {f__law_pairs : Addr} {fd__law_pairs : FuncData} (F__law_pairs : FnP K "_law_pairs" s__law_pairs f__law_pairs fd__law_pairs) (m__law_pairs : mg "_law_pairs" = some (.ref f__law_pairs)) {f__law_draw : Addr} {fd__law_draw : FuncData} (F__law_draw : FnP K "_law_draw" s__law_draw f__law_draw fd__law_draw) (m__law_draw : mg "_law_draw" = some (.ref f__law_draw)) {f_web_of : Addr} {fd_web_of : FuncData} (F_web_of : FnP K "web_of" s_web_of f_web_of fd_web_of) (m_web_of : mg "web_of" = some (.ref f_web_of)) {f__law_is_right : Addr} {fd__law_is_right : FuncData} (F__law_is_right : FnP K "_law_is_right" s__law_is_right f__law_is_right fd__law_is_right) (m__law_is_right : mg "_law_is_right" = some (.ref f__law_is_right)) {f__law_web : Addr} {fd__law_web : FuncData} (F__law_web : FnP K "_law_web" s__law_web f__law_web fd__law_web) (m__law_web : mg "_law_web" = some (.ref f__law_web)) {f_row_of : Addr} {fd_row_of : FuncData} (F_row_of : FnP K "row_of" s_row_of f_row_of fd_row_of) (m_row_of : mg "row_of" = some (.ref f_row_of)) (G__law_stock : FnG P w K mg base CX0 1 f__law_stock fd__law_stock ["script"] (spStock K)) (G__law_web : FnG P w K mg base CX0 3 f__law_web fd__law_web ["stock", "least", "most"] spWeb)
    (G__law_is_right : FnG P w K mg base CX0 6 f__law_is_right fd__law_is_right ["stock", "web"] spRight) (G__law_draw : FnG P w K mg base CX0 1 f__law_draw fd__law_draw ["stock", "size"] spDraw) (G__law_pairs : FnG P w K mg base CX0 1 f__law_pairs fd__law_pairs ["many"] spPairs)
    (G_web_of : FnG P w K mg base CX0 2 f_web_of fd_web_of ["many", "row"] spWebOf) (G_row_of : FnG P w K mg base CX0 2 f_row_of fd_row_of ["web"] spRow) :
    FnG P w K mg base CX0 7 f fd ["script"] (spLaw K) := by
  have b__law_stock : Binds K fd__law_stock ["script"] [] := F__law_stock.bindsN fun _ _ _ _ _ _ us hl => match us, hl with | [_], _ => rfl
  have b__law_web : Binds K fd__law_web ["stock", "least", "most"] [] := F__law_web.bindsN fun _ _ _ _ _ _ us hl => match us, hl with | [_, _, _], _ => rfl
  have b__law_is_right : Binds K fd__law_is_right ["stock", "web"] [] := F__law_is_right.bindsN fun _ _ _ _ _ _ us hl => match us, hl with | [_, _], _ => rfl
  have b__law_draw : Binds K fd__law_draw ["stock", "size"] [] := F__law_draw.bindsN fun _ _ _ _ _ _ us hl => match us, hl with | [_, _], _ => rfl
  have b__law_pairs : Binds K fd__law_pairs ["many"] [] := F__law_pairs.bindsN fun _ _ _ _ _ _ us hl => match us, hl with | [_], _ => rfl
  have b_web_of : Binds K fd_web_of ["many", "row"] [] := F_web_of.bindsN fun _ _ _ _ _ _ us hl => match us, hl with | [_, _], _ => rfl
  have b_row_of : Binds K fd_row_of ["web"] [] := F_row_of.bindsN fun _ _ _ _ _ _ us hl => match us, hl with | [_], _ => rfl
  refine okG0 F sc_law (fun vs H Q E h => ?_) (fun cdv A outer s0 H vs Q E hS hr h => ?_)
  · obtain ⟨_, _, rfl, _⟩ := h
    rfl
  · obtain ⟨a, ns, rfl, ha, hl, q⟩ := h
    refine ⟨rdS_law_1 K, (pss_cons (ps_set (i := 1) sc_law.nd rfl (Or.inr rfl) (pe_callG G__law_stock hS (hr.mono (by decide)) (by rfl) m__law_stock F__law_stock.kp b__law_stock .nil pass0 (pa_cons (pv 0) pa_nil)))
      (pss_cons (ps_for PassesOwn.never rfl (pi_range1 rfl g_range (pa_cons pe_int pa_nil)) (pg_name (i := 2) sc_law.nd rfl (Or.inl rfl)) (pss_one (ps_if (pt_not (pt_val (pe_callG G__law_is_right hS (hr.mono (by decide)) (by rfl) m__law_is_right F__law_is_right.kp b__law_is_right .nil pass0 (pa_cons (pv 1) (pa_cons (pe_callG G__law_web hS (hr.mono (by decide)) (by rfl) m__law_web F__law_web.kp b__law_web .nil pass0 (pa_cons (pv 1) (pa_cons pe_int (pa_cons (pe_ix (ixL K) (pe_lst (pa_cons pe_int (pa_cons pe_int (pa_cons pe_int (pa_cons pe_int pa_nil))))) (pv 2) (fun _ _ => rfl)) pa_nil)))) pa_nil))))) (pss_one (ps_ret pe_bl)) pss_nil)))
      (pss_cons (ps_set (i := 3) sc_law.nd rfl (Or.inl rfl) (pe_op op_add pe_int (pe_callG G__law_draw hS (hr.mono (by decide)) (by rfl) m__law_draw F__law_draw.kp b__law_draw .nil pass0 (pa_cons (pv 1) (pa_cons pe_int pa_nil)))))
      (pss_cons (ps_set (i := 4) sc_law.nd rfl (Or.inr rfl) (pe_callG G__law_pairs hS (hr.mono (by decide)) (by rfl) m__law_pairs F__law_pairs.kp b__law_pairs .nil pass0 (pa_cons (pv 3) pa_nil)))
      (pss_cons (ps_set (i := 5) sc_law.nd rfl (Or.inr rfl) (pe_callTy (tupOfK K) (by rfl) g_tuple (by decide +kernel) (pa_cons (pe_lc (own := [("pair", 9)]) (g := (gName 9)) (tt := tYes) rfl sc_law.nd (pi_list (pv 4)) (blkOk_by (own := [("pair", 9)]) (N := N_law) (sc := defScope s_law) (by decide +kernel)) (fun _ _ _ _ _ => (pg_name (i := 9) sc_law.nd rfl (Or.inl rfl))) (fun _ _ _ _ _ => pts_nil) (fun _ _ _ _ _ => (pe_callG G__law_draw hS (hr.mono (by decide)) (by rfl) m__law_draw F__law_draw.kp b__law_draw .nil pass0 (pa_cons (pv 1) (pa_cons pe_int pa_nil))))) pa_nil)))
      (pss_cons (ps_par (i := 6) (j := 7) (by rfl) sc_law.nd rfl rfl (by decide) rfl rfl (pa_cons (pe_callB (reprK K hS (hu80_of hr)) (by rfl) g_repr (by decide +kernel) (pa_cons (pv 5) pa_nil)) (pa_cons (pe_callG G_web_of hS (hr.mono (by decide)) (by rfl) m_web_of F_web_of.kp b_web_of .nil pass0 (pa_cons (pv 3) (pa_cons (pv 5) pa_nil))) pa_nil)) (by rfl))
      (pss_cons (ps_set (i := 8) sc_law.nd rfl (Or.inl rfl) (pe_tup (pa_cons (pv 3) (pa_cons (pe_callTy (tupOfK K) (by rfl) g_tuple (by decide +kernel) (pa_cons (pe_lc (own := [("at", 10)]) (g := (gName 10)) rfl sc_law.nd (pi_range1 rfl g_range (pa_cons (pe_callB (lenK K) (by rfl) g_len (by decide +kernel) (pa_cons (pv 4) pa_nil)) pa_nil)) (blkOk_by (own := [("at", 10)]) (N := N_law) (sc := defScope s_law) (by decide +kernel)) (fun _ _ _ _ _ => (pg_name (i := 10) sc_law.nd rfl (Or.inl rfl))) (fun _ _ _ _ _ => (pts_one (pt_cmpR op_eq (pe_ix (ixT K) (pv 5) (pv 10) (fun _ _ => rfl)) pe_int (nomark _)))) (fun _ _ _ _ _ => (pe_ix (ixL K) (pv 4) (pv 10) (fun _ _ => rfl)))) pa_nil)) pa_nil))))
      (pss_cons (ps_if (PW.pt (pw_or (pt_cmpR op_ne (pe_callB (reprK K hS (hu80_of hr)) (by rfl) g_repr (by decide +kernel) (pa_cons (pv 7) pa_nil)) (pe_callB (reprK K hS (hu80_of hr)) (by rfl) g_repr (by decide +kernel) (pa_cons (pv 8) pa_nil)) (nomark _)) (pw_or (pt_cmpR op_ne (pe_callB (reprK K hS (hu80_of hr)) (by rfl) g_repr (by decide +kernel) (pa_cons (pe_callG G_row_of hS (hr.mono (by decide)) (by rfl) m_row_of F_row_of.kp b_row_of .nil pass0 (pa_cons (pv 7) pa_nil)) pa_nil)) (pv 6) (nomark _)) (pw_or1 (pt_cmpR op_ne (pe_callB (reprK K hS (hu80_of hr)) (by rfl) g_repr (by decide +kernel) (pa_cons (pv 5) pa_nil)) (pv 6) (nomark _)))))) (pss_one (ps_ret pe_bl)) pss_nil)
      (pss_one (ps_ret (pe_cmpR op_eq (pe_callB (reprK K hS (hu80_of hr)) (by rfl) g_repr (by decide +kernel) (pa_cons (pe_lst (pa_cons (pe_callG G_web_of hS (hr.mono (by decide)) (by rfl) m_web_of F_web_of.kp b_web_of .nil pass0 (pa_cons pe_int (pa_cons (pe_tup pa_nil) pa_nil))) (pa_cons (pe_callG G_row_of hS (hr.mono (by decide)) (by rfl) m_row_of F_row_of.kp b_row_of .nil pass0 (pa_cons (pe_tup (pa_cons pe_int (pa_cons (pe_tup pa_nil) pa_nil))) pa_nil)) (pa_cons (pe_callG G_web_of hS (hr.mono (by decide)) (by rfl) m_web_of F_web_of.kp b_web_of .nil pass0 (pa_cons pe_int (pa_cons (pe_tup (pa_cons pe_int pa_nil)) pa_nil))) pa_nil)))) pa_nil)) (pe_callB (reprK K hS (hu80_of hr)) (by rfl) g_repr (by decide +kernel) (pa_cons (pe_lst (pa_cons (pe_tup (pa_cons pe_int (pa_cons (pe_tup pa_nil) pa_nil))) (pa_cons (pe_tup pa_nil) (pa_cons (pe_tup (pa_cons pe_int (pa_cons (pe_tup (pa_cons (pe_tup (pa_cons pe_int (pa_cons pe_int pa_nil))) pa_nil)) pa_nil))) pa_nil)))) pa_nil)) (nomark _)))))))))))), ?_⟩
    refine ⟨_, rfl, a, ns, rfl, ha, hl, fun H1 s d c f1 k1 => ?_⟩
    refine ⟨4, rfl, by decide, by decide, ?_⟩
    refine for_range (lo := 0) (n := 4) (fun i σ H' => ∃ y2, σ = [some (.ref a), some (.ref s), y2, none, none, none, none, none, none, none, none] ∧ Stk s d c H') ⟨none, rfl, k1⟩ ?_ ?_
    · rintro i σ H2 hi ⟨y2, rfl, k2⟩
      have hi : i < 4 := hi
      show rdS_law_2_1 K _ _ _
      rw [Int.zero_add]
      exact law_2_1 (K := K) hi k2 fun H3 k3 => ⟨_, rfl, k3⟩
    · rintro σ H2 ⟨y2, rfl, k2⟩
      refine law_3 (K := K) k2 fun H3 n h1 hn k3 => ?_
      refine law_4 (K := K) hn fun H4 e es f4 ne ee te => ?_
      have k4 := k3.fr0 f4
      refine law_5 (K := K) k4 hn (off_of k3 ne) ee te fun H5 v5 r f5 t5 hl5 hb => ?_
      have ee5 := f5.keep _ _ ee (off_of k3 ne)
      have te5 := te.fr f5
      refine law_6 (K := K) hn t5 hl5 hb fun H6 v7 f6 t7 => ?_
      refine law_7 (K := K) hn (f6.keep _ _ ee5 List.not_mem_nil) (te5.fr f6) (t5.fr f6) hl5 fun H7 v8 f7 t8 => ?_
      refine law_8 (K := K) h1 hn ((t5.fr f6).fr f7) hl5 hb (t7.fr f7) t8 fun H8 => ?_
      exact law_9 (K := K) fun H' => q H'
end
end Lt

set_option Elab.async false
set_option linter.all false
set_option maxRecDepth 100000
set_option maxHeartbeats 0
namespace Lt
open PySem PySem.Spec PyProof.Rows L2
def dd_pairs_of : He.DefD := ⟨("pairs_of", none), "pairs_of", "pairs_of", defArgs s_pairs_of, defBody s_pairs_of, defScope s_pairs_of, [], []⟩
def dd_in_order : He.DefD := ⟨("in_order", none), "in_order", "in_order", defArgs s_in_order, defBody s_in_order, defScope s_in_order, [], []⟩
def dd_row_of : He.DefD := ⟨("row_of", none), "row_of", "row_of", defArgs s_row_of, defBody s_row_of, defScope s_row_of, [], []⟩
def dd_web_of : He.DefD := ⟨("web_of", none), "web_of", "web_of", defArgs s_web_of, defBody s_web_of, defScope s_web_of, [], []⟩
def dd_is_tied : He.DefD := ⟨("is_tied", none), "is_tied", "is_tied", defArgs s_is_tied, defBody s_is_tied, defScope s_is_tied, [], []⟩
def dd_neighbours : He.DefD := ⟨("neighbours", none), "neighbours", "neighbours", defArgs s_neighbours, defBody s_neighbours, defScope s_neighbours, [], []⟩
def dd_numbers : He.DefD := ⟨("numbers", none), "numbers", "numbers", defArgs s_numbers, defBody s_numbers, defScope s_numbers, [], []⟩
def dd_odd_places : He.DefD := ⟨("odd_places", none), "odd_places", "odd_places", defArgs s_odd_places, defBody s_odd_places, defScope s_odd_places, [], []⟩
def dd__law_stock : He.DefD := ⟨("_law_stock", none), "_law_stock", "_law_stock", defArgs s__law_stock, defBody s__law_stock, defScope s__law_stock, [], []⟩
def dd__law_draw : He.DefD := ⟨("_law_draw", none), "_law_draw", "_law_draw", defArgs s__law_draw, defBody s__law_draw, defScope s__law_draw, [], []⟩
def dd__law_shuffled : He.DefD := ⟨("_law_shuffled", none), "_law_shuffled", "_law_shuffled", defArgs s__law_shuffled, defBody s__law_shuffled, defScope s__law_shuffled, [], []⟩
def dd__law_pairs : He.DefD := ⟨("_law_pairs", none), "_law_pairs", "_law_pairs", defArgs s__law_pairs, defBody s__law_pairs, defScope s__law_pairs, [], []⟩
def dd__law_named : He.DefD := ⟨("_law_named", none), "_law_named", "_law_named", defArgs s__law_named, defBody s__law_named, defScope s__law_named, [], []⟩
def dd__law_web : He.DefD := ⟨("_law_web", none), "_law_web", "_law_web", defArgs s__law_web, defBody s__law_web, defScope s__law_web, [], []⟩
def dd__law_beside : He.DefD := ⟨("_law_beside", none), "_law_beside", "_law_beside", defArgs s__law_beside, defBody s__law_beside, defScope s__law_beside, [], []⟩
def dd__law_is_right : He.DefD := ⟨("_law_is_right", none), "_law_is_right", "_law_is_right", defArgs s__law_is_right, defBody s__law_is_right, defScope s__law_is_right, [], []⟩
def dd_law : He.DefD := ⟨("law", none), "law", "law", defArgs s_law, defBody s_law, defScope s_law, [], []⟩
def fnL : List He.DefD := [dd_pairs_of, dd_in_order, dd_row_of, dd_web_of, dd_is_tied, dd_neighbours, dd_numbers, dd_odd_places, dd__law_stock, dd__law_draw, dd__law_shuffled, dd__law_pairs, dd__law_named, dd__law_web, dd__law_beside, dd__law_is_right, dd_law]
def faL : List He.Fa := [.glo "pairs_of", .glo "in_order", .glo "row_of", .glo "web_of", .glo "is_tied", .glo "neighbours", .glo "numbers", .glo "odd_places", .glo "_law_stock", .glo "_law_draw", .glo "_law_shuffled", .glo "_law_pairs", .glo "_law_named", .glo "_law_web", .glo "_law_beside", .glo "_law_is_right", .glo "law", .free "range", .free "min", .free "max", .free "tuple", .free "int", .free "zip", .free "len", .free "enumerate", .free "sum", .free "list", .free "sorted", .free "repr"]
abbrev RR : PySem.W.OpenRow := PySem.W.OpenLaw.row PySem.Challenge.rw_liftedties_k02_whole_rows_numbers_and_ne
abbrev hkL : PySem.W.Hook := He.hookD 4 faL fnL
def obL (s : PySem.W.SharedT) : He.AlD := He.obsDG 4 faL fnL (HandSHeadRun.getT s)
theorem obL_eq (s : PySem.W.SharedT) : obL s = hkL.obs s.abs := He.obsDG_eq (HandSHeadRun.getT_eq s)
theorem runL (w : World) : HandSHeadRun.RunEq RR (PySem.W.view RR.prog [18]) hkL obL 1200 ["pairs_of", "in_order", "row_of", "web_of", "is_tied", "neighbours", "numbers", "odd_places", "_law_stock", "_law_draw", "_law_shuffled", "_law_pairs", "_law_named", "_law_web", "_law_beside", "_law_is_right"] w := by
  intro os
  kernel_rfl
theorem factsL {P : Program} {w : World} {K : PySem.W.Frag} {h : Heap} {mg : Str → Option Value} {f : Addr} (X : K.In h) (G : h.Ns mainGlobals mg) (hfa : mg ("law" : Str) = some (.ref f)) (c : He.SaysD faL fnL K) :
    ∃ fd : FuncData, (∀ (s : Shared) (v : Value), BindsTo s fd ⟨[v], []⟩ [("script", v)]) ∧ ∀ base : Heap, K.In base → base.Ns mainGlobals mg → FnG P w K mg base CX0 7 f fd ["script"] (spLaw K) := by
  obtain ⟨fd_pairs_of, F_pairs_of⟩ := c.def_ 0 (d := dd_pairs_of) rfl
  obtain ⟨fd_in_order, F_in_order⟩ := c.def_ 1 (d := dd_in_order) rfl
  obtain ⟨fd_row_of, F_row_of⟩ := c.def_ 2 (d := dd_row_of) rfl
  obtain ⟨fd_web_of, F_web_of⟩ := c.def_ 3 (d := dd_web_of) rfl
  obtain ⟨fd_is_tied, F_is_tied⟩ := c.def_ 4 (d := dd_is_tied) rfl
  obtain ⟨fd_neighbours, F_neighbours⟩ := c.def_ 5 (d := dd_neighbours) rfl
  obtain ⟨fd_numbers, F_numbers⟩ := c.def_ 6 (d := dd_numbers) rfl
  obtain ⟨fd_odd_places, F_odd_places⟩ := c.def_ 7 (d := dd_odd_places) rfl
  obtain ⟨fd__law_stock, F__law_stock⟩ := c.def_ 8 (d := dd__law_stock) rfl
  obtain ⟨fd__law_draw, F__law_draw⟩ := c.def_ 9 (d := dd__law_draw) rfl
  obtain ⟨fd__law_shuffled, F__law_shuffled⟩ := c.def_ 10 (d := dd__law_shuffled) rfl
  obtain ⟨fd__law_pairs, F__law_pairs⟩ := c.def_ 11 (d := dd__law_pairs) rfl
  obtain ⟨fd__law_named, F__law_named⟩ := c.def_ 12 (d := dd__law_named) rfl
  obtain ⟨fd__law_web, F__law_web⟩ := c.def_ 13 (d := dd__law_web) rfl
  obtain ⟨fd__law_beside, F__law_beside⟩ := c.def_ 14 (d := dd__law_beside) rfl
  obtain ⟨fd__law_is_right, F__law_is_right⟩ := c.def_ 15 (d := dd__law_is_right) rfl
  obtain ⟨fd_law, F_law⟩ := c.def_ 16 (d := dd_law) rfl
  have e := hfa.symm.trans (He.glo_ok X G (c.fact 16 (f := .glo "law") rfl))
  cases e
  have b := FunD.bindsA (ps := ["script"]) F_law fun _ _ _ _ _ _ us hl => match us, hl with | [_], _ => rfl
  refine ⟨fd_law, fun s v => b s [v] rfl, fun base _ _ => ?_⟩
  have m_pairs_of := He.glo_ok X G (c.fact 0 (f := .glo "pairs_of") rfl)
  have m_in_order := He.glo_ok X G (c.fact 1 (f := .glo "in_order") rfl)
  have m_row_of := He.glo_ok X G (c.fact 2 (f := .glo "row_of") rfl)
  have m_web_of := He.glo_ok X G (c.fact 3 (f := .glo "web_of") rfl)
  have m_is_tied := He.glo_ok X G (c.fact 4 (f := .glo "is_tied") rfl)
  have m_neighbours := He.glo_ok X G (c.fact 5 (f := .glo "neighbours") rfl)
  have m_numbers := He.glo_ok X G (c.fact 6 (f := .glo "numbers") rfl)
  have m_odd_places := He.glo_ok X G (c.fact 7 (f := .glo "odd_places") rfl)
  have m__law_stock := He.glo_ok X G (c.fact 8 (f := .glo "_law_stock") rfl)
  have m__law_draw := He.glo_ok X G (c.fact 9 (f := .glo "_law_draw") rfl)
  have m__law_shuffled := He.glo_ok X G (c.fact 10 (f := .glo "_law_shuffled") rfl)
  have m__law_pairs := He.glo_ok X G (c.fact 11 (f := .glo "_law_pairs") rfl)
  have m__law_named := He.glo_ok X G (c.fact 12 (f := .glo "_law_named") rfl)
  have m__law_web := He.glo_ok X G (c.fact 13 (f := .glo "_law_web") rfl)
  have m__law_beside := He.glo_ok X G (c.fact 14 (f := .glo "_law_beside") rfl)
  have m__law_is_right := He.glo_ok X G (c.fact 15 (f := .glo "_law_is_right") rfl)
  have m_law := He.glo_ok X G (c.fact 16 (f := .glo "law") rfl)
  have g_range := He.free_ok X G (c.fact 17 (f := .free "range") rfl)
  have g_min := He.free_ok X G (c.fact 18 (f := .free "min") rfl)
  have g_max := He.free_ok X G (c.fact 19 (f := .free "max") rfl)
  have g_tuple := He.free_ok X G (c.fact 20 (f := .free "tuple") rfl)
  have g_int := He.free_ok X G (c.fact 21 (f := .free "int") rfl)
  have g_zip := He.free_ok X G (c.fact 22 (f := .free "zip") rfl)
  have g_len := He.free_ok X G (c.fact 23 (f := .free "len") rfl)
  have g_enumerate := He.free_ok X G (c.fact 24 (f := .free "enumerate") rfl)
  have g_sum := He.free_ok X G (c.fact 25 (f := .free "sum") rfl)
  have g_list := He.free_ok X G (c.fact 26 (f := .free "list") rfl)
  have g_sorted := He.free_ok X G (c.fact 27 (f := .free "sorted") rfl)
  have g_repr := He.free_ok X G (c.fact 28 (f := .free "repr") rfl)
  have G_pairs_of := ok_pairs_of (P := P) (w := w) (base := base) F_pairs_of g_range
  have G_in_order := ok_in_order (P := P) (w := w) (base := base) F_in_order g_min g_max
  have G_row_of := ok_row_of (P := P) (w := w) (base := base) F_row_of g_tuple g_int F_pairs_of m_pairs_of G_pairs_of
  have G_web_of := ok_web_of (P := P) (w := w) (base := base) F_web_of g_tuple g_zip F_pairs_of m_pairs_of G_pairs_of
  have G_is_tied := ok_is_tied (P := P) (w := w) (base := base) F_is_tied F_in_order m_in_order G_in_order
  have G_neighbours := ok_neighbours (P := P) (w := w) (base := base) F_neighbours g_tuple g_range F_is_tied m_is_tied G_is_tied
  have G_numbers := ok_numbers (P := P) (w := w) (base := base) F_numbers g_tuple g_len g_range F_neighbours m_neighbours G_neighbours
  have G_odd_places := ok_odd_places (P := P) (w := w) (base := base) F_odd_places g_tuple g_enumerate F_numbers m_numbers G_numbers
  have G__law_stock := ok_stock (P := P) (w := w) (base := base) F__law_stock g_sum g_len
  have G__law_draw := ok_draw (P := P) (w := w) (base := base) F__law_draw g_int g_len
  have G__law_shuffled := ok_shuffled (P := P) (w := w) (base := base) F__law_shuffled g_range g_list g_len F__law_draw m__law_draw G__law_draw
  have G__law_pairs := ok_law_pairs (P := P) (w := w) (base := base) F__law_pairs g_range
  have G__law_named := ok_named (P := P) (w := w) (base := base) F__law_named g_tuple g_sorted g_min g_max
  have G__law_web := ok_web (P := P) (w := w) (base := base) F__law_web g_list g_range g_int F__law_named m__law_named F__law_draw m__law_draw F__law_pairs m__law_pairs F__law_shuffled m__law_shuffled G__law_draw G__law_pairs G__law_named G__law_shuffled
  have G__law_beside := ok_beside (P := P) (w := w) (base := base) F__law_beside g_tuple g_sorted
  have G__law_is_right := ok_right (P := P) (w := w) (base := base) F__law_is_right g_tuple g_repr g_int g_len g_sum g_list g_range F__law_pairs m__law_pairs F_row_of m_row_of F_web_of m_web_of F__law_shuffled m__law_shuffled F__law_beside m__law_beside F__law_draw m__law_draw F_is_tied m_is_tied F_numbers m_numbers F_odd_places m_odd_places F_neighbours m_neighbours G__law_pairs G_row_of G_web_of G__law_beside G_numbers G_odd_places G__law_shuffled G__law_draw G_neighbours G_is_tied
  have G_law := ok_law (P := P) (w := w) (base := base) F_law g_range g_tuple g_repr g_len F__law_stock m__law_stock F__law_pairs m__law_pairs F__law_draw m__law_draw F_web_of m_web_of F__law_is_right m__law_is_right F__law_web m__law_web F_row_of m_row_of G__law_stock G__law_web G__law_is_right G__law_draw G__law_pairs G_web_of G_row_of
  exact G_law
end Lt
open PySem PySem.W PySem.Calls PyProof.Rows
theorem PySem.Challenge.cw_liftedties_k02_whole_rows_numbers_and_ne_holds : PySem.Challenge.rw_liftedties_k02_whole_rows_numbers_and_ne.Holds := by
  w_on; o_law
  refine HandSHeadRun.head_any (r := OpenLaw.row PySem.Challenge.rw_liftedties_k02_whole_rows_numbers_and_ne) (q := view (OpenLaw.row PySem.Challenge.rw_liftedties_k02_whole_rows_numbers_and_ne).prog [18]) (H := Lt.hkL) (ob := Lt.obL) (M := 1200) (loose := ["pairs_of", "in_order", "row_of", "web_of", "is_tied", "neighbours", "numbers", "odd_places", "_law_stock", "_law_draw", "_law_shuffled", "_law_pairs", "_law_named", "_law_web", "_law_beside", "_law_is_right"]) (d := HandSHeadRun.topDef (OpenLaw.row PySem.Challenge.rw_liftedties_k02_whole_rows_numbers_and_ne).prog 18) (kwd := []) Lt.obL_eq
    (by kernel_rfl) (fun s => by kernel_rfl) Lt.runL (by kernel_rfl) (by kernel_rfl) (by kernel_rfl) (by rfl) (by first | assumption | decide +kernel) (by decide +kernel) ⟨rfl, rfl, rfl, rfl, rfl, by decide +kernel⟩ ?hw ?hc
  case hw => w_witness2
  case hc =>
    refine Lt.walk_ofG (l := PySem.Challenge.rw_liftedties_k02_whole_rows_numbers_and_ne) (n := 63) (k := 7) (x := "script") rfl (by decide) (by kernel_rfl) ⟨rfl, by decide, by decide⟩ ?F
    intro w mg fa h Y G hmg0
    obtain ⟨K, KX, c⟩ := Y
    have hmg : mg ("law" : PySem.Str) = some (.ref fa) := by
      have e : (HandSHeadRun.topDef (OpenLaw.row PySem.Challenge.rw_liftedties_k02_whole_rows_numbers_and_ne).prog 18).name = ("law" : PySem.Str) := by kernel_rfl
      rw [← e]
      exact hmg0
    obtain ⟨fd, hb, hF⟩ := Lt.factsL (P := (PySem.Challenge.rw_liftedties_k02_whole_rows_numbers_and_ne).prog) (w := w) KX G hmg c
    exact ⟨K, fd, Lt.spLaw K, KX, hb, fun H a ns hl hS => ⟨a, ns, rfl, hS, hl, fun _ => rfl⟩, hF⟩

