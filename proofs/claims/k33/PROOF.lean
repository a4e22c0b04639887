import PyProof.Rows.All
import Wide.All
import OpenK.AllK
import Wide.FinOn
import HandS.Base
import HandS.Call
import HandS.List
import HandS.Comp
import HandS.Ends
import HandS.Words
import HandS.WordsList
import HandS.IsInst
import HandS.Conv
import HandS.StrMore
import HandS.WideBits
import HandS.Wide
import HandS.Iter
import HandS.Text
import HandS.Dict
import HandS.Evl
import HandS.Style
import HandS.RaiseMore
import HandS.WordsDict
import HandS.Exc
import HandS.ExcOwn
import HandS.ExcInit
import HandS.ExcField
import HandS.ExcIs
import HandS.TryMany
import HandS.HotCalls
import HandS.SetFor
import HandS.WordsExc
import KE.KExcIs
import PyProof.Rows.StrIntSpec
import PyProof.FString3
import PyProof.Rows.StrPadFill
import HandS.IntHex
import HandS.FStr
import KE.KIntText
import KE.IntTextLaws
import HandS.Defaults
import HandS.Walk
import KE.KStateDown
import HandS.Head0
import HandS.Head1
import HandS.Head2
import HandS.HeadHook1
import HandS.HeadHook2
import HandS.HeadNt
import KE.KExcInit
import HandS.ExcBuiltin
import HandS.ExcValue
import HandS.Deep
import KE.GoesEnum
import PyProof.Rows.SortStr
import HandS.ClsMeth
import HandS.Property
import HandS.MakeKw
import HandS.MakeKwOnly
import HandS.NamedTupGet
import KE.KFmtOwn
import HandS.OwnEq
import HandS.Star
import HandS.Lambda
import KE.DataEq
import KE.KNest
import HandS.EndTab
import HandS.TupMul
import PySem.Challenge.RW_coverstore_k33_orders_and_equal_queries
set_option Elab.async false
set_option maxRecDepth 100000
set_option maxHeartbeats 4000000
/-! My layer beside HandS: defs below which no repr is under way (guards known), repr of data. -/
namespace Gx
open PySem PySem.Spec PyProof.Rows L2
section
variable (P : Program) (w : World) (K : PySem.W.Frag) (mg : Str → Option Value) (base : Heap)
/-- as FnOk, where it is known that no repr is under way at the call -/
structure GOk (CX : CXT) (k : Nat) (f : Addr) (fd : FuncData) (ps : List Str) (sp : Sp) : Prop where
  many : ∀ {vs H Q E}, sp vs H Q E → vs.length = ps.length
  go : ∀ {A : Around} {outer : List Env} {s : Shared} {H : Hp} {args : Args} {us : List Value} {vs : List V} {Q : VK} {E : XK},
    A.guards = some [] → Room k A → Env0 P w K mg base A outer s H → BindsTo s fd args (ps.zip us) → Vals vs us → sp vs H Q E →
    codeAny (model P w) A (.call (.ref f) args) (CR CX outer P w H s Q E) s
end
section
variable {P : Program} {w : World} {K : PySem.W.Frag} {mg : Str → Option Value} {base : Heap} {CX : CXT} {j k : Nat} {f : Addr} {fd : FuncData} {ps : List Str} {sp : Sp}
theorem GOk.of (F : FnOk P w K mg base CX k f fd ps sp) : GOk P w K mg base CX k f fd ps sp :=
  ⟨fun {vs H Q E} z => F.len vs H Q E z, fun {A outer s H args us vs Q E} _ r e b v z => F.run A outer s H args us vs Q E r e b v z⟩
/-- a def by its body -/
theorem gok_body {x qual : Str} {st : Stmt} {N : List Str} (F : Fun K x qual st f fd) (S : FnScope N ps (defScope st)) (hm : ∀ {vs H Q E}, sp vs H Q E → vs.length = ps.length)
    (body : ∀ (cdv : Value) (A : Around) (outer : List Env) (s : Shared) (H : Hp) (vs : List V) (Q : VK) (E : XK), A.guards = some [] →
      Room k (A.deeper (envOfC qual (defScope st) s.heap.objs.size f cdv)) → sp vs H Q E →
      ∃ t, PSs (cxOf CX P w K mg base N qual (defScope st) f cdv A outer s H E) (defBody st) t ∧ t { nx := fun _ H' => Q .non H', rt := Q } (start N vs) H) :
    GOk P w K mg base CX (k + 1) f fd ps sp := by
  obtain ⟨oc, od, kV, doc, pm, an, cdv, ct, osl, rfl, lk, hcd⟩ := F.ex
  refine ⟨hm, fun {A outer s H args us vs Q E} hgd hr e0 hb r hsp => ?_⟩
  have up : ∀ b o, base.get? b = some o → s.heap.get? b = some o := fun b o e => (e0.bs b o e).1
  have inK : K.In s.heap := e0.mod.kin.keeps up
  have nl : s.heap.NoLimit := e0.mod.nolimit.keeps up
  refine codeAny_call_function hr.depth (inK _ _ lk) rfl S.co S.gen rfl (PySem.W.codeRec_of inK hcd) (hb _ _ _ _ ?_)
  refine wpAny_newFunctionEnv_cells S.kind (fun y hy => (S.par y.1 (List.of_mem_zip hy).1).imp id fun z => ⟨z, PySem.W.cellsFrom_some _ _ _ (.inl z)⟩) fun env he s1 new => ?_
  cases he
  obtain ⟨t, ht, q⟩ := body cdv A outer s H vs Q E hgd (hr.deeper _) hsp
  have I := inv_start (CX := CX) (P := P) (w := w) (K := K) (mg := mg) (base := base) (E := E) S hr.hd e0 (hm hsp) r new
  refine ⟨nl.keeps new.toInCall.keep, codeAny_func (wpAny_mono (ht.run [] s1 _ H _ I q) (fun fl s' z => ?_) fun _ _ z => z)⟩
  cases fl with
  | next => exact let ⟨_, H', J, z⟩ := z; ⟨V.non, H', J.os, J.bare, J.base, J.hok, rfl, z⟩
  | ret u => exact let ⟨v, _, H', J, rv, z⟩ := z; ⟨v, H', J.os, J.bare, J.base, J.hok, rv, z⟩
  | brk => exact False.elim (let ⟨_, _, _, z⟩ := z; z)
  | cont => exact False.elim (let ⟨_, _, _, z⟩ := z; z)
end
section
variable {X : Cx} {CX : CXT} {k : Nat} {f : Addr} {fd : FuncData} {ps : List Str} {sp : Sp} {dvs : List V} {ds : List Value} {E : XK} {x : Str} {p pos : Pos} {e : Expr} {es : List Expr} {t : TA}
/-- a call of such a def by its name -/
theorem pe_gcall (F : GOk X.prog X.w X.K X.mg X.base CX k f fd ps sp) (hgd : X.A.guards = some []) (hr : Room k X.A) (hg : Gl X x) (hm : X.mg x = some (.ref f)) (hk : PySem.W.keepIn X.K (.ref f) = true) (hb : Binds X.K fd ps ds)
    (hd : Vals dvs ds) (hx : Passes CX X E) (ha : PA X (e :: es) t) (n0 : (x == ("__debug__" : Str)) = false := by decide)
    (n1 : starEach (e :: es) X.env = (false, eval e X.env) :: starEach es X.env := by rfl) (n2 : (backTo pos (starEach es X.env)).any (·.1) = false := by rfl) :
    PE X (.Call (.Name x p) (e :: es) [] pos) (tCall sp dvs E t) := by
  constructor
  intro pins s σ H Q I h
  refine wpAny_Call_Name_kw (ld_glob I hg hm ?_ n0)
  refine PySem.W.callWith_K (h₀ := X.base) I.ok.mod.kin hk (thn (ha.run pos pins s σ H _ I h) fun us s1 ⟨vs, H1, I1, r, q⟩ => ⟨I1.kIn, ?_⟩) n1 n2
  have rr := r.append hd
  have many : (us ++ ds).length = ps.length := (Paired.length rr).symm.trans (F.many q)
  refine wpAny_call (codeAny_mono (F.go hgd hr I1.env0 (hb s1 us I1.kIn many) rr q) fun res s' z => ?_)
  cases res with
  | error er => exact hx pins σ H1 s1 er s' I1 z
  | ok fl =>
    cases fl with
    | ret u => exact I1.after z
    | next => exact False.elim z
    | brk => exact False.elim z
    | cont => exact False.elim z
end
/-! ### what a value shows -/
mutual
/-- as Dp, with empty dicts -/
inductive Dq (K : PySem.W.Frag) (H : Hp) : V → PyData → Prop
  | non : Dq K H .non .none
  | bl (b : Bool) : Dq K H (.bl b) (.bool b)
  | int (i : Int) : Dq K H (.int i) (.int i)
  | str (x : Str) : Dq K H (.str x) (.str x)
  | lst {a : Addr} {xs : List V} {ds : List PyData} : SqL K H a xs → DqAll K H xs ds → Dq K H (.ref a) (.list ds)
  | tup {a : Addr} {xs : List V} {ds : List PyData} : SqT K H a xs → DqAll K H xs ds → Dq K H (.ref a) (.tuple ds)
  | nil {a : Addr} : H a = some (.dK []) → Dq K H (.ref a) (.dict [])
inductive DqAll (K : PySem.W.Frag) (H : Hp) : List V → List PyData → Prop
  | nil : DqAll K H [] []
  | cons {v : V} {vs : List V} {d : PyData} {ds : List PyData} : Dq K H v d → DqAll K H vs ds → DqAll K H (v :: vs) (d :: ds)
end
end Gx
namespace Gx
open PySem PySem.Spec PyProof.Rows L2
section
variable {X : Cx} {pins : List (Addr × Obj)} {σ : L2.St} {H : Hp} {s : Shared}
theorem nil_reads {a : Addr} (I : Inv X pins σ H s) (e : H a = some (.dK [])) : Reads s.heap (.ref a) (.dict []) [a] := by
  obtain ⟨_, _, vs, kv, o, es, ep, ho, ex, hd, _, hp, _⟩ := I.hok _ _ e
  cases kv
  have e0 : es = #[] := by
    have e1 : es.toList = [] := by
      cases q : es.toList with
      | nil => rfl
      | cons y r =>
        rw [q] at hp
        exact absurd hp (by intro z; cases z)
    simpa using e1
  subst e0
  exact .dict (as := []) (bs := []) ho ex.1 hd .nil .nil
mutual
theorem Dq.reads (I : Inv X pins σ H s) : ∀ (d : PyData) (v : V) (u : Value), Dq X.K H v d → RelV v u → ∃ as, Reads s.heap u d as
  | .none, _, _, h, r => by
    cases h; cases r
    exact ⟨_, .none⟩
  | .bool b, _, _, h, r => by
    cases h; cases r
    exact ⟨_, .bool b⟩
  | .int i, _, _, h, r => by
    cases h
    obtain ⟨t, rfl⟩ := r
    exact ⟨_, .int i t⟩
  | .str x, _, _, h, r => by
    cases h
    obtain ⟨t, rfl⟩ := r
    exact ⟨_, .str x t⟩
  | .list ds, _, _, h, r => by
    cases h with
    | lst hs ha =>
      cases r
      obtain ⟨its, rv, ⟨o, n, ho, hc, _, hd⟩, _⟩ := I.list hs
      obtain ⟨as, q⟩ := DqAll.reads I ds _ its ha rv
      exact ⟨_, .list ho hc hd q⟩
  | .tuple ds, _, _, h, r => by
    cases h with
    | tup hs ha =>
      cases r
      obtain ⟨its, rv, ⟨o, ho, hc, n, hd⟩, _⟩ := I.tuple hs
      obtain ⟨as, q⟩ := DqAll.reads I ds _ its ha rv
      exact ⟨_, .tuple ho hc hd q⟩
  | .dict kvs, _, _, h, r => by
    cases h with
    | nil e =>
      cases r
      exact ⟨_, nil_reads I e⟩
theorem DqAll.reads (I : Inv X pins σ H s) : ∀ (ds : List PyData) (vs : List V) (us : List Value), DqAll X.K H vs ds → Vals vs us → ∃ as, ReadsAll s.heap us ds as
  | [], _, _, h, r => by
    cases h; cases r
    exact ⟨_, .nil⟩
  | d :: ds, _, _, h, r => by
    cases h with
    | cons h1 h2 =>
      cases r with
      | cons r1 r2 =>
        obtain ⟨as, q1⟩ := Dq.reads I d _ _ h1 r1
        obtain ⟨bs, q2⟩ := DqAll.reads I ds _ _ h2 r2
        exact ⟨_, .cons q1 q2⟩
end
end
/-- repr(x) of data -/
def rRepr (K : PySem.W.Frag) : List V → Hp → VK → Prop := fun xs H Q => ∃ x d, xs = [x] ∧ Dq K H x d ∧ d.showable = true ∧ (d.hasDict = true → d = .dict []) ∧ d.depth ≤ 30 ∧ d.shown.length ≤ sizeLine ∧ Q (.str d.shown) H
theorem call_repr {X : Cx} (hgd : X.A.guards = some []) (hu : X.A.units + 64 < cLine) : CallR X (.builtin "repr") (rRepr X.K) := by
  intro pins s σ H xs us Q I r h
  obtain ⟨x, d, rfl, hd, hs, hdict, hdep, hsz, q⟩ := h
  obtain ⟨u, rfl, rx⟩ := vals1 r
  obtain ⟨as, rd⟩ := Dq.reads I d x u hd rx
  have fin : ∀ h' (u : Tok) tk, (∀ b o, s.heap.get? b = some o → h'.get? b = some o) → EP X pins σ Q (.str d.shown u) { s with heap := h', toks := tk } :=
    fun h' u tk k => ⟨.str d.shown, H, I.kept k, ⟨u, rfl⟩, q⟩
  have big : ∀ a, u = .ref a → wpAny (model X.prog X.w) X.A (call (.builtin "repr") [u]) (EP X pins σ Q) X.xe s := fun a e => by
    subst e
    by_cases z : d.hasDict = true
    · have e0 := hdict z
      subst e0
      cases hd with
      | nil e =>
        obtain ⟨_, nm, _⟩ := I.hok _ _ e
        cases rx
        exact repr_of_reads' (nil_reads I e) hs (fun _ y => by
          rw [← List.mem_singleton.mp y] at nm
          simp at nm) hgd (by omega) (fun _ _ e => e) fin hsz
    · exact repr_of_reads' rd hs (fun y => absurd y z) hgd (by omega) (fun _ _ e => e) fin hsz
  cases hd with
  | non => cases rx; exact P.repr_of_none (by simpa only [PyData.shown] using fin s.heap _ _ fun _ _ e => e)
  | bl b => cases rx; exact P.repr_of_bool (by simpa only [PyData.shown] using fin s.heap _ _ fun _ _ e => e)
  | int i =>
    obtain ⟨t, rfl⟩ := rx
    exact P.repr_of_int (by simpa [PyData.showable] using hs) (by simpa only [PyData.shown] using fin s.heap _ _ fun _ _ e => e)
  | str y =>
    obtain ⟨t, rfl⟩ := rx
    exact P.repr_of_str (by simpa only [PyData.shown] using fin s.heap _ _ fun _ _ e => e) (by simpa only [PyData.shown] using hsz)
  | lst _ _ => exact big _ rx
  | tup _ _ => exact big _ rx
  | nil _ => exact big _ rx
end Gx
namespace Gx
open PySem PySem.Spec PyProof.Rows L2
/-! ### the module's defs and constants -/
def DefAt (K : PySem.W.Frag) (mg : Str → Option Value) (x : Str) (st : Stmt) : Prop := ∃ f fd, mg x = some (.ref f) ∧ Fun K x x st f fd
def KnownAt (mg : Str → Option Value) (x : Str) (v : V) : Prop := ∃ u, mg x = some u ∧ RelV v u
/-- positional arguments, all of them -/
def PosB (x : Str) (st : Stmt) (ps : List Str) : Prop := ∀ (kV doc pm : Value) (an : Option Addr) (cdv ct : Value) (us : List Value), us.length = ps.length →
  bindArgs (PySem.W.fnOf x x (defArgs st) (defBody st) (defScope st) .none kV doc pm an cdv ct) ⟨us, []⟩ = pure (ps.zip us)
/-- keywords alone, all of them, named ks; g puts their values in the parameters' order -/
structure KwB (x : Str) (st : Stmt) (ps ks : List Str) (g : {α : Type} → List α → List α) : Prop where
  to : ∀ (kV doc pm : Value) (an : Option Addr) (cdv ct : Value) (ws : List Value), ws.length = ks.length →
    bindArgs (PySem.W.fnOf x x (defArgs st) (defBody st) (defScope st) .none kV doc pm an cdv ct) ⟨[], ks.zip ws⟩ = pure (ps.zip (g ws))
  rel : ∀ {vs : List V} {us : List Value}, Vals vs us → Vals (g vs) (g us)
section
variable (P : Program) (w : World) (K : PySem.W.Frag) (mg : Str → Option Value) (base : Heap)
structure Pr (CX : CXT) (k : Nat) (x : Str) (st : Stmt) (ps : List Str) (sp : Sp) : Prop where
  ex : ∃ f fd, mg x = some (.ref f) ∧ Fun K x x st f fd ∧ FnOk P w K mg base CX k f fd ps sp
structure PrG (CX : CXT) (k : Nat) (x : Str) (st : Stmt) (ps : List Str) (sp : Sp) : Prop where
  ex : ∃ f fd, mg x = some (.ref f) ∧ Fun K x x st f fd ∧ GOk P w K mg base CX k f fd ps sp
end
section
variable {P : Program} {w : World} {K : PySem.W.Frag} {mg : Str → Option Value} {base : Heap} {k : Nat} {x : Str} {st : Stmt} {ps N : List Str} {sp : Sp}
/-- a def that lets nothing out, by its body -/
theorem DefAt.ok (D : DefAt K mg x st) (S : FnScope N ps (defScope st)) (len : ∀ vs H Q E, sp vs H Q E → vs.length = ps.length)
    (body : ∀ (f : Addr) (cdv : Value) (A : Around) (outer : List Env) (s : Shared) (H : Hp) (vs : List V) (Q : VK) (E : XK), Room k (A.deeper (envOfC x (defScope st) s.heap.objs.size f cdv)) → sp vs H Q E →
      ∃ t, PSs (cxOf CX0 P w K mg base N x (defScope st) f cdv A outer s H E).nox (defBody st) t ∧ t { nx := fun _ H' => Q .non H', rt := Q } (start N vs) H) : Pr P w K mg base CX0 (k + 1) x st ps sp := by
  obtain ⟨f, fd, m, F⟩ := D
  exact ⟨f, fd, m, F, F.ok S len fun cdv A outer s H vs Q E => body f cdv A outer s H vs Q E⟩
/-- the same where it is known that no repr is under way -/
theorem DefAt.okG (D : DefAt K mg x st) (S : FnScope N ps (defScope st)) (len : ∀ vs H Q E, sp vs H Q E → vs.length = ps.length)
    (body : ∀ (f : Addr) (cdv : Value) (A : Around) (outer : List Env) (s : Shared) (H : Hp) (vs : List V) (Q : VK) (E : XK), A.guards = some [] → Room k (A.deeper (envOfC x (defScope st) s.heap.objs.size f cdv)) → sp vs H Q E →
      ∃ t, PSs (cxOf CX0 P w K mg base N x (defScope st) f cdv A outer s H E).nox (defBody st) t ∧ t { nx := fun _ H' => Q .non H', rt := Q } (start N vs) H) : PrG P w K mg base CX0 (k + 1) x st ps sp := by
  obtain ⟨f, fd, m, F⟩ := D
  refine ⟨f, fd, m, F, gok_body F S (fun {vs H Q E} z => len vs H Q E z) fun cdv A outer s H vs Q E hg hr z => ?_⟩
  obtain ⟨t, h, q⟩ := body f cdv A outer s H vs Q E hg hr z
  exact ⟨t, h.nox, q⟩
theorem Pr.g {CX : CXT} (F : Pr P w K mg base CX k x st ps sp) : PrG P w K mg base CX k x st ps sp := by
  obtain ⟨f, fd, m, Z, F⟩ := F.ex
  exact ⟨f, fd, m, Z, .of F⟩
end
section
variable {X : Cx} {CX : CXT} {j k : Nat} {st : Stmt} {ps ks : List Str} {sp : Sp} {E : XK} {x : Str} {v : V} {p pos : Pos} {e : Expr} {es : List Expr} {kws : List Keyword} {t tk : TA} {g : {α : Type} → List α → List α}
theorem pe_k (hg : Gl X x) (h : KnownAt X.mg x v) (hd : (x == ("__debug__" : Str)) = false := by decide) : PE X (.Name x pos) (tC v) :=
  let ⟨_, m, r⟩ := h
  pe_glob hg m r hd
theorem pe_pos (F : Pr X.prog X.w X.K X.mg X.base CX k x st ps sp) (hr : Room j X.A) (hk : k ≤ j) (hg : Gl X x) (hb : PosB x st ps) (hx : Passes CX X E) (ha : PA X (e :: es) t) (n0 : (x == ("__debug__" : Str)) = false := by decide)
    (n1 : starEach (e :: es) X.env = (false, eval e X.env) :: starEach es X.env := by rfl) (n2 : (backTo pos (starEach es X.env)).any (·.1) = false := by rfl) : PE X (.Call (.Name x p) (e :: es) [] pos) (tCall sp [] E t) := by
  obtain ⟨f, fd, m, Z, F⟩ := F.ex
  exact pe_call F (hr.mono hk) hg m Z.kp (Z.binds hb) .nil hx ha n0 n1 n2
theorem pe_posG (hgd : X.A.guards = some []) (F : PrG X.prog X.w X.K X.mg X.base CX k x st ps sp) (hr : Room j X.A) (hk : k ≤ j) (hg : Gl X x) (hb : PosB x st ps) (hx : Passes CX X E) (ha : PA X (e :: es) t) (n0 : (x == ("__debug__" : Str)) = false := by decide)
    (n1 : starEach (e :: es) X.env = (false, eval e X.env) :: starEach es X.env := by rfl) (n2 : (backTo pos (starEach es X.env)).any (·.1) = false := by rfl) : PE X (.Call (.Name x p) (e :: es) [] pos) (tCall sp [] E t) := by
  obtain ⟨f, fd, m, Z, F⟩ := F.ex
  exact pe_gcall F hgd (hr.mono hk) hg m Z.kp (Z.binds hb) .nil hx ha n0 n1 n2
/-- f(a = .., b = ..) -/
def tKw (sp : Sp) (n : Nat) (g : {α : Type} → List α → List α) (E : XK) (t : TA) : TE := fun σ H Q => t σ H fun vs H1 => vs.length = n ∧ sp (g vs) H1 Q E
theorem pe_kw (F : Pr X.prog X.w X.K X.mg X.base CX k x st ps sp) (hr : Room j X.A) (hk : k ≤ j) (hg : Gl X x) (hb : KwB x st ps ks g) (hx : Passes CX X E) (hkw : PK X kws tk)
    (n1 : (backToKw pos (keywordEach kws X.env)).all (·.1.isSome) = true := by rfl) (n2 : (backToKw pos (keywordEach kws X.env)).filterMap (·.1) = ks := by rfl) (n0 : (x == ("__debug__" : Str)) = false := by decide)
    (n3 : ((backTo pos (starEach [] X.env)).any (·.1) || (backToKw pos (keywordEach kws X.env)).any (·.1.isNone)) = false := by rfl) : PE X (.Call (.Name x p) [] kws pos) (tKw sp ks.length g E tk) := by
  obtain ⟨f, fd, m, Z, F⟩ := F.ex
  constructor
  intro pins s σ H Q I h
  refine wpAny_Call_Name_kw (ld_glob I hg m ?_ n0)
  refine PySem.W.callWith_KW0 (h₀ := X.base) I.ok.mod.kin Z.kp n1 ?_ n3
  refine thn (hkw.run pos pins s σ H _ I h) fun ws s2 ⟨vs, H2, I2, r, l, q⟩ => ⟨I2.kIn, ?_⟩
  rw [n2]
  obtain ⟨oc, od, kV, doc, pm, an, cdv, ct, osl, rfl, _, _⟩ := Z.ex
  refine wpAny_call (codeAny_mono (F.run X.A X.stack s2 H2 ⟨[], ks.zip ws⟩ (g ws) (g vs) Q E (hr.mono hk) I2.env0 (.of_eq (hb.to kV doc pm an cdv ct ws (r.length.symm.trans l))) (hb.rel r) q) fun res s' z => ?_)
  cases res with
  | error er => exact hx pins σ H2 s2 er s' I2 z
  | ok fl =>
    cases fl with
    | ret u => exact I2.after z
    | next => exact False.elim z
    | brk => exact False.elim z
    | cont => exact False.elim z
end
/-! ### the law's call -/
/-- the script alone is tracked -/
def scr (a : Addr) (o : Obj) (ns : List Int) : Hp := fun b => if b = a then some (.frz o (.lst (ns.map V.int))) else none
theorem law_goG {P : Program} {w : World} {K : PySem.W.Frag} {mg mb : Str → Option Value} {k : Nat} {fa a : Addr} {fd : FuncData} {x : Str} {sp : Sp} {s₁ : Shared} {vs : List Value} {ns : List Int}
    (KX : K.In s₁.heap) (hm : s₁.heap.Ns mainGlobals mg) (hb : s₁.heap.Ns builtinsNs mb) (hbb : ∀ x : Str, x ≠ "__name__" → mb x = bootBuiltins x) (hl : s₁.heap.NoLimit) (hg : s₁.gens = #[])
    (ha : s₁.heap.get? a = some { cls := .type "list", data := .seq vs.toArray }) (hi : IntsAre vs ns) (hn : ns.length ≤ sizeLine) (hr : Room k callerA)
    (F : ∀ base : Heap, K.In base → base.Ns mainGlobals mg → GOk P w K mg base CX0 k fa fd [x] sp) (hbind : ∀ (s : Shared) (u : Value), BindsTo s fd ⟨[u], []⟩ [(x, u)])
    (hsp : ∀ H : Hp, SqL K H a (ns.map V.int) → sp [.ref a] H (fun v _ => v = .bl true) fun _ _ _ => False) :
    codeAny (model P w) callerA (.call (.ref fa) ⟨[.ref a], []⟩) (fun r s' => r = .ok (.ret (.bool true)) ∧ OldK s₁.heap s'.heap ∧ s'.os = s₁.os ∧ AllBare s'.gens) s₁ := by
  have rv := vals_ints hi
  have key : ∀ H : Hp, (∀ b, H b = none ∨ (b = a ∧ ∃ o xs, H b = some (.frz o (.lst xs)))) → SqL K H a (ns.map V.int) → HOk P w H s₁.heap → (H a ≠ none → K.lookup a = none) →
      codeAny (model P w) callerA (.call (.ref fa) ⟨[.ref a], []⟩) (fun r s' => r = .ok (.ret (.bool true)) ∧ OldK s₁.heap s'.heap ∧ s'.os = s₁.os ∧ AllBare s'.gens) s₁ := fun H only hS ok hK => by
    have free : ∀ {b : Addr} {o : Obj} {es : Array DictEntry} {ep : Nat}, s₁.heap.get? b = some o → o.data = .dict es ep → H b = none := fun {b o es ep} e d => by
      rcases only b with z | ⟨rfl, _⟩
      · exact z
      · rw [ha] at e
        cases e
        cases d
    have ns1 : ∀ {b : Addr} {m : Str → Option Value}, s₁.heap.Ns b m → (hidT s₁.heap H).Ns b m := fun {b m} z => let ⟨o, es, ep, e, d, r⟩ := z; ⟨o, es, ep, hidT_get e (free e d), d, r⟩
    have kb : K.In (hidT s₁.heap H) := fun b o e => hidT_get (KX b o e) ((only b).elim id fun ⟨z, o', xs, q⟩ => by
      subst z
      rw [hK (by rw [q]; exact fun z => nomatch z)] at e
      cases e)
    have md : Mod K mg (hidT s₁.heap H) := ⟨kb, ns1 hm, ⟨mb, ns1 hb, hbb⟩, let ⟨mc, h1, h2⟩ := hl; ⟨mc, ns1 h1, h2⟩⟩
    have e0 : Env0 P w K mg (hidT s₁.heap H) callerA [] s₁ H := ⟨rfl, md, fun b o e => of_hidT e, Nat.le_of_eq (hidT_size _ _), trivial, (fun _ z => nomatch z), ok, .of_eq hg⟩
    refine codeAny_mono ((F _ kb (ns1 hm)).go (A := callerA) (us := [.ref a]) (vs := [.ref a]) rfl hr e0 (hbind s₁ (.ref a)) (.cons rfl .nil) (hsp H hS)) fun r s' z => ?_
    cases r with
    | error e => exact False.elim z
    | ok fl =>
      cases fl with
      | next => exact False.elim z
      | brk => exact False.elim z
      | cont => exact False.elim z
      | ret u =>
        obtain ⟨v, H', os, bare, un, ok', r', q⟩ := z
        cases q
        cases r'
        refine ⟨rfl, OldK.of_keep fun b o e => ?_, os, bare⟩
        rcases only b with z | ⟨_, ob, xs, z⟩
        · exact un.keep b o e z (fun y => nomatch y) (fun y => nomatch y)
        · have e1 := (ok b _ z).1
          have e2 := (ok' b _ (un.frzs b ob _ z)).1
          rw [e] at e1
          cases e1
          exact e2
  cases hk : K.lookup a with
  | some o =>
    have e := KX a o hk
    rw [ha] at e
    cases e
    exact key (fun _ => none) (fun _ => .inl rfl) (.inr ⟨_, vs.toArray, _, hk, rfl, rfl, rfl, by rw [List.size_toArray, hi.length]; exact hn, by simpa using rv⟩) (fun b u z => nomatch z) fun z => absurd rfl z
  | none =>
    have at_a : scr a { cls := .type "list", data := .seq vs.toArray } ns a = some (.frz { cls := .type "list", data := .seq vs.toArray } (.lst (ns.map V.int))) := if_pos rfl
    refine key (scr a { cls := .type "list", data := .seq vs.toArray } ns) (fun b => ?_) (.inl (.inr ⟨_, at_a⟩)) (fun b u z => ?_) fun _ => hk
    · by_cases c : b = a
      · exact .inr ⟨c, _, _, by rw [c]; exact at_a⟩
      · exact .inl (if_neg c)
    · by_cases c : b = a
      · subst c
        rw [at_a] at z
        cases z
        exact ⟨ha, by rw [List.length_map]; exact hn, vs, _, rv, ha⟩
      · have z' := (if_neg c).symm.trans z
        cases z'
/-- the end of a law row: from the promise of its law -/
theorem walkG {l : PySem.W.OpenLaw} {n k : Nat} {q : Program} {loose : List Str} {XP : (Str → Option Value) → Heap → Prop} {YP : World → Heap → Prop} {d : DefRec} {K : Params → PySem.W.Frag} {sp : World → Sp} {x nm : Str} {st : Stmt}
    (hn : l.most = some n) (hn2 : n ≤ sizeLine) (hdf : d.params.defaults = []) (hr : Room k callerA) (hY : ∀ (w : World) (h : Heap), YP w h → (K w.params).In h) (hnm : d.name = nm) (hb : PosB nm st [x])
    (F : ∀ (w : World) (mg : Str → Option Value) (h : Heap), (K w.params).In h → h.Ns mainGlobals mg → ∀ base : Heap, (K w.params).In base → base.Ns mainGlobals mg → PrG l.prog w (K w.params) mg base CX0 k nm st [x] (sp w))
    (hsp : ∀ (w : World) (H : Hp) (a : Addr) (ns : List Int), ns.length ≤ n → SqL (K w.params) H a (ns.map V.int) → sp w [.ref a] H (fun v _ => v = .bl true) fun _ _ _ => False) :
    PySem.W.WalkO q loose XP YP l.row.toRowW d [] (fun f vs => PySem.call f vs) := by
  refine Att.attach_call hn hdf fun w s₀ s₁ mg mb fa o pm cd doc a vs ns G Y ho hd hcd hmg hobj hints hlen hg => ?_
  have KX := hY w _ Y
  obtain ⟨f, fd, m, Z, _⟩ := (F w mg _ KX G.T.g _ KX G.T.g).ex
  rw [hnm, m] at hmg
  cases hmg
  refine law_goG (x := x) (fd := fd) KX G.T.g G.T.b G.T.builtins G.T.nolimit hg hobj hints (Nat.le_trans hlen hn2) hr (fun base kb nb => ?_) (fun s u => ?_) fun H hS => hsp w H a ns hlen hS
  · obtain ⟨f', fd', m', Z', F'⟩ := (F w mg _ KX G.T.g base kb nb).ex
    rw [m] at m'
    cases m'
    obtain ⟨_, _, _, _, _, _, _, _, _, rfl, l1, _⟩ := Z.ex
    obtain ⟨_, _, _, _, _, _, _, _, _, rfl, l2, _⟩ := Z'.ex
    rw [l1] at l2
    cases l2
    exact F'
  · obtain ⟨_, _, kV, doc, pm, an, cdv, ct, _, rfl, _, _⟩ := Z.ex
    exact .of_eq (hb kV doc pm an cdv ct [u] rfl)
end Gx
namespace Gx
open PySem PySem.Spec PyProof.Rows L2
/-! ### the module's error classes -/
/-- the address that a name of the module stands for -/
def cl (mg : Str → Option Value) (x : Str) : Addr := match mg x with
  | some (.ref a) => a
  | _ => 0
theorem cl_of {mg : Str → Option Value} {x : Str} {a : Addr} (h : mg x = some (.ref a)) : cl mg x = a := by unfold cl; rw [h]
/-- a class that is asked for -/
structure ClsAt (K : PySem.W.Frag) (mg : Str → Option Value) (x : Str) : Prop where
  g : mg x = some (.ref (cl mg x))
  ty : PySem.W.typeIn K (.ref (cl mg x)) = some (.type "type")
  is : PySem.W.isClsIn K (cl mg x) = true
  ex : PySem.W.subIn K (.ref (cl mg x)) (.type "BaseException") = some true
  me : PySem.W.subIn K (.ref (cl mg x)) (.ref (cl mg x)) = some true
theorem ClsAt.of {K : PySem.W.Frag} {mg : Str → Option Value} {x : Str} {C : Addr} (h : mg x = some (.ref C)) (h1 : PySem.W.typeIn K (.ref C) = some (.type "type")) (h2 : PySem.W.isClsIn K C = true)
    (h3 : PySem.W.subIn K (.ref C) (.type "BaseException") = some true) (h4 : PySem.W.subIn K (.ref C) (.ref C) = some true) : ClsAt K mg x := by
  have e := cl_of h
  refine ⟨?_, ?_, ?_, ?_, ?_⟩ <;> rw [e] <;> assumption
/-- whether x's objects are of the class y -/
def SubAt (K : PySem.W.Frag) (mg : Str → Option Value) (x y : Str) (b : Bool) : Prop := PySem.W.subIn K (.ref (cl mg x)) (.ref (cl mg y)) = some b
theorem SubAt.of {K : PySem.W.Frag} {mg : Str → Option Value} {x y : Str} {C D : Addr} {b : Bool} (h : mg x = some (.ref C)) (h' : mg y = some (.ref D)) (s : PySem.W.subIn K (.ref C) (.ref D) = some b) : SubAt K mg x y b := by
  unfold SubAt
  rw [cl_of h, cl_of h']
  exact s
theorem ClsAt.known {K : PySem.W.Frag} {mg : Str → Option Value} {x : Str} (T : ClsAt K mg x) : KnownAt mg x (.ref (cl mg x)) := ⟨_, T.g, rfl⟩
section
variable {K : PySem.W.Frag} {mg : Str → Option Value} {x y : Str} {b : Bool}
theorem SubAt.cls (s : SubAt K mg x y b) (T : ClsAt K mg y) : PySem.W.kitCls K (.ref (cl mg x)) (.ref (cl mg y)) = some b := by
  have e : ((PySem.W.clsIn K (cl mg y)).isSome && PySem.W.typeIn K (.ref (cl mg y)) == some (.type "type")) = true := by
    rw [T.ty, show (PySem.W.clsIn K (cl mg y)).isSome = true from T.is]
    rfl
  show (if ((PySem.W.clsIn K (cl mg y)).isSome && PySem.W.typeIn K (.ref (cl mg y)) == some (.type "type")) = true then PySem.W.subIn K (.ref (cl mg x)) (.ref (cl mg y)) else none) = some b
  rw [if_pos e]
  exact s
theorem SubAt.one (s : SubAt K mg x y b) (T : ClsAt K mg y) : PySem.W.kitOne K (.ref (cl mg x)) (.ref (cl mg y)) = some b := by
  unfold PySem.W.kitOne
  by_cases c : cl mg x = cl mg y
  · have s' : PySem.W.subIn K (.ref (cl mg x)) (.ref (cl mg y)) = some b := s
    rw [c, T.me] at s'
    rw [c, if_pos (beq_self_eq_true _)]
    exact s'
  · rw [if_neg fun z => c (Value.ref.inj (beq_iff_eq.mp z))]
    exact s.cls T
theorem SubAt.exm (s : SubAt K mg x y b) (T : ClsAt K mg y) : PySem.W.exmOne K (.ref (cl mg x)) (.ref (cl mg y)) = some b := by
  unfold PySem.W.exmOne
  rw [T.ex, if_pos (beq_self_eq_true _)]
  exact s.cls T
end
theorem kit_blt {K : PySem.W.Frag} {C : Addr} {n : String} {b : Bool} (s : PySem.W.subIn K (.ref C) (.type n) = some b) (m : PySem.W.kitMeta n = true) : PySem.W.kitOne K (.ref C) (.type n) = some b := by
  show (if (Value.ref C == Value.type n) = true then _ else if PySem.W.kitMeta n = true then PySem.W.subIn K (.ref C) (.type n) else none) = some b
  rw [if_neg (by simp), if_pos m]
  exact s
/-- an error class whose objects are made, by its own __init__ -/
structure ErrAt (K : PySem.W.Frag) (mg : Str → Option Value) (x : Str) (qual : Str) (st : Stmt) : Prop where
  oex : OexC K (cl mg x)
  ga : PySem.W.findIn K (.ref (cl mg x)) "__getattribute__" = some (some (.builtin "BaseException.__getattribute__"))
  gg : PySem.W.findIn K (.ref (cl mg x)) "__getattr__" = some none
  gc : PySem.W.findIn K (.ref (cl mg x)) "__class__" = some (some (.builtin "object.__class__"))
  gn : PySem.W.specialIn K (.builtin "object.__class__") "__get__" = some (some (.builtin "getset_descriptor.__get__"))
  gt : PySem.W.takesIn K (.builtin "object.__class__") = some true
  gm : PySem.W.mroIn K (cl mg x) (.type "object") = some true
  hd : PySem.W.hasDictIn K (cl mg x) = true
  ini : ∃ f fd, PySem.W.findIn K (.ref (cl mg x)) "__init__" = some (some (.ref f)) ∧ PySem.W.typeIn K (.ref f) = some (.type "function") ∧ Fun K "__init__" qual st f fd
theorem ErrAt.of {K : PySem.W.Frag} {mg : Str → Option Value} {x qual : Str} {st : Stmt} {C f : Addr} {fd : FuncData} {nm q : Str} {N : Addr} {bs bm : List Value} {sn : List Str} {sub : List Value} {ab : Bool} {col : Option Bool} {dd : Option Addr} {k0 k1 k2 k3 k5 : Option Value}
    (h : mg x = some (.ref C)) (l : K.lookup C = some (excClassObj nm q C N bs bm true sn sub ab col dd k0 k1 k2 k3 k5 "ValueError.__new__")) (r : PySem.HandSPX.refsVE bm = true)
    (sa : PySem.W.findIn K (.ref C) "__setattr__" = some (some (.builtin "object.__setattr__"))) (ex : PySem.W.subIn K (.ref C) (.type "BaseException") = some true) (ty : PySem.W.typeIn K (.ref C) = some (.type "type")) (kp : PySem.W.keepIn K (.ref C) = true)
    (ga : PySem.W.findIn K (.ref C) "__getattribute__" = some (some (.builtin "BaseException.__getattribute__"))) (gg : PySem.W.findIn K (.ref C) "__getattr__" = some none) (gc : PySem.W.findIn K (.ref C) "__class__" = some (some (.builtin "object.__class__")))
    (gn : PySem.W.specialIn K (.builtin "object.__class__") "__get__" = some (some (.builtin "getset_descriptor.__get__"))) (gt : PySem.W.takesIn K (.builtin "object.__class__") = some true) (gm : PySem.W.mroIn K C (.type "object") = some true) (hd : PySem.W.hasDictIn K C = true)
    (i1 : PySem.W.findIn K (.ref C) "__init__" = some (some (.ref f))) (i2 : PySem.W.typeIn K (.ref f) = some (.type "function")) (i3 : Fun K "__init__" qual st f fd) : ErrAt K mg x qual st := by
  have e := cl_of h
  refine ⟨?_, ?_, ?_, ?_, gn, gt, ?_, ?_, f, fd, ?_, i2, i3⟩ <;> rw [e]
  · exact ⟨⟨nm, q, N, bs, bm, sn, sub, ab, col, dd, k0, k1, k2, k3, k5, l, r⟩, sa, ex, ty, kp⟩
  all_goals assumption
theorem ErrAt.xf {K : PySem.W.Frag} {mg : Str → Option Value} {x qual : Str} {st : Stmt} (T : ErrAt K mg x qual st) : XfC K (cl mg x) := ⟨T.ga, T.gg, T.oex.exC, T.hd⟩
/-- a method of a class's text -/
def meth (s : Stmt) (i : Nat) : Stmt := match s with
  | .ClassDef _ _ _ b _ _ _ _ _ _ _ => b.getD i (.Pass ⟨0, 0, 0, 0⟩)
  | _ => .Pass ⟨0, 0, 0, 0⟩
/-- positional arguments, all of them -/
def PosQ (x qual : Str) (st : Stmt) (ps : List Str) : Prop := ∀ (kV doc pm : Value) (an : Option Addr) (cdv ct : Value) (us : List Value), us.length = ps.length →
  bindArgs (PySem.W.fnOf x qual (defArgs st) (defBody st) (defScope st) .none kV doc pm an cdv ct) ⟨us, []⟩ = pure (ps.zip us)
/-! ### raise X(e), X's __init__ sets one field -/
/-- what such an __init__ keeps -/
def spInit (K : PySem.W.Frag) (C : Addr) (fld : Str) : Sp := fun vs H Q _ => ∃ a v, vs = [.ref a, v] ∧ H a = some (exo a C none) ∧ OexC K C ∧ PySem.W.findIn K (.ref C) fld = some none ∧
  ∀ d, H d = none → d ≠ a → Q .non (upd (upd H d (exd d [(fld, v)])) a (exo a C (some d)))
section
variable {P : Program} {w : World} {K : PySem.W.Frag} {mg : Str → Option Value} {base : Heap}
theorem init_ok {qual fld p1 p2 : Str} {st : Stmt} {f : Addr} {fd : FuncData} {C : Addr} (F : Fun K "__init__" qual st f fd) (S : FnScope [p1, p2] [p1, p2] (defScope st))
    (body : ∀ (cdv : Value) (A : Around) (outer : List Env) (s : Shared) (H : Hp) (E : XK), PSs (cxOf CX0 P w K mg base [p1, p2] qual (defScope st) f cdv A outer s H E).nox (defBody st) (fun D σ H => tOst K fld (tVar 0) (tVar 1) D σ H)) :
    FnOk P w K mg base CX0 1 f fd [p1, p2] (spInit K C fld) := by
  refine F.ok S (fun vs H Q E h => ?_) fun cdv A outer s H vs Q E hr h => ?_
  · obtain ⟨a, v, rfl, _⟩ := h
    rfl
  · obtain ⟨a, v, rfl, ha, T, hn, q⟩ := h
    exact ⟨_, body cdv A outer s H E, v, rfl, _, rfl, a, C, rfl, T, hn, .inl ⟨ha, fun d n ne => q d n ne⟩⟩
end
/-- a reading, made monotone -/
def tM (te : TE) : TE := fun σ H Q => ∃ R : VK, te σ H R ∧ ∀ v H', R v H' → Q v H'
theorem pe_mo {X : Cx} {e : Expr} {te : TE} (he : PE X e te) : PE X e (tM te) := by
  refine ⟨fun pins s σ H Q I h => ?_⟩
  obtain ⟨R, h, k⟩ := h
  refine wpAny_mono (he.run pins s σ H R I h) (fun u s' z => ?_) fun _ _ z => z
  exact let ⟨v, H', J, r, q⟩ := z; ⟨v, H', J, r, k v H' q⟩
/-- the wish of a made error: its one field's value -/
def tErr (C : Addr) (fld : Str) (te : TE) : L2.St → Hp → XK → Prop := fun σ H Q => te σ H fun v H1 => ∀ d, H1 d = none → Q (.ref C) (some d) (upd H1 d (.xd [(fld, v)]))
section
variable {X : Cx} {x qual fld p1 p2 : Str} {st : Stmt} {k : Nat} {e : Expr} {te : TE} {p pos : Pos}
theorem pmk_err (T : ErrAt X.K X.mg x qual st) (G : ClsAt X.K X.mg x) (hn : PySem.W.findIn X.K (.ref (cl X.mg x)) fld = some none) (hr : Room k X.A) (hk : 2 ≤ k) (S : FnScope [p1, p2] [p1, p2] (defScope st)) (hq : PosQ "__init__" qual st [p1, p2])
    (body : ∀ (f : Addr) (cdv : Value) (A : Around) (outer : List Env) (s : Shared) (H : Hp) (E : XK), PSs (cxOf CX0 X.prog X.w X.K X.mg X.base [p1, p2] qual (defScope st) f cdv A outer s H E).nox (defBody st) (fun D σ H => tOst X.K fld (tVar 0) (tVar 1) D σ H))
    (hg : Gl X x) (he : PE X e te) (n0 : (x == ("__debug__" : Str)) = false := by decide) (n1 : starEach [e] X.env = (false, eval e X.env) :: starEach [] X.env := by rfl) (n2 : (backTo pos (starEach [] X.env)).any (·.1) = false := by rfl) :
    PMk X (.Call (.Name x p) [e] [] pos) (tErr (cl X.mg x) fld te) := by
  obtain ⟨f, fd, i1, i2, F⟩ := T.ini
  have F1 := init_ok (P := X.prog) (w := X.w) (mg := X.mg) (base := X.base) (C := cl X.mg x) F S (body f)
  intro pins s σ H Q I h
  refine pmk_oex T.oex i1 i2 F1 (hr.mono hk) (F.binds hq) .nil pass0 hg G.g (pa_cons (pe_mo he) pa_nil n1) n0 n1 n2 pins s σ H Q I ?_
  refine ⟨_, h, fun v H1 q => ⟨(by decide : 1 ≤ 1000), fun a ha => ⟨a, v, rfl, upd_same, T.oex, hn, fun d n ne => ⟨rfl, d, [(fld, v)], upd_same, ?_, ?_, ?_⟩⟩⟩⟩
  · rw [upd_ne ne]
    exact upd_same
  · rw [upd_ne ne] at n
    exact n
  · rw [upd_ne ne] at n
    have z : upd (del (upd (upd (upd H1 a (exo a (cl X.mg x) none)) d (exd d [(fld, v)])) a (exo a (cl X.mg x) (some d))) a) d (.xd [(fld, v)]) = upd H1 d (.xd [(fld, v)]) := by
      funext b
      by_cases c : b = d
      · rw [c, upd_same, upd_same]
      · rw [upd_ne c, upd_ne c]
        by_cases c2 : b = a
        · rw [c2, del_same, ha]
        · rw [del_ne c2, upd_ne c2, upd_ne c, upd_ne c2]
    rw [z]
    exact q d n
end
/-! ### defs that may raise, their calls -/
section
variable {P : Program} {w : World} {K : PySem.W.Frag} {mg : Str → Option Value} {base : Heap} {k : Nat} {x : Str} {st : Stmt} {ps N : List Str} {sp : Sp}
theorem DefAt.okX (D : DefAt K mg x st) (S : FnScope N ps (defScope st)) (len : ∀ vs H Q E, sp vs H Q E → vs.length = ps.length)
    (body : ∀ (f : Addr) (cdv : Value) (A : Around) (outer : List Env) (s : Shared) (H : Hp) (vs : List V) (Q : VK) (E : XK), Room k (A.deeper (envOfC x (defScope st) s.heap.objs.size f cdv)) → sp vs H Q E →
      ∃ t, PSs (cxOf (L2.CX P w) P w K mg base N x (defScope st) f cdv A outer s H E) (defBody st) t ∧ t { nx := fun _ H' => Q .non H', rt := Q } (start N vs) H) : Pr P w K mg base (L2.CX P w) (k + 1) x st ps sp := by
  obtain ⟨f, fd, m, F⟩ := D
  exact ⟨f, fd, m, F, F.okX S len fun cdv A outer s H vs Q E => body f cdv A outer s H vs Q E⟩
end
section
variable {X : Cx} {j k : Nat} {st : Stmt} {ps ks : List Str} {sp : Sp} {W : WX} {x : Str} {p pos : Pos} {e : Expr} {es : List Expr} {kws : List Keyword} {t tk : TA} {g : {α : Type} → List α → List α}
/-- f(..) in a try's body -/
theorem pe_posS (F : Pr X.prog X.w X.K X.mg X.base (L2.CX X.prog X.w) k x st ps sp) (hr : Room j X.A) (hk : k ≤ j) (hg : Gl X x) (hb : PosB x st ps) (tk : Takes X W) (ha : PA X (e :: es) t) (n0 : (x == ("__debug__" : Str)) = false := by decide)
    (n1 : starEach (e :: es) X.env = (false, eval e X.env) :: starEach es X.env := by rfl) (n2 : (backTo pos (starEach es X.env)).any (·.1) = false := by rfl) : PE X (.Call (.Name x p) (e :: es) [] pos) (tCallS sp (WE W) t) := by
  obtain ⟨f, fd, m, Z, F⟩ := F.ex
  exact pe_callS F (hr.mono hk) hg m Z.kp (Z.binds hb) (fun σ => passAt tk σ) ha n0 n1 n2
def tKwS (sp : Sp) (n : Nat) (g : {α : Type} → List α → List α) (W : WX) (t : TA) : TE := fun σ H Q => t σ H fun vs H1 => vs.length = n ∧ sp (g vs) H1 Q (WE W σ)
/-- f(a = .., b = ..) in a try's body -/
theorem pe_kwS (F : Pr X.prog X.w X.K X.mg X.base (L2.CX X.prog X.w) k x st ps sp) (hr : Room j X.A) (hk : k ≤ j) (hg : Gl X x) (hb : KwB x st ps ks g) (tw : Takes X W) (hkw : PK X kws tk)
    (n1 : (backToKw pos (keywordEach kws X.env)).all (·.1.isSome) = true := by rfl) (n2 : (backToKw pos (keywordEach kws X.env)).filterMap (·.1) = ks := by rfl) (n0 : (x == ("__debug__" : Str)) = false := by decide)
    (n3 : ((backTo pos (starEach [] X.env)).any (·.1) || (backToKw pos (keywordEach kws X.env)).any (·.1.isNone)) = false := by rfl) : PE X (.Call (.Name x p) [] kws pos) (tKwS sp ks.length g W tk) := by
  obtain ⟨f, fd, m, Z, F⟩ := F.ex
  constructor
  intro pins s σ H Q I h
  refine wpAny_Call_Name_kw (ld_glob I hg m ?_ n0)
  refine PySem.W.callWith_KW0 (h₀ := X.base) I.ok.mod.kin Z.kp n1 ?_ n3
  refine thn (hkw.run pos pins s σ H _ I h) fun ws s2 ⟨vs, H2, I2, r, l, q⟩ => ⟨I2.kIn, ?_⟩
  rw [n2]
  obtain ⟨oc, od, kV, doc, pm, an, cdv, ct, osl, rfl, _, _⟩ := Z.ex
  refine wpAny_call (codeAny_mono (F.run X.A X.stack s2 H2 ⟨[], ks.zip ws⟩ (g ws) (g vs) Q (WE W σ) (hr.mono hk) I2.env0 (.of_eq (hb.to kV doc pm an cdv ct ws (r.length.symm.trans l))) (hb.rel r) q) fun res s' z => ?_)
  cases res with
  | error er => exact passAt tw σ pins H2 s2 er s' I2 z
  | ok fl =>
    cases fl with
    | ret u => exact I2.after z
    | next => exact False.elim z
    | brk => exact False.elim z
    | cont => exact False.elim z
end
/-! ### defs that are called while an error is handled; nothing leaves them -/
section
variable (P : Program) (w : World) (K : PySem.W.Frag) (mg : Str → Option Value) (base : Heap)
structure PrP (k : Nat) (x : Str) (st : Stmt) (ps : List Str) (sp : Addr → Value → Option Addr → Sp) : Prop where
  ex : ∃ f fd, mg x = some (.ref f) ∧ Fun K x x st f fd ∧ (∀ a cls d vs H Q E, sp a cls d vs H Q E → vs.length = ps.length) ∧
    ∀ (A : Around) (outer : List Env) (s : Shared) (H : Hp) (us : List Value) (vs : List V) (Q : VK) (p : Addr × Obj) (cls : Value) (d : Option Addr), Zc cls d p.2 → (∃ vs, p.2.data = .fields vs) → L2H.RoomH k A → L2H.PinOk outer H s p → Env0 P w K mg base A outer s H →
      BindsTo s fd ⟨us, []⟩ (ps.zip us) → Vals vs us → sp p.1 cls d vs H Q E0 → codeAny (model P w) A (.call (.ref f) ⟨us, []⟩) (CR CX0 outer P w H s Q E0) s
end
section
variable {P : Program} {w : World} {K : PySem.W.Frag} {mg : Str → Option Value} {base : Heap} {k : Nat} {x : Str} {st : Stmt} {ps N : List Str} {sp : Addr → Value → Option Addr → Sp}
theorem DefAt.okP (D : DefAt K mg x st) (S : FnScope N ps (defScope st)) (len : ∀ a cls d vs H Q E, sp a cls d vs H Q E → vs.length = ps.length)
    (body : ∀ (f : Addr) (cdv : Value) (A : Around) (outer : List Env) (s : Shared) (H : Hp) (vs : List V) (Q : VK) (p : Addr × Obj) (cls : Value) (d : Option Addr), Zc cls d p.2 → (∃ vs, p.2.data = .fields vs) → L2H.RoomH k (A.deeper (envOfC x (defScope st) s.heap.objs.size f cdv)) → sp p.1 cls d vs H Q E0 →
      ∃ t, PSs (L2H.cxH CX0 P w K mg base N x (defScope st) f cdv A outer s H E0 p).nox (defBody st) t ∧ t { nx := fun _ H' => Q .non H', rt := Q } (start N vs) H) : PrP P w K mg base (k + 1) x st ps sp := by
  obtain ⟨f, fd, m, F⟩ := D
  refine ⟨f, fd, m, F, len, fun A outer s H us vs Q p cls d hz hf hr pin e0 hb r hsp => ?_⟩
  obtain ⟨oc, od, kV, doc, pm, an, cdv, ct, osl, rfl, lk, hcd⟩ := F.ex
  have up : ∀ b o, base.get? b = some o → s.heap.get? b = some o := fun b o e => (e0.bs b o e).1
  have inK : K.In s.heap := e0.mod.kin.keeps up
  have nl : s.heap.NoLimit := e0.mod.nolimit.keeps up
  refine codeAny_call_function hr.depth (inK _ _ lk) rfl S.co S.gen rfl (PySem.W.codeRec_of inK hcd) (hb _ _ _ _ ?_)
  refine wpAny_newFunctionEnv_cells S.kind (fun y hy => (S.par y.1 (List.of_mem_zip hy).1).imp id fun z => ⟨z, PySem.W.cellsFrom_some _ _ _ (.inl z)⟩) fun env he s1 new => ?_
  cases he
  obtain ⟨t, ht, q⟩ := body f cdv A outer s H vs Q p cls d hz hf (hr.deeper _) hsp
  have I := L2H.inv_startH (CX := CX0) (P := P) (w := w) (K := K) (mg := mg) (base := base) (E := E0) S pin e0 (len _ _ _ vs H Q E0 hsp) r new
  refine ⟨nl.keeps new.toInCall.keep, codeAny_func (wpAny_mono (ht.nox.run [] s1 _ H _ I q) (fun fl s' z => ?_) fun _ _ z => z)⟩
  cases fl with
  | next => exact let ⟨_, H', J, z⟩ := z; ⟨V.non, H', J.os, J.bare, J.base, J.hok, rfl, z⟩
  | ret u => exact let ⟨v, _, H', J, rv, z⟩ := z; ⟨v, H', J.os, J.bare, J.base, J.hok, rv, z⟩
  | brk => exact False.elim (let ⟨_, _, _, z⟩ := z; z)
  | cont => exact False.elim (let ⟨_, _, _, z⟩ := z; z)
end
theorem roomM {k : Nat} {A : Around} {h : Option Value} (r : Room k A) : L2H.RoomH k (A.mark h) := ⟨r.dp, r.un⟩
section
variable {X : Cx} {j k : Nat} {st : Stmt} {ps : List Str} {sp : Addr → Value → Option Addr → Sp} {x : Str} {p pos : Pos} {e : Expr} {es : List Expr} {t : TA} {a : Addr} {oe : Obj} {cls : Value} {d : Option Addr}
theorem pe_posP (F : PrP X.prog X.w X.K X.mg X.base k x st ps sp) (hr : L2H.RoomH j X.A) (hk : k ≤ j) (hp : (a, oe) ∈ X.pn) (hz : Zc cls d oe) (hf : ∃ vs, oe.data = .fields vs) (hg : Gl X x) (hb : PosB x st ps) (ha : PA X (e :: es) t) (n0 : (x == ("__debug__" : Str)) = false := by decide)
    (n1 : starEach (e :: es) X.env = (false, eval e X.env) :: starEach es X.env := by rfl) (n2 : (backTo pos (starEach es X.env)).any (·.1) = false := by rfl) : PE X (.Call (.Name x p) (e :: es) [] pos) (tCall (sp a cls d) [] E0 t) := by
  obtain ⟨f, fd, m, Z, len, F⟩ := F.ex
  constructor
  intro pins s σ H Q I h
  refine wpAny_Call_Name_kw (ld_glob I hg m ?_ n0)
  refine PySem.W.callWith_K (h₀ := X.base) I.ok.mod.kin Z.kp (thn (ha.run pos pins s σ H _ I h) fun us s1 ⟨vs, H1, I1, r, q⟩ => ⟨I1.kIn, ?_⟩) n1 n2
  have q : sp a cls d (vs ++ []) H1 Q E0 := q
  rw [List.append_nil] at q
  have many : (us ++ []).length = ps.length := by rw [List.append_nil, ← r.length]; exact len _ _ _ _ _ _ _ q
  have bb := (Z.binds hb) s1 us I1.kIn many
  rw [List.append_nil] at bb
  obtain ⟨p1, p2, p3, p4, p5⟩ := I1.pin (a, oe) (List.mem_append_left _ hp)
  have ok : L2H.PinOk X.stack H1 s1 (a, oe) := ⟨p1, p2, fun z => (List.mem_cons.mp (I1.stkSub a z)).elim p3 p4, p5⟩
  refine wpAny_call (codeAny_mono (F X.A X.stack s1 H1 us vs Q (a, oe) cls d hz hf (hr.mono hk) ok I1.env0 bb r q) fun res s' z => ?_)
  cases res with
  | error er => exact False.elim z
  | ok fl =>
    cases fl with
    | ret u => exact I1.after z
    | next => exact False.elim z
    | brk => exact False.elim z
    | cont => exact False.elim z
end
/-! ### isinstance of an error that is handled -/
/-- a handled error, of the class cls with the dict d, is one of the class x, with these fields -/
def ErrOf (mg : Str → Option Value) (x : Str) (cls : Value) (d : Option Addr) (H : Hp) (fs : List (Str × V)) : Prop := cls = .ref (cl mg x) ∧ ∃ dd, d = some dd ∧ H dd = some (.xd fs)
section
variable {X : Cx} {pins : List (Addr × Obj)} {σ : L2.St} {H : Hp} {s : Shared}
theorem ErrOf.kit {x qual : Str} {st : Stmt} {p : Addr × Obj} {fs : List (Str × V)} {cls : Value} {d : Option Addr} (T : ErrAt X.K X.mg x qual st) (h : ErrOf X.mg x cls d H fs) (hp : p ∈ X.pn) (hz : Zc cls d p.2) (hf : ∃ vs, p.2.data = .fields vs) (I : Inv X pins σ H s) :
    ∃ Z : Heap → Prop, PySem.W.KitX X.K (.ref p.1) (.ref (cl X.mg x)) Z ∧ Z s.heap := by
  obtain ⟨rfl, dd, rfl, hd⟩ := h
  obtain ⟨vs, hv⟩ := hf
  have hx : ObjOk X.prog X.w H s.heap dd (.xd fs) := I.hok dd _ hd
  obtain ⟨mA, hns, _⟩ := hx
  obtain ⟨od, ho, _⟩ := lookIn_ns hns
  obtain ⟨h1, _⟩ := I.pin p (List.mem_append_left _ hp)
  have isC : (PySem.W.clsIn X.K (cl X.mg x)).isSome = true := by
    have z := T.hd
    unfold PySem.W.hasDictIn at z
    cases c : PySem.W.clsIn X.K (cl X.mg x) with
    | none => rw [c] at z; cases z
    | some _ => rfl
  refine ⟨fun h => PySem.W.InstAt h p.1 p.2 (cl X.mg x) (some od), PySem.W.kitx_exc isC T.ga T.gg T.oex.exC T.gc T.gn T.gt T.gm, h1, hz.1, ?_, ?_⟩
  · unfold PySem.W.notCls
    rw [hv]
  · rw [hz.2]
    exact ho
end
/-- isinstance(e, c) and isinstance(e, (c1, c2, ..)), e the handled error at a -/
def rIsP (K : PySem.W.Frag) (mg : Str → Option Value) (a : Addr) (cls : Value) (d : Option Addr) : List V → Hp → VK → Prop := fun xs H Q => ∃ (x qual : Str) (st : Stmt) (fs : List (Str × V)) (c : V) (b : Bool), xs = [.ref a, c] ∧ ErrAt K mg x qual st ∧ ErrOf mg x cls d H fs ∧
  ((∃ u, ClsV c u ∧ PySem.W.kitOne K (.ref (cl mg x)) u = some b) ∨ ∃ (tp : Addr) (cs : List V) (us : List Value), c = .ref tp ∧ H tp = some (.tup cs) ∧ Paired ClsV cs us ∧ PySem.W.kitAny K (.ref (cl mg x)) us = some b) ∧ Q (.bl b) H
theorem call_isP {X : Cx} {a : Addr} {oe : Obj} {cls : Value} {d : Option Addr} (hp : (a, oe) ∈ X.pn) (hz : Zc cls d oe) (hf : ∃ vs, oe.data = .fields vs) : CallR X (.builtin "isinstance") (rIsP X.K X.mg a cls d) := by
  intro pins s σ H xs us Q I r h
  obtain ⟨x, qual, st, fs, c, b, rfl, T, he, hc, q⟩ := h
  obtain ⟨w1, u2, rfl, r1, r2⟩ := vals2 r
  cases (show w1 = Value.ref a from r1)
  obtain ⟨Z, kit, at_⟩ := he.kit (p := (a, oe)) T hp hz hf I
  rcases hc with ⟨u, kc, e⟩ | ⟨tp, cs, ws, rfl, hT, kc, e⟩
  · cases kc.eq r2
    exact PySem.W.kia_one kit I.kIn at_ e (fun z => nomatch z) fun tk => ⟨.bl b, H, I.tok tk, rfl, q⟩
  · cases (show u2 = .ref tp from r2)
    have ot : ObjOk X.prog X.w H s.heap tp (.tup cs) := I.hok tp _ hT
    obtain ⟨_, its, rv, ⟨oc, od, dt, sl⟩, h1, h2, n, h3⟩ := ot
    cases ClsV.all kc rv
    cases h2
    cases h3
    exact PySem.W.kia_tup kit I.kIn at_ h1 e (fun z => nomatch z) fun tk => ⟨.bl b, H, I.tok tk, rfl, q⟩
end Gx
namespace Gx
open PySem PySem.Spec PyProof.Rows L2
/-! ### try with several clauses, with or without names -/
/-- behind a suite whose clause has a name in slot i, the slot is empty -/
def goneD (D : Ends) : Option Nat → Ends
  | none => D
  | some i => { nx := fun σ H => D.nx (σ.set i none) H, rt := D.rt, bk := fun σ H => D.bk (σ.set i none) H, ct := fun σ H => D.ct (σ.set i none) H }
def boundS (σ : L2.St) (a : Addr) : Option Nat → L2.St
  | none => σ
  | some i => σ.set i (some (.ref a))
/-- a clause: its class, its name's slot, its suite -/
abbrev Cla := Value × Option Nat × (Addr → Value → Option Addr → TS)
/-- what the clauses wish of an error -/
def wCla (K : PySem.W.Frag) (Wout : WX) (D : Ends) : List Cla → WX
  | [] => Wout
  | (c, i, ts) :: r => fun cls d σ H => ∃ b, PySem.W.exmOne K cls c = some b ∧ (b = true → ∀ a, H a = none → ts a cls d (goneD D i) (boundS σ a i) H) ∧ (b = false → wCla K Wout D r cls d σ H)
inductive Clas (X : Cx) : List ExceptHandler → List Cla → Prop
  | nil : Clas X [] []
  | as {x n : Str} {c : Value} {i : Nat} {ts : Addr → Value → Option Addr → TS} {b₀ : Stmt} {suite : List Stmt} {np pos : Pos} {hds : List ExceptHandler} {l : List Cla} (hi : X.N[i]? = some n) (hl : X.env.kindOf n = some .local) (hc : Names X x c)
      (hs : ∀ (a : Addr) (oe : Obj) (cls : Value) (d : Option Addr) (pn : List (Addr × Obj)), Zc cls d oe → (∃ vs, oe.data = .fields vs) → PSs (X.suite a ((a, oe) :: pn)) (b₀ :: suite) (ts a cls d))
      (r : Clas X hds l) : Clas X (.ExceptHandler (some (.Name x np)) (some n) (b₀ :: suite) pos :: hds) ((c, some i, ts) :: l)
  | no {x : Str} {c : Value} {ts : Addr → Value → Option Addr → TS} {b₀ : Stmt} {suite : List Stmt} {np pos : Pos} {hds : List ExceptHandler} {l : List Cla} (hc : Names X x c)
      (hs : ∀ (a : Addr) (oe : Obj) (cls : Value) (d : Option Addr) (pn : List (Addr × Obj)), Zc cls d oe → (∃ vs, oe.data = .fields vs) → PSs (X.suite a ((a, oe) :: pn)) (b₀ :: suite) (ts a cls d))
      (r : Clas X hds l) : Clas X (.ExceptHandler (some (.Name x np)) none (b₀ :: suite) pos :: hds) ((c, none, ts) :: l)
section
variable {X : Cx} {pins : List (Addr × Obj)} {σ : L2.St} {H : Hp} {s : Shared}
/-- the clauses, one after another, of an error that has landed -/
theorem cla_go {Wout : WX} {D : Ends} {a : Addr} {B : Heap} {cls : Value} {d : Option Addr} {sI s' : Shared} (hs : X.stack = X.env :: X.outer) (hf : X.env.frame = some X.env.locals) (hN : X.N.Nodup) (tk : Takes X Wout) (J : Inv X pins σ H sI)
    (nb : ∀ b o, sI.heap.get? b = some o → b ∉ frs X.stack → B.get? b = some o) (os : s'.os = sI.os) (ag : AllBare s'.gens) (na : H a = none) (up : sI.heap.UpToSlots s'.heap)
    (fl : HandSPX.FlyingZ B (X.env :: X.outer) a (Zc cls d) s'.heap) : ∀ {hds : List ExceptHandler} {l : List Cla}, Clas X hds l → wCla X.K Wout D l cls d σ H →
    wpAny (model X.prog X.w) X.A (handleBy (.ref a) X.env hds) (SP X pins D) X.xe s' := by
  have ok := J.ok
  have J3 : Inv X pins σ H s' := J.landed nb fl.1 up os ag
  obtain ⟨oe, vs, he, hz, hd⟩ := fl.there
  have out : a ∉ frs (X.env :: X.outer) := fun z => by
    obtain ⟨_, o, h1, h2⟩ := fl.2.2.1.mem z
    rw [he] at h1
    cases h1
    exact h2 _ hd
  have nL : a ≠ X.env.locals := fun z => out (List.mem_filterMap.mpr ⟨X.env, List.mem_cons_self, by rw [hf, z]⟩)
  have nF : a ∉ X.fs := fun z => by
    obtain ⟨e, h1, h2⟩ := List.mem_filterMap.mp z
    exact out (List.mem_filterMap.mpr ⟨e, List.mem_cons_of_mem _ h1, h2⟩)
  have S3 := J3.suite he hd na nL nF
  have ask : ∀ {x : Str} {c : Value} {np : Pos} {Q : Value → Shared → Prop} {E : Value → Shared → Prop}, Names X x c → Q c s' → wpAny (model X.prog X.w) (X.A.mark (some (.ref a))) (eval (.Name x np) X.env) Q E s' := fun {x c np Q E} hc q => by
    obtain ⟨hg, hdb, m | ⟨m, v, nn⟩⟩ := hc
    · exact ld_glob (X := X.suite a ((a, oe) :: (X.pn ++ pins))) S3 hg m q hdb
    · exact ld_blt (X := X.suite a ((a, oe) :: (X.pn ++ pins))) S3 hg m v q nn hdb
  have seen : PySem.W.Looks (model X.prog X.w) s'.heap (typeOf (.ref a)) cls := fun A Q E s k q => wpAny_typeOf_ref (k _ _ he) (hz.1.symm ▸ q)
  intro hds l hk
  induction hk with
  | nil =>
    intro w
    refine wpAny_handleBy_nil ?_
    obtain ⟨k1, k2, k3, oe', vs', T, oT, ts, e1, e2, e3, e4, e5⟩ := id fl
    unfold PySem.passOn
    refine wpAny_bind (wpAny_field e1 e3 e4 ?_)
    rw [if_neg (by simp : ¬ ((Value.ref T == Value.none) = true))]
    have last : wpAny (model X.prog X.w) X.A (setFlight (.ref a) X.env.frame) (fun _ s4 => wpAny (model X.prog X.w) X.A (throw (.ref a) : Sem Flow) (SP X pins D) X.xe s4) X.xe s' := by
      rw [hf]
      refine HandSPX.setFlight_upZ fl fun h4 hh up4 => wpAny_throw (tk _ _ ?_)
      exact ⟨a, B, sI, pins, σ, H, cls, d, rfl, J, nb, up.trans up4, .inr (.inr (hs.symm ▸ hh)), na, os, ag, w⟩
    first
      | exact wpAny_bind (wpAny_pure (wpAny_bind last))
      | exact wpAny_bind last
  | @as x n c i ts b₀ suite np pos hds2 l2 hi hl hc hsu r ih =>
    intro w
    obtain ⟨b, e, yes, no⟩ := w
    refine wpAny_handleBy_cons (codeAny_handlers_test ?_) (by intro z; cases z)
    refine ask hc ((PySem.W.exm_one (M := model X.prog X.w) J3.kIn seen e).here ?_)
    cases b with
    | false => exact ih (no rfl)
    | true =>
      refine codeAny_handlers_suite_as (HandSPX.lands_againZ fl fun h4 fl4 up4 => ?_)
      have J4 : Inv X pins σ H { s' with heap := h4 } := J.landed nb fl4.1 (up.trans up4) os ag
      obtain ⟨oe4, vs4, he4, hz4, hd4⟩ := fl4.there
      refine store_ok (X := X.suite a ((a, oe4) :: (X.pn ++ pins))) (v := .ref a) (J4.suite he4 hd4 na nL nF) hN hi (.inl hl) rfl (fun s5 S5 => ?_) (.inr hl)
      refine wpAny_mono ((hsu a oe4 cls d (X.pn ++ pins) hz4 ⟨_, hd4⟩).run [] s5 _ H _ S5 (yes rfl a na)) (fun f s6 z => ?_) fun _ _ z => False.elim z
      cases f with
      | next => exact let ⟨_, _, S6, q⟩ := z; gone_ok (S6.unsuite ok) hN hi hl fun _ J7 => ⟨_, _, J7, q⟩
      | brk => exact let ⟨_, _, S6, q⟩ := z; gone_ok (S6.unsuite ok) hN hi hl fun _ J7 => ⟨_, _, J7, q⟩
      | cont => exact let ⟨_, _, S6, q⟩ := z; gone_ok (S6.unsuite ok) hN hi hl fun _ J7 => ⟨_, _, J7, q⟩
      | ret u => exact let ⟨_, _, _, S6, r6, q⟩ := z; gone_ok (S6.unsuite ok) hN hi hl fun _ J7 => ⟨_, _, _, J7, r6, q⟩
  | @no x c ts b₀ suite np pos hds2 l2 hc hsu r ih =>
    intro w
    obtain ⟨b, e, yes, no⟩ := w
    refine wpAny_handleBy_cons (codeAny_handlers_test ?_) (by intro z; cases z)
    refine ask hc ((PySem.W.exm_one (M := model X.prog X.w) J3.kIn seen e).here ?_)
    cases b with
    | false => exact ih (no rfl)
    | true =>
      refine codeAny_handlers_suite (HandSPX.lands_againZ fl fun h4 fl4 up4 => ?_)
      have J4 : Inv X pins σ H { s' with heap := h4 } := J.landed nb fl4.1 (up.trans up4) os ag
      obtain ⟨oe4, vs4, he4, hz4, hd4⟩ := fl4.there
      refine wpAny_mono ((hsu a oe4 cls d (X.pn ++ pins) hz4 ⟨_, hd4⟩).run [] _ _ H _ (J4.suite he4 hd4 na nL nF) (yes rfl a na)) (fun f s6 z => ?_) fun _ _ z => False.elim z
      cases f with
      | next => exact let ⟨_, _, S6, q⟩ := z; ⟨_, _, S6.unsuite ok, q⟩
      | brk => exact let ⟨_, _, S6, q⟩ := z; ⟨_, _, S6.unsuite ok, q⟩
      | cont => exact let ⟨_, _, S6, q⟩ := z; ⟨_, _, S6.unsuite ok, q⟩
      | ret u => exact let ⟨_, _, _, S6, r6, q⟩ := z; ⟨_, _, _, S6.unsuite ok, r6, q⟩
end
section
variable {X : Cx} {body : List Stmt} {h₀ : ExceptHandler} {hds : List ExceptHandler} {l : List Cla} {pos : Pos} {tb : WX → TS} {Wout : WX}
theorem ps_try (hs : X.stack = X.env :: X.outer) (hf : X.env.frame = some X.env.locals) (hN : X.N.Nodup) (tk : Takes X Wout)
    (hb : ∀ (W : WX) (pn : List (Addr × Obj)) (xe : Value → Shared → Prop), Takes (X.tr pn xe) W → PassesOwn (model X.prog X.w) X.A X.env xe → PSs (X.tr pn xe) body (tb W)) (hh : Clas X (h₀ :: hds) l) :
    PS X (.Try body (h₀ :: hds) [] [] pos) (fun D σ H => tb (wCla X.K Wout D l) D σ H) := by
  refine ⟨fun pins s σ H D I h => wpAny_Try_except ?_⟩
  have ok := I.ok
  have frm : X.A.frames = some (X.env :: X.outer) := by rw [ok.frames, hs]
  have go := (hb (wCla X.K Wout D l) (X.pn ++ pins) (fun e s₁ => wpAny (model X.prog X.w) X.A (noteFrame e X.env) (fun _ s₂ => wpAny (model X.prog X.w) X.A (setFlight e none) (fun _ s₃ =>
    wpAny (model X.prog X.w) X.A (handleBy e X.env (h₀ :: hds)) (SP X pins D) X.xe s₃) X.xe s₂) X.xe s₁) (fun u s' z => ?_) PassesOwn.looking).run [] s σ H D (I.toTry _) h
  · refine wpAny_mono go (fun f s1 z => ?_) fun _ _ z => z
    cases f with
    | next => exact let ⟨_, _, J, q⟩ := z; wpAny_execs_nil ⟨_, _, J.ofTry ok, q⟩
    | brk => exact let ⟨_, _, J, q⟩ := z; ⟨_, _, J.ofTry ok, q⟩
    | cont => exact let ⟨_, _, J, q⟩ := z; ⟨_, _, J.ofTry ok, q⟩
    | ret u => exact let ⟨_, _, _, J, r, q⟩ := z; ⟨_, _, _, J.ofTry ok, r, q⟩
  · obtain ⟨a, B, sI, pins', σ', H', cls, d, rfl, J', nb, up, sky, na, os, ag, w⟩ := z
    refine Sky.land Zc.steady frm hf (hs ▸ sky) fun h3 fl3 up3 => ?_
    exact cla_go (s' := { s' with heap := h3 }) hs hf hN tk (J'.ofTry ok) nb os ag na (up.trans up3) fl3 hh w
end
/-! ### list.count(True) -/
def isTrueV : Value → Bool
  | .bool b => b
  | _ => false
def rCountT (K : PySem.W.Frag) : V → List V → Hp → VK → Prop := fun x xs H Q => ∃ (p : Addr) (bs : List Bool), x = .ref p ∧ xs = [.bl true] ∧ SqL K H p (bs.map V.bl) ∧ Q (.int (bs.count true : Nat)) H
theorem bools_are : ∀ {bs : List Bool} {us : List Value}, Vals (bs.map V.bl) us → us = bs.map Value.bool
  | [], _, h => by cases h; rfl
  | b :: bs, _, h => by
    cases h with
    | cons r t =>
      cases r
      rw [bools_are t]
      rfl
theorem bools_count : ∀ bs : List Bool, (bs.map Value.bool).countP isTrueV = bs.count true
  | [] => rfl
  | b :: bs => by
    rw [List.map_cons, List.countP_cons, List.count_cons, bools_count bs]
    cases b <;> rfl
theorem mt_countT {X : Cx} (hu : X.A.units + 64 < cLine) : MtR X "list.count" (rCountT X.K) := by
  intro pins s σ H x xs v us Q I rx rxs h
  obtain ⟨p, bs, rfl, rfl, hs, q⟩ := h
  cases rx
  obtain ⟨u, rfl, ru⟩ := rxs.one
  cases ru
  obtain ⟨its, rv, ⟨⟨cls, dd, data, sl⟩, n, ho, hc, hdn, hd⟩, hlen⟩ := I.list hs
  cases hc
  cases hd
  have es := bools_are rv
  refine call_meets PySem.F.slot_list_count ⟨_, ho, rfl⟩ PySem.F.entry_list_count (PySem.F.args_list_count_2 _ _) (SeqAt.list_countAt p its.toArray n dd sl (.bool true) isTrueV) ⟨ho, fun y hy => ?_, ?_⟩
  · have hy : y ∈ its := by simpa using hy
    rw [es] at hy
    obtain ⟨b, _, rfl⟩ := List.mem_map.mp hy
    have z := PySem.SeqAt.eqAt_reads (.bool b) (.bool true) X.A.in1 s (.bool b) (.bool true) _ _ (.bool b) (.bool true) rfl rfl (by show X.A.units + 1 + 0 < cLine; omega)
    have e : PyData.eqv (.bool b) (.bool true) = isTrueV (.bool b) := by cases b <;> rfl
    rw [e] at z
    exact z
  · refine ⟨.int (bs.count true : Nat), H, I.tok _, ⟨s.toks, ?_⟩, q⟩
    show Value.int ((its.toArray.toList.countP isTrueV : Nat) : Int) s.toks = _
    rw [es]
    simp only
    rw [bools_count]
/-! ### x * n of a text -/
theorem op_repS {X : Cx} : OpR X (binaryOp .Mult) (fun x y H Q => ∃ z n, x = .str z ∧ y = .int n ∧ MulOk z n ∧ Q (.str (Txt.mul z n)) H) := by
  intro pins s σ H x y v u Q I rx ry h
  obtain ⟨z, n, rfl, rfl, ok, q⟩ := h
  obtain ⟨t, rfl⟩ := rx
  obtain ⟨t', rfl⟩ := ry
  exact PySem.SB.mul ok fun t2 k => ⟨.str (Txt.mul z n), H, I.tok k, ⟨t2, rfl⟩, q⟩
theorem call_reprK {X : Cx} {K : PySem.W.Frag} (hK : X.K = K) (hgd : X.A.guards = some []) (hu : X.A.units + 64 < cLine) : CallR X (.builtin "repr") (rRepr K) := by
  subst hK
  exact call_repr hgd hu
end Gx
namespace Gx
open PySem PySem.Spec PyProof.Rows L2 Builtin Float
/-! ### f'{i:b}' -/
/-- the binary digits of an int -/
def binL (i : Int) : List Nat := (if i < 0 then [45] else []) ++ (Nat.toDigits 2 i.natAbs).map Char.toNat
def binS (i : Int) : Str := ⟨(binL i).toArray⟩
def bSpec : FormatSpec := { align := 62, type := some 98 }
theorem bSpec_is : parseFormatSpec ("b" : Str).cps.toList "int" 62 = .ok bSpec := by kernel_rfl
theorem field_text (a : Int) : intField' { align := 62, type := some 98 } (decide (a < 0)) [] ((Nat.toDigits 2 a.natAbs).map Char.toNat) [] 4 = binS a := by
  have ne : ((Nat.toDigits 2 a.natAbs).map Char.toNat).isEmpty = false := by
    have := toDigits_len_ge 2 a.natAbs
    cases h : Nat.toDigits 2 a.natAbs with
    | nil => rw [h] at this; simp at this
    | cons x l => rfl
  unfold binS binL
  by_cases c : a < 0
  · simp [intField', c, ne]
  · simp [intField', c, ne]
section
variable {prog : Program} {w : World} {A : Around} {E : Value → Shared → Prop} {s : Shared}
theorem field_b {a : Int} {t : Tok} {Q : Value → Shared → Prop} (hz : (binS a).length ≤ sizeLine) (h : ∀ tk k, Q (.str (binS a) tk) { s with toks := k }) : wpAny (model prog w) A (formatField (.int a t) "b") Q E s := by
  have h1 : (("b" : Str).length == 0) = false := by decide +kernel
  have h2 : ((("b" : Str).cps.toList.drop 1).any (· ≥ 128) || (("b" : Str).cps.getD 0 0 ≥ 128 && !([60, 62, 61, 94] : List Nat).contains (("b" : Str).cps.getD 1 0))) = false := by decide +kernel
  have hp := bSpec_is
  have hsz : ("b" : Str).length ≤ sizeLine := by rw [show ("b" : Str).length = 1 by decide +kernel]; decide
  generalize ("b" : Str) = spec at *
  show wpAny _ _ (holding [.int a t] (pyFormat (.int a t) spec)) Q E s
  refine wpAny_holding ?_
  unfold pyFormat
  refine wpAny_bind (wpAny_mkStr ?_ hsz)
  refine wpAny_bind (m := callSpecial? (.int a t) (Str.ofString "__format__") [.str spec s.toks]) (wpAny_callSpecial?_slot (name := Str.ofString "__format__") (typeIs_int _ a t) slot_int_format ?_)
  refine wpAny_call (codeAny_call_builtin slot_int_format.plain entry_int_format (slot_int_format.check _ _ _ _ _ _ _ _ (typeIs_int _ a t) (args_int_format _ _) ?_))
  unfold Builtin.«int.__format__»
  simp only [selfAndOne, noKeywords, Int.intOfSelf, asInt?, asStr?, List.isEmpty_nil, if_true, pure_bind, bind_assoc, h1, h2, Bool.false_eq_true, if_false, show (Value.str spec s.toks == Value.none) = false from rfl]
  refine wpAny_bind (wpAny_typeNameOf (T := "str") (typeIs_str _ _ _) (by decide) fun _ => ?_)
  first | refine wpAny_bind (wpAny_typeNameOfCut_int ?_) | refine wpAny_bind (wpAny_typeNameOf_int ?_)
  simp only [hp, bSpec, Option.getD_some]
  refine (congrArg (fun m => wpAny (model prog w) _ m _ _ _) (if_pos rfl)).mpr ?_
  show wpAny _ _ (retStr (intField' { align := 62, type := some 98 } (decide (a < 0)) [] ((Nat.toDigits 2 a.natAbs).map Char.toNat) [] 4)) _ _ _
  rw [field_text]
  unfold retStr
  refine wpAny_bind (wpAny_mkStr (wpAny_pure ?_) hz)
  show wpAny _ _ (isInstance _ _ >>= _) _ _ _
  refine wpAny_bind (wpAny_isInstance (typeIs_str _ _ _) isSubtype_str_str (wpAny_pure ?_))
  exact h _ _
end
section
variable {X : Cx}
/-- {e:b} -/
def tFmtB (te : TE) : TE := fun σ H Q => te σ H fun x H1 => ∃ i : Int, x = .int i ∧ (binS i).length ≤ sizeLine ∧ Q (.str (binS i)) H1
theorem pe_fmtB {e : Expr} {te : TE} {j : Nat} {p1 p2 pos : Pos} (he : PE X e te) : PE X (.FormattedValue e (-1) (some (.JoinedStr [.Constant (.str "b") j p1] p2)) pos) (tFmtB te) := by
  refine ⟨fun pins s σ H Q I h => wpAny_FormattedValue_spec (thn (he.run pins s σ H _ I h) fun v s1 z => ?_)⟩
  obtain ⟨x, H1, I1, r1, i, rfl, hz, q⟩ := z
  have sp : PE X (.JoinedStr [.Constant (.str "b") j p1] p2) (tC (.str "b")) := pe_joined1 pe_str
  refine wpAny_mono (sp.run pins s1 σ H1 (fun y H2 => y = .str "b" ∧ H2 = H1) I1 ⟨rfl, rfl⟩) (fun u s2 z => ?_) fun _ _ z => z
  obtain ⟨y, H2, I2, r2, rfl, rfl⟩ := z
  obtain ⟨t, rfl⟩ := r1
  obtain ⟨t2, rfl⟩ := r2
  exact ⟨_, _, rfl, field_b hz fun tk k => ⟨.str (binS i), H2, I2.tok k, ⟨tk, rfl⟩, q⟩⟩
/-- s.ljust(n, f) -/
theorem mt_ljustF : MtR X "str.ljust" (fun x xs H Q => ∃ (a : Str) (i : Int) (f : Str), x = .str a ∧ xs = [.int i, .str f] ∧ PadOk i = true ∧ f.length = 1 ∧ Q (.str (Txt.ljustF a i (f.cps.getD 0 0))) H) := by
  intro pins s σ H x xs v us Q I rx rs h
  obtain ⟨a, i, f, rfl, rfl, hp, hf, q⟩ := h
  obtain ⟨t, rfl⟩ := rx
  obtain ⟨u1, u2, rfl, ⟨t1, rfl⟩, ⟨t2, rfl⟩⟩ := vals2 rs
  exact ljust_fill hp hf fun t' k => ⟨.str (Txt.ljustF a i (f.cps.getD 0 0)), H, I.tok k, ⟨t', rfl⟩, q⟩
end
/-! ### int(s, 2) -/
namespace Bin
open PySem.NumText PySem.Calls
def Is (c : Nat) : Prop := c = 48 ∨ c = 49
def num (l : List Nat) : Nat := l.foldl (fun a c => a * 2 + (c - 48)) 0
theorem hex {c : Nat} (h : Is c) : Hx.IsHex c := by unfold Is at h; unfold Hx.IsHex; omega
theorem step_bin {ds : Array Nat} {b : Bool} {c : Nat} (h : Is c) : PySem.NumText.step 2 (ds, b) c = some (ds.push (c - 48), true) := by
  have h' : c = 48 ∨ c = 49 := h
  rcases h' with rfl | rfl <;> rfl
theorem fold_bin : ∀ (cs : List Nat) (ds : Array Nat), (∀ c ∈ cs, Is c) → cs.foldlM (PySem.NumText.step 2) (ds, true) = some (cs.foldl (fun acc c => acc.push (c - 48)) ds, true)
  | [], _, _ => rfl
  | c :: cs, ds, h => by
    rw [List.foldlM_cons, step_bin (h c List.mem_cons_self)]
    exact fold_bin cs (ds.push (c - 48)) fun d hd => h d (List.mem_cons_of_mem _ hd)
theorem digits_bin {cs : List Nat} (h : ∀ c ∈ cs, Is c) (hne : cs ≠ []) : digits? 2 cs = some (cs.foldl (fun acc c => acc.push (c - 48)) #[]) := by
  cases cs with
  | nil => exact absurd rfl hne
  | cons c cs =>
    unfold digits?
    rw [List.foldlM_cons, step_bin (h c List.mem_cons_self)]
    show (cs.foldlM (PySem.NumText.step 2) ((#[] : Array Nat).push (c - 48), true)).bind _ = _
    rw [fold_bin cs _ fun d hd => h d (List.mem_cons_of_mem _ hd)]
    rfl
theorem push_bin : ∀ (cs : List Nat) (ds : Array Nat), (cs.foldl (fun acc c => acc.push (c - 48)) ds).foldl (fun acc d => acc * 2 + d) 0 = cs.foldl (fun a c => a * 2 + (c - 48)) (ds.foldl (fun acc d => acc * 2 + d) 0)
  | [], _ => rfl
  | c :: cs, ds => by
    rw [List.foldl_cons, push_bin cs, List.foldl_cons]
    congr 1
    simp
theorem based_bin {cs : List Nat} (h : ∀ c ∈ cs, Is c) : based 2 cs = (2, false, cs) := by
  match cs, h with
  | [], _ => rfl
  | [a], h =>
    have ha : a = 48 ∨ a = 49 := h a List.mem_cons_self
    rcases ha with rfl | rfl <;> rfl
  | a :: c :: r, h =>
    have hc : c = 48 ∨ c = 49 := h c (List.mem_cons_of_mem _ List.mem_cons_self)
    have ha : a = 48 ∨ a = 49 := h a List.mem_cons_self
    rcases ha with rfl | rfl <;> rcases hc with rfl | rfl <;> rfl
theorem read_bin {cs : List Nat} (h : ∀ c ∈ cs, Is c) (hne : cs ≠ []) : (int_private% "readNumeral") 0 2 cs = (int_private% "Numeral.value") ((num cs : Nat) : Int) := by
  have hx : ∀ c ∈ cs, Hx.IsHex c := fun c hc => hex (h c hc)
  have hr : ∀ c ∈ cs.reverse, Hx.IsHex c := fun c hc => hx c (List.mem_reverse.mp hc)
  have hb := based_bin h
  refine (readNumeral_eq 0 2 cs).trans ?_
  rw [Hx.dropB hx, Hx.signH hx]
  show judge 0 false (based 2 cs).1 (based 2 cs).2.1 (digits? (based 2 cs).1 (((based 2 cs).2.2.reverse.dropWhile blank).reverse)) = _
  rw [hb]
  show judge 0 false 2 false (digits? 2 ((cs.reverse.dropWhile blank).reverse)) = _
  rw [Hx.dropB hr, List.reverse_reverse, digits_bin h hne]
  show (int_private% "Numeral.value") (((cs.foldl (fun acc c => acc.push (c - 48)) (#[] : Array Nat)).foldl (fun acc d => acc * 2 + d) 0 : Nat) : Int) = _
  have z : (#[] : Array Nat).foldl (fun acc d => acc * 2 + d) 0 = 0 := by first | rfl | simp
  rw [push_bin, z] <;> rfl
set_option maxHeartbeats 4000000 in
theorem gives_bin {x : PySem.Str} {u t : Tok} (hl : x.length ≤ 640) (h : ∀ c ∈ x.cps.toList, Is c) (hne : x.cps.toList ≠ []) :
    Gives (Builtin.«int.__new__» ⟨[.type "int", .str x u, .int 2 t], []⟩) (.int ((num x.cps.toList : Nat) : Int)) :=
  .of_wp fun M A E s Q hQ => by
    obtain ⟨hp, g, d, tk, os⟩ := s
    have f1 := F.conv_sub_int
    have f2 := F.madeHere_int
    have f6 : typeOf (.str x u) = pure (.type "str") := rfl
    obtain ⟨e1, e2⟩ := Hx.seen_hex fun c hc => hex (h c hc)
    have hs : (numSeenOf x).length ≤ 640 := by rw [e2, Array.length_toList]; exact hl
    have hr : (int_private% "readNumeral") 0 2 (numSeenOf x) = (int_private% "Numeral.value") ((num x.cps.toList : Nat) : Int) := by rw [e2]; exact read_bin h hne
    have ha : ((numSeenOf x).length == (numTextOf x).length) = true := by rw [e1, e2]; exact beq_self_eq_true _
    have hk := Hx.Hid.mk (And.intro hs (And.intro hr ha))
    clear hs hr ha e1 e2 hl hne h
    repeat (any_goals (first
      | assumption
      | ((with_reducible show wpAny _ _ ((int_private% "intFromText") _ _ _) _ _ _); refine Hx.wp_textB hk.out.1 hk.out.2.1 hk.out.2.2 ?_)
      | wp_step))
    all_goals first | exact ⟨_, rfl, hQ⟩ | skip
theorem call_bin {prog : Program} {w : World} {A : Around} {E : Value → Shared → Prop} {s : Shared} {Q : Value → Shared → Prop} {x : PySem.Str} {u t : Tok} (hl : x.length ≤ 640) (h : ∀ c ∈ x.cps.toList, Is c) (hne : x.cps.toList ≠ [])
    (hQ : Q (.int ((num x.cps.toList : Nat) : Int) s.toks) { s with toks := s.toks + 1 }) : wpAny (model prog w) A (call (.type "int") [.str x u, .int 2 t]) Q E s :=
  callType_new F.called_int F.newNe_int (Hx.typeCall_int_2 _ _) (Hx.newCall_int_2 _ _) (fun obj => F.initArgs_range_2 obj _ _) F.entry_int_new (gives_bin hl h hne).meets (show (Made.int ((num x.cps.toList : Nat) : Int)).post _ s from ⟨rfl, hQ⟩)
end Bin
/-- int(z, 2) -/
def rIntBin : List V → Hp → VK → Prop := fun xs H Q => ∃ z : Str, xs = [.str z, .int 2] ∧ z.cps.toList ≠ [] ∧ z.length ≤ 640 ∧ (∀ c ∈ z.cps.toList, Bin.Is c) ∧ Q (.int ((Bin.num z.cps.toList : Nat) : Int)) H
theorem call_int_bin {X : Cx} : CallR X (.type "int") rIntBin := by
  intro pins s σ H xs us Q I r h
  obtain ⟨z, rfl, hne, hl, hx, q⟩ := h
  obtain ⟨u, u', rfl, ⟨t1, rfl⟩, ⟨t2, rfl⟩⟩ := vals2 r
  exact Bin.call_bin hl hx hne ⟨.int ((Bin.num z.cps.toList : Nat) : Int), H, I.tok _, ⟨_, rfl⟩, q⟩
end Gx
namespace Gx
open PySem PySem.Spec PyProof.Rows L2
/-! ### defs with defaults -/
def DefD (K : PySem.W.Frag) (mg : Str → Option Value) (x : Str) (st : Stmt) (dvs : List V) : Prop := ∃ f fd, mg x = some (.ref f) ∧ FunD K x x (defArgs st) (defBody st) (defScope st) dvs [] f fd
/-- n values are written, the defaults behind the first j fill up -/
def PosD (x : Str) (st : Stmt) (ps : List Str) (dn n j : Nat) : Prop := ∀ (T : Addr) (kV doc pm : Value) (an : Option Addr) (cdv ct : Value) (us its : List Value), us.length = n → its.length = dn →
  ∃ k, bindArgs (PySem.W.fnOf x x (defArgs st) (defBody st) (defScope st) (.ref T) kV doc pm an cdv ct) ⟨us, []⟩ = seqItems? (.ref T) >>= k ∧ k (some its.toArray) = pure (ps.zip (us ++ its.drop j))
section
variable (P : Program) (w : World) (K : PySem.W.Frag) (mg : Str → Option Value) (base : Heap)
structure PrD (CX : CXT) (k : Nat) (x : Str) (st : Stmt) (ps : List Str) (dvs : List V) (sp : Sp) : Prop where
  ex : ∃ f fd, mg x = some (.ref f) ∧ FunD K x x (defArgs st) (defBody st) (defScope st) dvs [] f fd ∧ FnOk P w K mg base CX k f fd ps sp
end
section
variable {P : Program} {w : World} {K : PySem.W.Frag} {mg : Str → Option Value} {base : Heap} {k : Nat} {x : Str} {st : Stmt} {ps N : List Str} {dvs : List V} {sp : Sp}
theorem DefD.okX (D : DefD K mg x st dvs) (S : FnScope N ps (defScope st)) (len : ∀ vs H Q E, sp vs H Q E → vs.length = ps.length)
    (body : ∀ (f : Addr) (cdv : Value) (A : Around) (outer : List Env) (s : Shared) (H : Hp) (vs : List V) (Q : VK) (E : XK), Room k (A.deeper (envOfC x (defScope st) s.heap.objs.size f cdv)) → sp vs H Q E →
      ∃ t, PSs (cxOf (L2.CX P w) P w K mg base N x (defScope st) f cdv A outer s H E) (defBody st) t ∧ t { nx := fun _ H' => Q .non H', rt := Q } (start N vs) H) : PrD P w K mg base (L2.CX P w) (k + 1) x st ps dvs sp := by
  obtain ⟨f, fd, m, F⟩ := D
  exact ⟨f, fd, m, F, F.ok S len fun cdv A outer s H vs Q E => body f cdv A outer s H vs Q E⟩
theorem DefD.ok (D : DefD K mg x st dvs) (S : FnScope N ps (defScope st)) (len : ∀ vs H Q E, sp vs H Q E → vs.length = ps.length)
    (body : ∀ (f : Addr) (cdv : Value) (A : Around) (outer : List Env) (s : Shared) (H : Hp) (vs : List V) (Q : VK) (E : XK), Room k (A.deeper (envOfC x (defScope st) s.heap.objs.size f cdv)) → sp vs H Q E →
      ∃ t, PSs (cxOf CX0 P w K mg base N x (defScope st) f cdv A outer s H E).nox (defBody st) t ∧ t { nx := fun _ H' => Q .non H', rt := Q } (start N vs) H) : PrD P w K mg base CX0 (k + 1) x st ps dvs sp := by
  obtain ⟨f, fd, m, F⟩ := D
  refine ⟨f, fd, m, F, F.ok S len fun cdv A outer s H vs Q E hr z => ?_⟩
  obtain ⟨t, h, q⟩ := body f cdv A outer s H vs Q E hr z
  exact ⟨t, h.nox, q⟩
end
section
variable {X : Cx} {CX : CXT} {j k : Nat} {st : Stmt} {ps : List Str} {dvs : List V} {sp : Sp} {E : XK} {W : WX} {x : Str} {p pos : Pos} {e : Expr} {es : List Expr} {t : TA}
/-- f(..): n values are written -/
theorem pe_posD (n i : Nat) (F : PrD X.prog X.w X.K X.mg X.base CX k x st ps dvs sp) (hr : Room j X.A) (hk : k ≤ j) (hg : Gl X x) (hd : dvs ≠ []) (hn : n + (dvs.length - i) = ps.length) (hb : PosD x st ps dvs.length n i) (hx : Passes CX X E) (ha : PA X (e :: es) t)
    (n0 : (x == ("__debug__" : Str)) = false := by decide) (n1 : starEach (e :: es) X.env = (false, eval e X.env) :: starEach es X.env := by rfl) (n2 : (backTo pos (starEach es X.env)).any (·.1) = false := by rfl) :
    PE X (.Call (.Name x p) (e :: es) [] pos) (tCall sp (dvs.drop i) E t) := by
  obtain ⟨f, fd, m, Z, F⟩ := F.ex
  obtain ⟨ds, r, b⟩ := Z.binds1 n i hd hn fun T kV doc pm an cdv ct us its => hb T kV doc pm an cdv ct us its
  exact pe_call F (hr.mono hk) hg m Z.kp b r hx ha n0 n1 n2
def tCallDS (sp : Sp) (ds : List V) (W : WX) (t : TA) : TE := fun σ H Q => t σ H fun vs H1 => sp (vs ++ ds) H1 Q (WE W σ)
/-- the same in a try's body -/
theorem pe_posDS (n i : Nat) (F : PrD X.prog X.w X.K X.mg X.base (L2.CX X.prog X.w) k x st ps dvs sp) (hr : Room j X.A) (hk : k ≤ j) (hg : Gl X x) (hd : dvs ≠ []) (hn : n + (dvs.length - i) = ps.length) (hb : PosD x st ps dvs.length n i) (tw : Takes X W) (ha : PA X (e :: es) t)
    (n0 : (x == ("__debug__" : Str)) = false := by decide) (n1 : starEach (e :: es) X.env = (false, eval e X.env) :: starEach es X.env := by rfl) (n2 : (backTo pos (starEach es X.env)).any (·.1) = false := by rfl) :
    PE X (.Call (.Name x p) (e :: es) [] pos) (tCallDS sp (dvs.drop i) W t) := by
  obtain ⟨f, fd, m, Z, F⟩ := F.ex
  obtain ⟨ds, rd, b⟩ := Z.binds1 n i hd hn fun T kV doc pm an cdv ct us its => hb T kV doc pm an cdv ct us its
  constructor
  intro pins s σ H Q I h
  refine wpAny_Call_Name_kw (ld_glob I hg m ?_ n0)
  refine PySem.W.callWith_K (h₀ := X.base) I.ok.mod.kin Z.kp (thn (ha.run pos pins s σ H _ I h) fun us s1 ⟨vs, H1, I1, r, q⟩ => ⟨I1.kIn, ?_⟩) n1 n2
  have rr := r.append rd
  have many : (us ++ ds).length = ps.length := (Paired.length rr).symm.trans (F.len _ _ _ _ q)
  refine wpAny_call (codeAny_mono (F.run X.A X.stack s1 H1 ⟨us, []⟩ (us ++ ds) (vs ++ dvs.drop i) Q (WE W σ) (hr.mono hk) I1.env0 (b s1 us I1.kIn many) rr q) fun res s' z => ?_)
  cases res with
  | error er => exact passAt tw σ pins H1 s1 er s' I1 z
  | ok fl =>
    cases fl with
    | ret u => exact I1.after z
    | next => exact False.elim z
    | brk => exact False.elim z
    | cont => exact False.elim z
end
/-- n values are written, then keywords named ks; g puts them and all the defaults in the parameters' order -/
structure KwD (x : Str) (st : Stmt) (ps : List Str) (dn n : Nat) (ks : List Str) (g : {α : Type} → List α → List α → List α → List α) : Prop where
  to : ∀ (T : Addr) (kV doc pm : Value) (an : Option Addr) (cdv ct : Value) (us ws its : List Value), us.length = n → ws.length = ks.length → its.length = dn →
    ∃ k, bindArgs (PySem.W.fnOf x x (defArgs st) (defBody st) (defScope st) (.ref T) kV doc pm an cdv ct) ⟨us, ks.zip ws⟩ = seqItems? (.ref T) >>= k ∧ k (some its.toArray) = pure (ps.zip (g us ws its))
  rel : ∀ {vs zs ds : List V} {us ws its : List Value}, Vals vs us → Vals zs ws → Vals ds its → Vals (g vs zs ds) (g us ws its)
section
variable {K : PySem.W.Frag} {mg : Str → Option Value} {x : Str} {st : Stmt} {ps ks : List Str} {dvs : List V} {n : Nat} {g : {α : Type} → List α → List α → List α → List α} {f : Addr} {fd : FuncData}
theorem kwd_binds (F : FunD K x x (defArgs st) (defBody st) (defScope st) dvs [] f fd) (hd : dvs ≠ []) (hb : KwD x st ps dvs.length n ks g) : ∃ its : List Value, KBn K fd ps n ks (fun us ws => g us ws its) (fun vs zs => g vs zs dvs) := by
  obtain ⟨oc, od, dV, kV, doc, pm, an, cdv, ct, osl, rfl, lk, hcd, hD, hK⟩ := F.ex
  rcases hD with ⟨e, _⟩ | ⟨_, T, o, its, m, rfl, lT, oT, rT⟩
  · exact absurd e hd
  · refine ⟨its, ⟨fun s us ws X l1 l2 => ?_, fun r1 r2 => hb.rel r1 r2 rT⟩⟩
    obtain ⟨k, e1, e2⟩ := hb.to T kV doc pm an cdv ct us ws its l1 l2 rT.length.symm
    refine BindsTo.of_looks fun M => ?_
    rw [e1]
    exact looks_items X lT oT (.of_pure e2)
end
section
variable {X : Cx} {CX : CXT} {j k n : Nat} {st : Stmt} {ps ks : List Str} {dvs : List V} {sp : Sp} {E : XK} {W : WX} {x : Str} {p pos : Pos} {kws : List Keyword} {t tk : TA} {g : {α : Type} → List α → List α → List α → List α}
def tKwDS (sp : Sp) (m : Nat) (g : {α : Type} → List α → List α → List α → List α) (ds : List V) (W : WX) (t : TA) : TE := fun σ H Q => t σ H fun zs H1 => zs.length = m ∧ sp (g [] zs ds) H1 Q (WE W σ)
/-- f(a = .., b = ..) in a try's body -/
theorem pe_kwDS (F : PrD X.prog X.w X.K X.mg X.base (L2.CX X.prog X.w) k x st ps dvs sp) (hr : Room j X.A) (hk : k ≤ j) (hg : Gl X x) (hd : dvs ≠ []) (hb : KwD x st ps dvs.length 0 ks g) (tw : Takes X W) (hkw : PK X kws tk)
    (n1 : (backToKw pos (keywordEach kws X.env)).all (·.1.isSome) = true := by rfl) (n2 : (backToKw pos (keywordEach kws X.env)).filterMap (·.1) = ks := by rfl) (n0 : (x == ("__debug__" : Str)) = false := by decide)
    (n3 : ((backTo pos (starEach [] X.env)).any (·.1) || (backToKw pos (keywordEach kws X.env)).any (·.1.isNone)) = false := by rfl) : PE X (.Call (.Name x p) [] kws pos) (tKwDS sp ks.length g dvs W tk) := by
  obtain ⟨f, fd, m, Z, F⟩ := F.ex
  obtain ⟨its, b⟩ := kwd_binds Z hd hb
  constructor
  intro pins s σ H Q I h
  refine wpAny_Call_Name_kw (ld_glob I hg m ?_ n0)
  refine PySem.W.callWith_KW0 (h₀ := X.base) I.ok.mod.kin Z.kp n1 ?_ n3
  refine thn (hkw.run pos pins s σ H _ I h) fun ws s2 ⟨zs, H2, I2, r, l, q⟩ => ⟨I2.kIn, ?_⟩
  rw [n2]
  refine wpAny_call (codeAny_mono (F.run X.A X.stack s2 H2 ⟨[], ks.zip ws⟩ (g [] ws its) (g [] zs dvs) Q (WE W σ) (hr.mono hk) I2.env0 (b.to s2 [] ws I2.kIn rfl (r.length.symm.trans l)) (b.rel .nil r) q) fun res s' z => ?_)
  cases res with
  | error er => exact passAt tw σ pins H2 s2 er s' I2 z
  | ok fl =>
    cases fl with
    | ret u => exact I2.after z
    | next => exact False.elim z
    | brk => exact False.elim z
    | cont => exact False.elim z
/-- f(.., a = .., b = ..) -/
theorem pe_kwD (F : PrD X.prog X.w X.K X.mg X.base CX k x st ps dvs sp) (hr : Room j X.A) (hk : k ≤ j) (hg : Gl X x) (hd : dvs ≠ []) (hb : KwD x st ps dvs.length n ks g) (hx : Passes CX X E) {e : Expr} {es : List Expr} (ha : PA X (e :: es) t) (hkw : PK X kws tk)
    (n1 : (backToKw pos (keywordEach kws X.env)).all (·.1.isSome) = true := by rfl) (n2 : (backToKw pos (keywordEach kws X.env)).filterMap (·.1) = ks := by rfl) (n0 : (x == ("__debug__" : Str)) = false := by decide)
    (n4 : starEach (e :: es) X.env = (false, eval e X.env) :: starEach es X.env := by rfl) (n3 : ((backTo pos (starEach (e :: es) X.env)).any (·.1) || (backToKw pos (keywordEach kws X.env)).any (·.1.isNone)) = false := by rfl) :
    PE X (.Call (.Name x p) (e :: es) kws pos) (tCallN n ks.length sp (fun vs zs => g vs zs dvs) E t tk) := by
  obtain ⟨f, fd, m, Z, F⟩ := F.ex
  obtain ⟨its, b⟩ := kwd_binds Z hd hb
  exact pe_callN F (hr.mono hk) hg m Z.kp b hx ha hkw n1 n2 n0 n4 n3
end
/-! ### walking a list or a tuple -/
/-- J walks the list or tuple xs at a -/
def Wk (K : PySem.W.Frag) (a : Addr) (xs : List V) (H : Hp) (J : It) : Prop := (J = Itl K a ∧ SqL K H a xs) ∨ (J = Itt K a ∧ SqT K H a xs)
theorem Wk.walk {K : PySem.W.Frag} {a : Addr} {xs : List V} {H : Hp} {J : It} (h : Wk K a xs H J) : ∃ G, Walk J xs.length G (YAt xs) ∧ G H ∧ ∀ H', Same H H' → G H' := by
  rcases h with ⟨rfl, hs⟩ | ⟨rfl, hs⟩
  · exact ⟨_, walk_list (K := K) (a := a) (xs := xs), hs, fun H' s => s.seq hs⟩
  · refine ⟨_, walk_tup (K := K) (a := a) (xs := xs), hs, fun H' s => ?_⟩
    rcases hs with hs | hs
    · rcases hs with hs | ⟨o, hs⟩
      · exact .inl (.inl (s _ _ hs))
      · exact .inl (.inr ⟨o, s _ _ hs⟩)
    · exact .inr hs
def iSeq (K : PySem.W.Frag) (tl : TE) : TI := fun σ H R => tl σ H fun x H1 => ∃ a xs, x = .ref a ∧ (SqL K H1 a xs ∨ SqT K H1 a xs) ∧ ∀ J, Wk K a xs H1 J → R J H1
theorem pi_seq {X : Cx} {tg l : Expr} {tl : TE} (hl : PE X l tl) : PI X tg l (iSeq X.K tl) := by
  refine ⟨fun pins s σ H R I h => thn (hl.run pins s σ H _ I h) fun v s1 z => ?_⟩
  obtain ⟨x, H1, I1, r1, a, xs, rfl, z, q⟩ := z
  cases r1
  have new : ∀ b ∈ [s1.heap.objs.size], FpOk X pins H1 b := fun b hb => by
    rw [List.mem_singleton.mp hb]
    exact I1.fpOk (Nat.le_refl _) (I1.hok.fresh (Nat.le_refl _))
  rcases z with hq | hq
  · obtain ⟨its, rv, p, hz⟩ := I1.list hq
    exact wpAny_pyIter_list p.isList ⟨s1.heap.objs.size, [s1.heap.objs.size], _, _, H1, rfl, I1.kept (t' := s1.toks) fun b o e => Heap.get?_push_of_some _ e, turn_list a _, ⟨_, Heap.get?_push_size _ rfl, rfl, rfl⟩, new, q _ (.inl ⟨rfl, hq⟩)⟩
  · obtain ⟨its, rv, p, hz⟩ := I1.tuple hq
    exact wpAny_pyIter_tuple (show s1.heap.IsTuple a its.toArray from p) ⟨s1.heap.objs.size, [s1.heap.objs.size], _, _, H1, rfl, I1.kept (t' := s1.toks) fun b o e => Heap.get?_push_of_some _ e, turn_tuple a _, ⟨_, Heap.get?_push_size _ rfl, rfl, rfl⟩, new, q _ (.inr ⟨rfl, hq⟩)⟩
end Gx
namespace Gx
open PySem PySem.Spec PyProof.Rows L2
/-! ### repr of lists and tuples that hold empty dicts -/
/-- the table of modules stands in the heap: a dict -/
def SysD (h : Heap) : Prop := ∃ o, h.get? sysModules = some o ∧ o.cls = .type "dict"
/-- the head's facts, and this one -/
def sysHook (K : Params → PySem.W.Frag) (as : List Addr) (e : ∀ P, as = (K P).map (·.1)) : PySem.W.Hook where
  α := List (Option Obj) × Option Value
  obs := fun s => (as.map s.heap.get?, (s.heap.get? sysModules).map (·.cls))
  val := fun w => ((K w.params).map fun p => some p.2, some (.type "dict"))
  says := fun w h => PySem.W.InK K w h ∧ SysD h
  of := fun w s x => ⟨PySem.W.InK.of e w s (Prod.mk.inj x).1, let ⟨o, h1, h2⟩ := Option.map_eq_some_iff.mp (Prod.mk.inj x).2; ⟨o, h1, h2⟩⟩
  keeps := fun w h h' x k => ⟨PySem.W.InK.keeps w h h' x.1 k, let ⟨o, h1, h2⟩ := x.2; ⟨o, k _ _ h1, h2⟩⟩
theorem sys_of {K : Params → PySem.W.Frag} {as : List Addr} {e : ∀ P, as = (K P).map (·.1)} {w : World} {h : Heap} (Y : (sysHook K as e).says w h) : (K w.params).In h ∧ SysD h := ⟨Y.1, Y.2⟩
section
variable {X : Cx} {pins : List (Addr × Obj)} {σ : L2.St} {H : Hp} {s : Shared}
theorem not_sys (S : SysD X.base) (I : Inv X pins σ H s) {a : Addr} {o : Obj} (ho : s.heap.get? a = some o) (hc : o.cls = .type "list") : a ≠ sysModules := fun z => by
  subst z
  obtain ⟨u, hu, e⟩ := S
  have := I.bk _ _ hu
  rw [ho] at this
  cases this
  exact absurd (Value.type.inj (hc.symm.trans e)) (by decide)
mutual
theorem Dq.reads2 (S : SysD X.base) (I : Inv X pins σ H s) : ∀ (d : PyData) (v : V) (u : Value), Dq X.K H v d → RelV v u → ∃ as, Reads s.heap u d as ∧ sysModules ∉ as
  | .none, _, _, h, r => by
    cases h; cases r
    exact ⟨_, .none, by simp⟩
  | .bool b, _, _, h, r => by
    cases h; cases r
    exact ⟨_, .bool b, by simp⟩
  | .int i, _, _, h, r => by
    cases h
    obtain ⟨t, rfl⟩ := r
    exact ⟨_, .int i t, by simp⟩
  | .str x, _, _, h, r => by
    cases h
    obtain ⟨t, rfl⟩ := r
    exact ⟨_, .str x t, by simp⟩
  | .list ds, _, _, h, r => by
    cases h with
    | lst hs ha =>
      cases r
      obtain ⟨its, rv, ⟨o, n, ho, hc, _, hd⟩, _⟩ := I.list hs
      obtain ⟨as, q, na⟩ := DqAll.reads2 S I ds _ its ha rv
      refine ⟨_, .list ho hc hd q, fun z => ?_⟩
      rcases List.mem_cons.mp z with z | z
      · exact not_sys S I ho hc z.symm
      · exact na z
  | .tuple ds, _, _, h, r => by
    cases h with
    | tup hs ha =>
      cases r
      obtain ⟨its, rv, ⟨o, ho, hc, n, hd⟩, _⟩ := I.tuple hs
      obtain ⟨as, q, na⟩ := DqAll.reads2 S I ds _ its ha rv
      exact ⟨_, .tuple ho hc hd q, na⟩
  | .dict kvs, _, _, h, r => by
    cases h with
    | nil e =>
      cases r
      obtain ⟨_, nm, _⟩ := I.hok _ _ e
      refine ⟨_, nil_reads I e, fun y => ?_⟩
      rw [← List.mem_singleton.mp y] at nm
      simp at nm
theorem DqAll.reads2 (S : SysD X.base) (I : Inv X pins σ H s) : ∀ (ds : List PyData) (vs : List V) (us : List Value), DqAll X.K H vs ds → Vals vs us → ∃ as, ReadsAll s.heap us ds as ∧ sysModules ∉ as
  | [], _, _, h, r => by
    cases h; cases r
    exact ⟨_, .nil, by simp⟩
  | d :: ds, _, _, h, r => by
    cases h with
    | cons h1 h2 =>
      cases r with
      | cons r1 r2 =>
        obtain ⟨as, q1, n1⟩ := Dq.reads2 S I d _ _ h1 r1
        obtain ⟨bs, q2, n2⟩ := DqAll.reads2 S I ds _ _ h2 r2
        exact ⟨_, .cons q1 q2, fun z => (List.mem_append.mp z).elim n1 n2⟩
end
end
/-- repr(l), l a list or a tuple -/
def rReprN (K : PySem.W.Frag) : List V → Hp → VK → Prop := fun xs H Q => ∃ a d, xs = [.ref a] ∧ Dq K H (.ref a) d ∧ d.showable = true ∧ d.depth ≤ 30 ∧ d.shown.length ≤ sizeLine ∧ Q (.str d.shown) H
theorem call_reprN {X : Cx} {K : PySem.W.Frag} (hK : X.K = K) (S : SysD X.base) (hgd : X.A.guards = some []) (hu : X.A.units + 64 < cLine) : CallR X (.builtin "repr") (rReprN K) := by
  subst hK
  intro pins s σ H xs us Q I r h
  obtain ⟨a, d, rfl, hd, hs, hdep, hsz, q⟩ := h
  obtain ⟨u, rfl, rx⟩ := vals1 r
  cases rx
  obtain ⟨as, rd, na⟩ := Dq.reads2 S I d _ _ hd rfl
  exact repr_of_reads' rd hs (fun _ => na) hgd (by omega) (fun _ _ e => e) (fun h' u tk k => ⟨.str d.shown, H, I.kept k, ⟨u, rfl⟩, q⟩) hsz
section
variable {P : Program} {w : World} {K : PySem.W.Frag} {mg mb : Str → Option Value} {k : Nat} {fa a : Addr} {fd : FuncData} {x : Str} {sp : Sp} {s₁ : Shared} {vs : List Value} {ns : List Int}
theorem law_goS (KX : K.In s₁.heap) (SX : SysD s₁.heap) (hm : s₁.heap.Ns mainGlobals mg) (hb : s₁.heap.Ns builtinsNs mb) (hbb : ∀ x : Str, x ≠ "__name__" → mb x = bootBuiltins x) (hl : s₁.heap.NoLimit) (hg : s₁.gens = #[])
    (ha : s₁.heap.get? a = some { cls := .type "list", data := .seq vs.toArray }) (hi : IntsAre vs ns) (hn : ns.length ≤ sizeLine) (hr : Room k callerA)
    (F : ∀ base : Heap, K.In base → base.Ns mainGlobals mg → SysD base → GOk P w K mg base CX0 k fa fd [x] sp) (hbind : ∀ (s : Shared) (u : Value), BindsTo s fd ⟨[u], []⟩ [(x, u)])
    (hsp : ∀ H : Hp, SqL K H a (ns.map V.int) → sp [.ref a] H (fun v _ => v = .bl true) fun _ _ _ => False) :
    codeAny (model P w) callerA (.call (.ref fa) ⟨[.ref a], []⟩) (fun r s' => r = .ok (.ret (.bool true)) ∧ OldK s₁.heap s'.heap ∧ s'.os = s₁.os ∧ AllBare s'.gens) s₁ := by
  have rv := vals_ints hi
  have key : ∀ H : Hp, (∀ b, H b = none ∨ (b = a ∧ ∃ o xs, H b = some (.frz o (.lst xs)))) → SqL K H a (ns.map V.int) → HOk P w H s₁.heap → (H a ≠ none → K.lookup a = none) →
      codeAny (model P w) callerA (.call (.ref fa) ⟨[.ref a], []⟩) (fun r s' => r = .ok (.ret (.bool true)) ∧ OldK s₁.heap s'.heap ∧ s'.os = s₁.os ∧ AllBare s'.gens) s₁ := fun H only hS ok hK => by
    have free : ∀ {b : Addr} {o : Obj} {es : Array DictEntry} {ep : Nat}, s₁.heap.get? b = some o → o.data = .dict es ep → H b = none := fun {b o es ep} e d => by
      rcases only b with z | ⟨rfl, _⟩
      · exact z
      · rw [ha] at e
        cases e
        cases d
    have ns1 : ∀ {b : Addr} {m : Str → Option Value}, s₁.heap.Ns b m → (hidT s₁.heap H).Ns b m := fun {b m} z => let ⟨o, es, ep, e, d, r⟩ := z; ⟨o, es, ep, hidT_get e (free e d), d, r⟩
    have kb : K.In (hidT s₁.heap H) := fun b o e => hidT_get (KX b o e) ((only b).elim id fun ⟨z, o', xs, q⟩ => by
      subst z
      rw [hK (by rw [q]; exact fun z => nomatch z)] at e
      cases e)
    have sb : SysD (hidT s₁.heap H) := by
      obtain ⟨o, h1, h2⟩ := SX
      refine ⟨o, hidT_get h1 ((only sysModules).elim id fun ⟨z, _⟩ => ?_), h2⟩
      rw [z, ha] at h1
      cases h1
      exact absurd (Value.type.inj h2) (by decide)
    have md : Mod K mg (hidT s₁.heap H) := ⟨kb, ns1 hm, ⟨mb, ns1 hb, hbb⟩, let ⟨mc, h1, h2⟩ := hl; ⟨mc, ns1 h1, h2⟩⟩
    have e0 : Env0 P w K mg (hidT s₁.heap H) callerA [] s₁ H := ⟨rfl, md, fun b o e => of_hidT e, Nat.le_of_eq (hidT_size _ _), trivial, (fun _ z => nomatch z), ok, .of_eq hg⟩
    refine codeAny_mono ((F _ kb (ns1 hm) sb).go (A := callerA) (us := [.ref a]) (vs := [.ref a]) rfl hr e0 (hbind s₁ (.ref a)) (.cons rfl .nil) (hsp H hS)) fun r s' z => ?_
    cases r with
    | error e => exact False.elim z
    | ok fl =>
      cases fl with
      | next => exact False.elim z
      | brk => exact False.elim z
      | cont => exact False.elim z
      | ret u =>
        obtain ⟨v, H', os, bare, un, ok', r', q⟩ := z
        cases q
        cases r'
        refine ⟨rfl, OldK.of_keep fun b o e => ?_, os, bare⟩
        rcases only b with z | ⟨_, ob, xs, z⟩
        · exact un.keep b o e z (fun y => nomatch y) (fun y => nomatch y)
        · have e1 := (ok b _ z).1
          have e2 := (ok' b _ (un.frzs b ob _ z)).1
          rw [e] at e1
          cases e1
          exact e2
  cases hk : K.lookup a with
  | some o =>
    have e := KX a o hk
    rw [ha] at e
    cases e
    exact key (fun _ => none) (fun _ => .inl rfl) (.inr ⟨_, vs.toArray, _, hk, rfl, rfl, rfl, by rw [List.size_toArray, hi.length]; exact hn, by simpa using rv⟩) (fun b u z => nomatch z) fun z => absurd rfl z
  | none =>
    have at_a : scr a { cls := .type "list", data := .seq vs.toArray } ns a = some (.frz { cls := .type "list", data := .seq vs.toArray } (.lst (ns.map V.int))) := if_pos rfl
    refine key (scr a { cls := .type "list", data := .seq vs.toArray } ns) (fun b => ?_) (.inl (.inr ⟨_, at_a⟩)) (fun b u z => ?_) fun _ => hk
    · by_cases c : b = a
      · exact .inr ⟨c, _, _, by rw [c]; exact at_a⟩
      · exact .inl (if_neg c)
    · by_cases c : b = a
      · subst c
        rw [at_a] at z
        cases z
        exact ⟨ha, by rw [List.length_map]; exact hn, vs, _, rv, ha⟩
      · have z' := (if_neg c).symm.trans z
        cases z'
end
/-- the end of a law row, with the table of modules known -/
theorem walkS {l : PySem.W.OpenLaw} {n k : Nat} {q : Program} {loose : List Str} {XP : (Str → Option Value) → Heap → Prop} {YP : World → Heap → Prop} {d : DefRec} {K : Params → PySem.W.Frag} {sp : World → Sp} {x nm : Str} {st : Stmt}
    (hn : l.most = some n) (hn2 : n ≤ sizeLine) (hdf : d.params.defaults = []) (hr : Room k callerA) (hY : ∀ (w : World) (h : Heap), YP w h → (K w.params).In h ∧ SysD h) (hnm : d.name = nm) (hb : PosB nm st [x])
    (F : ∀ (w : World) (mg : Str → Option Value) (h : Heap), (K w.params).In h → h.Ns mainGlobals mg → ∀ base : Heap, (K w.params).In base → base.Ns mainGlobals mg → SysD base → PrG l.prog w (K w.params) mg base CX0 k nm st [x] (sp w))
    (hsp : ∀ (w : World) (H : Hp) (a : Addr) (ns : List Int), ns.length ≤ n → SqL (K w.params) H a (ns.map V.int) → sp w [.ref a] H (fun v _ => v = .bl true) fun _ _ _ => False) :
    PySem.W.WalkO q loose XP YP l.row.toRowW d [] (fun f vs => PySem.call f vs) := by
  refine Att.attach_call hn hdf fun w s₀ s₁ mg mb fa o pm cd doc a vs ns G Y ho hd hcd hmg hobj hints hlen hg => ?_
  obtain ⟨KX, SX⟩ := hY w _ Y
  obtain ⟨f, fd, m, Z, _⟩ := (F w mg _ KX G.T.g _ KX G.T.g SX).ex
  rw [hnm, m] at hmg
  cases hmg
  refine law_goS (x := x) (fd := fd) KX SX G.T.g G.T.b G.T.builtins G.T.nolimit hg hobj hints (Nat.le_trans hlen hn2) hr (fun base kb nb sb => ?_) (fun s u => ?_) fun H hS => hsp w H a ns hlen hS
  · obtain ⟨f', fd', m', Z', F'⟩ := (F w mg _ KX G.T.g base kb nb sb).ex
    rw [m] at m'
    cases m'
    obtain ⟨_, _, _, _, _, _, _, _, _, rfl, l1, _⟩ := Z.ex
    obtain ⟨_, _, _, _, _, _, _, _, _, rfl, l2, _⟩ := Z'.ex
    rw [l1] at l2
    cases l2
    exact F'
  · obtain ⟨_, _, kV, doc, pm, an, cdv, ct, _, rfl, _, _⟩ := Z.ex
    exact .of_eq (hb kV doc pm an cdv ct [u] rfl)
end Gx
namespace Gx
open PySem PySem.Spec PyProof.Rows L2
/-! ### the head by one run: what the module's names reach, level by level -/
def stepA (g : Addr → Option Obj) (a : Addr) : List Addr := match g a with
  | some ⟨_, _, .func fd, _⟩ => He.refV fd.code ++ He.refV fd.defaults
  | some ⟨_, _, .cls cd, _⟩ => [cd.ns]
  | some ⟨_, _, .dict es _, _⟩ => es.toList.flatMap fun e => He.refV e.val
  | some ⟨.type c, _, .fields vs, _⟩ => if c = "property" ∨ c = "classmethod" ∨ c = "staticmethod" then vs.toList.flatMap He.refV else []
  | _ => []
def levels (g : Addr → Option Obj) : Nat → List Addr → List Addr
  | 0, l => l
  | n + 1, l => l ++ levels g n (l.flatMap (stepA g))
def asM (g : Addr → Option Obj) (n : Nat) : List Addr := levels g n [mainGlobals]
def sysB (g : Addr → Option Obj) : Bool := match g sysModules with
  | some o => o.cls == .type "dict"
  | none => false
abbrev AlM : Type := He.AlD × Bool × Bool
def obsM (n : Nat) (fa : List He.Fa) (fn : List He.DefD) (ex : PySem.W.Frag → Bool) (g : Addr → Option Obj) : AlM := (He.obsD fa fn (He.frG g (asM g n)), ex (He.frG g (asM g n)), sysB g)
def hookM (n : Nat) (fa : List He.Fa) (fn : List He.DefD) (ex : PySem.W.Frag → Bool) : PySem.W.Hook where
  α := AlM
  obs := fun s => obsM n fa fn ex s.heap.get?
  val := fun _ => (He.valD fn, true, true)
  says := fun _ h => ∃ K : PySem.W.Frag, K.In h ∧ He.SaysD fa fn K ∧ ex K = true ∧ SysD h
  of := fun _ s e => by
    have e1 : He.obsD fa fn (He.frG s.heap.get? (asM s.heap.get? n)) = He.valD fn := congrArg (fun z : AlM => z.1) e
    have e2 : ex (He.frG s.heap.get? (asM s.heap.get? n)) = true := congrArg (fun z : AlM => z.2.1) e
    have e3 : sysB s.heap.get? = true := congrArg (fun z : AlM => z.2.2) e
    refine ⟨_, He.frG_in, e1, e2, ?_⟩
    unfold sysB at e3
    split at e3
    · rename_i o ho
      exact ⟨o, ho, beq_iff_eq.mp e3⟩
    · cases e3
  keeps := fun _ _ _ ⟨K, hK, c, x, o, h1, h2⟩ k => ⟨K, PySem.W.Frag.In.keeps hK k, c, x, o, k _ _ h1, h2⟩
theorem obsM_eq {n : Nat} {fa : List He.Fa} {fn : List He.DefD} {ex : PySem.W.Frag → Bool} {g : Addr → Option Obj} {s : Shared} (h : ∀ a, g a = s.heap.get? a) : obsM n fa fn ex g = (hookM n fa fn ex).obs s := by
  have e : g = s.heap.get? := funext h
  rw [e]
  rfl
/-- the end of a law row over such a head -/
theorem walkM {l : PySem.W.OpenLaw} {n k : Nat} {q : Program} {loose : List Str} {XP : (Str → Option Value) → Heap → Prop} {YP : World → Heap → Prop} {d : DefRec} {sp : PySem.W.Frag → Sp} {x nm : Str} {st : Stmt}
    (hn : l.most = some n) (hn2 : n ≤ sizeLine) (hdf : d.params.defaults = []) (hr : Room k callerA) (hnm : d.name = nm) (hb : PosB nm st [x])
    (F : ∀ (w : World) (mg : Str → Option Value) (h : Heap), YP w h → h.Ns mainGlobals mg → ∃ K : PySem.W.Frag, K.In h ∧ SysD h ∧ ∀ base : Heap, K.In base → base.Ns mainGlobals mg → SysD base → PrG l.prog w K mg base CX0 k nm st [x] (sp K))
    (hsp : ∀ (K : PySem.W.Frag) (H : Hp) (a : Addr) (ns : List Int), ns.length ≤ n → SqL K H a (ns.map V.int) → sp K [.ref a] H (fun v _ => v = .bl true) fun _ _ _ => False) :
    PySem.W.WalkO q loose XP YP l.row.toRowW d [] (fun f vs => PySem.call f vs) := by
  refine Att.attach_call hn hdf fun w s₀ s₁ mg mb fa o pm cd doc a vs ns G Y ho hd hcd hmg hobj hints hlen hg => ?_
  obtain ⟨K, KX, SX, FX⟩ := F w mg _ Y G.T.g
  obtain ⟨f, fd, m, Z, _⟩ := (FX _ KX G.T.g SX).ex
  rw [hnm, m] at hmg
  cases hmg
  refine law_goS (x := x) (fd := fd) KX SX G.T.g G.T.b G.T.builtins G.T.nolimit hg hobj hints (Nat.le_trans hlen hn2) hr (fun base kb nb sb => ?_) (fun s u => ?_) fun H hS => hsp K H a ns hlen hS
  · obtain ⟨f', fd', m', Z', F'⟩ := (FX base kb nb sb).ex
    rw [m] at m'
    cases m'
    obtain ⟨_, _, _, _, _, _, _, _, _, rfl, l1, _⟩ := Z.ex
    obtain ⟨_, _, _, _, _, _, _, _, _, rfl, l2, _⟩ := Z'.ex
    rw [l1] at l2
    cases l2
    exact F'
  · obtain ⟨_, _, kV, doc, pm, an, cdv, ct, _, rfl, _, _⟩ := Z.ex
    exact .of_eq (hb kV doc pm an cdv ct [u] rfl)
/-- a def's record of the top -/
def defD (x : Str) (st : Stmt) : He.DefD := ⟨(x, none), x, x, defArgs st, defBody st, defScope st, [], []⟩
/-- a method's -/
def methD (c m qual : Str) (st : Stmt) : He.DefD := ⟨(c, some m), m, qual, defArgs st, defBody st, defScope st, [], []⟩
section
variable {K : PySem.W.Frag} {h : Heap} {mg : Str → Option Value} {fa : List He.Fa} {fn : List He.DefD}
theorem defAt_of (X : K.In h) (G : h.Ns mainGlobals mg) (c : He.SaysD fa fn K) {x : Str} {st : Stmt} (hg : He.Fa.glo x ∈ fa) (hd : defD x st ∈ fn) : DefAt K mg x st := by
  obtain ⟨i, hi, e⟩ := List.mem_iff_getElem.mp hg
  obtain ⟨j, hj, e2⟩ := List.mem_iff_getElem.mp hd
  have f := c.fact i (f := .glo x) (by rw [List.getElem?_eq_getElem hi, e])
  obtain ⟨fd, F⟩ := c.def_ j (d := defD x st) (by rw [List.getElem?_eq_getElem hj, e2])
  exact ⟨_, fd, He.glo_ok X G f, He5.fun_of F⟩
theorem meth_of (c : He.SaysD fa fn K) {x m qual : Str} {st : Stmt} (hd : methD x m qual st ∈ fn) : ∃ fd, Fun K m qual st (He.ma K (He.ga K x) m) fd := by
  obtain ⟨j, hj, e2⟩ := List.mem_iff_getElem.mp hd
  obtain ⟨fd, F⟩ := c.def_ j (d := methD x m qual st) (by rw [List.getElem?_eq_getElem hj, e2])
  exact ⟨fd, He5.fun_of F⟩
theorem fact_of (c : He.SaysD fa fn K) {f : He.Fa} (hf : f ∈ fa) : f.ok K = true := by
  obtain ⟨i, hi, e⟩ := List.mem_iff_getElem.mp hf
  exact c.fact i (by rw [List.getElem?_eq_getElem hi, e])
end
end Gx
namespace Gx
open PySem PySem.Spec PyProof.Rows L2
section
variable {K : PySem.W.Frag} {h : Heap} {mg : Str → Option Value} {x m qual : Str} {st : Stmt}
theorem defAt_i (X : K.In h) (G : h.Ns mainGlobals mg) (f : (He.Fa.glo x).ok K = true) (d : ∃ fd, FunD K x x (defArgs st) (defBody st) (defScope st) [] [] (He.fAd K (x, none)) fd) : DefAt K mg x st :=
  let ⟨fd, F⟩ := d
  ⟨_, fd, He.glo_ok X G f, He5.fun_of F⟩
theorem meth_i (d : ∃ fd, FunD K m qual (defArgs st) (defBody st) (defScope st) [] [] (He.fAd K (x, some m)) fd) : ∃ fd, Fun K m qual st (He.ma K (He.ga K x) m) fd :=
  let ⟨fd, F⟩ := d
  ⟨fd, He5.fun_of F⟩
theorem cl_ga (X : K.In h) (G : h.Ns mainGlobals mg) (f : (He.Fa.glo x).ok K = true) : cl mg x = He.ga K x := cl_of (He.glo_ok X G f)
theorem known_int (X : K.In h) (G : h.Ns mainGlobals mg) {i : Int} (f : (He.Fa.int x i).ok K = true) : KnownAt mg x (.int i) :=
  let ⟨t, e⟩ := He.int_ok X G f
  ⟨_, e, t, rfl⟩
theorem known_str (X : K.In h) (G : h.Ns mainGlobals mg) {z : Str} (f : (He.Fa.str x z).ok K = true) : KnownAt mg x (.str z) :=
  let ⟨t, e⟩ := He.str_ok X G f
  ⟨_, e, t, rfl⟩
theorem all_at {l : List Bool} (h : l.all id = true) (i : Nat) {b : Bool} (e : l[i]? = some b := by rfl) : b = true := List.all_eq_true.mp h b (List.mem_of_getElem? e)
end
/-- three looks at one run -/
theorem map_three {α β γ : Type} {o : Option α} {f1 : α → Bool} {f2 : α → γ} {g : α → β} {k1 k2 : α → Bool} {a d e : Bool} {b : γ} {c : β} (h1 : o.map (fun s => (f1 s, f2 s)) = some (a, b)) (h2 : o.map g = some c) (h3 : o.map (fun s => (k1 s, k2 s)) = some (d, e)) :
    o.map (fun s => (f1 s, f2 s, (g s, k1 s, k2 s))) = some (a, b, (c, d, e)) := by
  cases o with
  | none => cases h1
  | some s =>
    have h1 := Option.some.inj h1
    have h2 := Option.some.inj h2
    have h3 := Option.some.inj h3
    have e1 : f1 s = a := congrArg Prod.fst h1
    have e2 : f2 s = b := congrArg Prod.snd h1
    have e3 : g s = c := h2
    have e4 : k1 s = d := congrArg Prod.fst h3
    have e5 : k2 s = e := congrArg Prod.snd h3
    show some (f1 s, f2 s, (g s, k1 s, k2 s)) = _
    rw [e1, e2, e3, e4, e5]
open PySem.W PySem.Calls in
/-- the run's equation from three looks at it -/
theorem run_three {r : PySem.W.OpenRow} {q : Program} {M n : Nat} {loose : List Str} {fa : List He.Fa} {fn : List He.DefD} {ex : PySem.W.Frag → Bool} {w : World} {ob : PySem.W.SharedT → AlM}
    (ho : ∀ s, ob s = obsM n fa fn ex (HandSHeadRun.getT s))
    (h1 : ∀ os : OsState, (HandSHeadRun.endF (HandSHeadRun.stepQ (HandSHeadRun.denQ HandSHeadRun.tabQ) r.prog w) M r.prog w os).map (fun s => (HandSHeadRun.looksF r.prog (boot_heap w.params) s.abs, HandSHeadRun.seenQ q loose (importedModules r.prog.main.body) (fun s => PySem.W.xlAt q [] s && PySem.W.recOk r.toRowW.records s) s.abs)) = some (true, PySem.W.openGood q loose))
    (h2 : ∀ os : OsState, (HandSHeadRun.endF (HandSHeadRun.stepQ (HandSHeadRun.denQ HandSHeadRun.tabQ) r.prog w) M r.prog w os).map (fun s => He.obsD fa fn (He.frG (HandSHeadRun.getT s) (asM (HandSHeadRun.getT s) n))) = some (He.valD fn))
    (h3 : ∀ os : OsState, (HandSHeadRun.endF (HandSHeadRun.stepQ (HandSHeadRun.denQ HandSHeadRun.tabQ) r.prog w) M r.prog w os).map (fun s => (ex (He.frG (HandSHeadRun.getT s) (asM (HandSHeadRun.getT s) n)), sysB (HandSHeadRun.getT s))) = some (true, true)) :
    HandSHeadRun.RunEq r q (hookM n fa fn ex) ob M loose w := fun os => by
  have z := map_three (h1 os) (h2 os) (h3 os)
  rw [show ob = fun s => obsM n fa fn ex (HandSHeadRun.getT s) from funext ho]
  exact z
end Gx
namespace PySem
namespace GXP
open Builtin Builtin.ObjectAttr HandSPX
section
variable {M : Model} {A : Around} {E : Value → Shared → Prop} {h : Heap} {g : Array GenState} {d : Drawn} {t : Nat} {os : OsState}
variable {nm q : Str} {C N : Addr} {bs bm bmB : List Value} {hdct : Bool} {sn : List Str} {sub : List Value} {ab : Bool} {col : Option Bool} {dd : Option Addr} {k0 k1 k2 k3 k5 : Option Value} {B newId initId : String}
theorem check_new_kw (F : ExcBaseFacts B newId initId bmB) (hT : ∀ X : String, bm.contains (.type X) = bmB.contains (.type X)) {rest : List Value} {kw : List (Str × Value)} {Q : Unit → Shared → Prop}
    (hC : h.get? C = some (excClassObj nm q C N bs bm hdct sn sub ab col dd k0 k1 k2 k3 k5 newId)) (hq : Q () ⟨h, g, d, t, os⟩) : wpAny M A (checkBuiltinCall newId ⟨.ref C :: rest, kw⟩) Q E ⟨h, g, d, t, os⟩ := by
  have hcont : (Value.ref C :: bm).contains (.type B) = true := by rw [List.contains_cons, hT, F.hasB, Bool.or_true]
  have hstar := F.noStar
  simp only [checkBuiltinCall, F.newKind, F.newSplit, F.newRow]
  repeat (first | refine wpAny_loadPart_at hC ?_ | (refine wpAny_isSubtype_exc hC ?_; rw [hcont]) | refine wpAny_staticBase_exc hC ?_ | refine wpAny_madeBy_exc hC ?_ | simp only [bne_self_eq_false, Bool.false_eq_true, if_false] | wp_step)
  exact hq
end
section
variable {prog : Program} {w : World} {A : Around} {E : Value → Shared → Prop} {R : Result → Shared → Prop} {h : Heap} {g : Array GenState} {d : Drawn} {t : Nat} {os : OsState}
variable {nm q : Str} {C N : Addr} {bs bm bmB : List Value} {hdct : Bool} {sn : List Str} {sub : List Value} {ab : Bool} {col : Option Bool} {dd : Option Addr} {k0 k1 k2 k3 k5 : Option Value} {B newId initId : String}

theorem new_kw (F : ExcBaseFacts B newId initId bmB) (hT : ∀ X : String, bm.contains (.type X) = bmB.contains (.type X)) {rest : List Value} {kw : List (Str × Value)}
    (hC : h.get? C = some (excClassObj nm q C N bs bm hdct sn sub ab col dd k0 k1 k2 k3 k5 newId))
    (hq : R (.ok (.ret (.ref (h.objs.size + 1)))) ⟨(h.push { cls := .type "tuple", data := .seq rest.toArray }).push
      { cls := .ref C, data := .fields #[.ref h.objs.size, .none, .none, .none, .bool false, .none] }, g, d, t, os⟩) (hrest : rest.length ≤ sizeLine) :
    codeAny (model prog w) A (.builtin newId ⟨.ref C :: rest, kw⟩) R ⟨h, g, d, t, os⟩ := by
  have hends := F.ends
  have hcB : (Value.ref C :: bm).contains (.type B) = true := by rw [List.contains_cons, hT, F.hasB, Bool.or_true]
  have hcA : (Value.ref C :: bm).contains (.type "AttributeError") = false := by rw [List.contains_cons, hT, F.noAttr]; rfl
  have hcN : (Value.ref C :: bm).contains (.type "NameError") = false := by rw [List.contains_cons, hT, F.noName]; rfl
  refine codeAny_builtinAt F.entry ?_
  unfold Builtin.«BaseException.__new__»
  refine wpAt_bind ?_
  show wpAt _ _ _ (stack >>= _) _ _ _
  refine wpAt_bind (wpAt_stack fun p below => wpAt_of_wpAny ?_)
  wp_walk
  refine wpAt_of_wpAny ?_
  rw [F.owner]
  repeat (first | with_reducible refine wpAny_madeHere_exc F.canon hC ?_ | with_reducible refine wpAny_loadPart_at hC ?_ | (with_reducible refine wpAny_isSubtype_exc hC ?_; first | rw [hcB] | rw [hcA] | rw [hcN]) | wp_step)
  show R _ _
  rw [Heap.size_push]
  exact hq

theorem type_call_kw (F : ExcBaseFacts B newId initId bmB) (hT : ∀ X : String, bm.contains (.type X) = bmB.contains (.type X)) {rest : List Value} {kw : List (Str × Value)} {fI : Addr} {Q : Fin → Shared → Prop}
    (hC : h.get? C = some (excClassObj nm q C N bs bm hdct sn sub ab col dd k0 k1 k2 k3 k5 newId))
    (hi : W.Looks (model prog w) h (typeLookup (.ref C) "__init__") (some (.ref fI))) (hb : ∀ self, W.Looks (model prog w) h (bindSpecial (.ref fI) self) (.ref fI, [self])) (hrest : rest.length ≤ sizeLine)
    (hq : codeAny (model prog w) A (.call (.ref fI) ⟨.ref (h.objs.size + 1) :: rest, kw⟩)
      (fun r s' => match r with | .ok (.ret v) => v = .none ∧ Q (.done (.ret (.ref (h.objs.size + 1)))) s' | .ok _ => False | .error e => E e s')
      ⟨(h.push (W.kdv_tup rest)).push (excO C h.objs.size), g, d, t, os⟩) :
    wpAny (model prog w) A (Builtin.«type.__call__» ⟨.ref C :: rest, kw⟩) Q E ⟨h, g, d, t, os⟩ := by
  repeat (first | with_reducible refine wpAny_loadPart_at hC ?_ | with_reducible refine wpAny_madeBy_exc hC ?_ | wp_step)
  refine codeAny_call_builtin_code (Code.quiet_builtin _ F.quiet) (check_new_kw F hT hC ?_)
  refine new_kw F hT hC ?_ hrest
  show wpAny _ _ _ _ _ _
  have k : ∀ b o, h.get? b = some o → ((h.push (W.kdv_tup rest)).push (excO C h.objs.size)).get? b = some o := fun b o e => Heap.get?_push_of_some _ (Heap.get?_push_of_some _ e)
  have hC₁ := k _ _ hC
  have hget : ((h.push (W.kdv_tup rest)).push (excO C h.objs.size)).get? (h.objs.size + 1) = some (excO C h.objs.size) := by heap_get
  have hcC : (Value.ref C :: bm).contains (.ref C) = true := by simp
  have i1 := hi.keeps k
  have b1 := (hb (.ref (h.objs.size + 1))).keeps k
  unfold isInstance
  repeat (first | with_reducible refine wpAny_loadPart_at hget ?_ | (with_reducible refine wpAny_isSubtype_exc hC₁ ?_; rw [hcC]) | wp_step)
  show wpAny _ _ (typeLookup (.ref C) _) _ _ _
  refine i1.at ?_
  refine wpAny_holding (wpAny_bind (b1.at ?_))
  refine wpAny_bind (wpAny_call (codeAny_mono hq fun r s' z => ?_))
  rcases r with e | (v | _ | _ | _) <;> first | exact z | exact z.elim | skip
  obtain ⟨rfl, z⟩ := z
  first
    | exact wpAny_pure (wpAny_pure z)
    | (wp_walk; exact z)

theorem call_kw (F : ExcBaseFacts B newId initId bmB) (hT : ∀ X : String, bm.contains (.type X) = bmB.contains (.type X)) {rest : List Value} {kw : List (Str × Value)} {fI : Addr}
    (hC : h.get? C = some (excClassObj nm q C N bs bm hdct sn sub ab col dd k0 k1 k2 k3 k5 newId))
    (hi : W.Looks (model prog w) h (typeLookup (.ref C) "__init__") (some (.ref fI))) (hb : ∀ self, W.Looks (model prog w) h (bindSpecial (.ref fI) self) (.ref fI, [self])) (hrest : rest.length ≤ sizeLine)
    (hq : codeAny (model prog w) (A.under (.builtin "type.__call__" ⟨.ref C :: rest, kw⟩)) (.call (.ref fI) ⟨.ref (h.objs.size + 1) :: rest, kw⟩) (W.InitBack (h.objs.size + 1) R)
      ⟨(h.push (W.kdv_tup rest)).push (excO C h.objs.size), g, d, t, os⟩) :
    codeAny (model prog w) A (.call (.ref C) ⟨rest, kw⟩) R ⟨h, g, d, t, os⟩ := by
  have f1 := tc_lookup
  have f2 := tc_bind (.ref C)
  have hTy : (⟨h, g, d, t, os⟩ : Shared).TypeIs (.ref C) "type" := ⟨_, hC, rfl⟩
  refine codeAny_of_tree ?_
  show wpAny _ _ (callAny (.ref C) _) _ _ _
  repeat (any_goals (first | assumption | with_reducible refine wpAny_loadPart_at hC ?_ | wp_step))
  refine ⟨rfl, ?_⟩
  refine codeAny_call_builtin_at (Code.quiet_builtin _ (by decide +kernel)) entry_typeCall (wpAny_check_type_call_sub hC (type_call_kw F hT hC hi hb hrest ?_))
  refine codeAny_mono hq fun r s' z => ?_
  rcases r with e | (v | _ | _ | _) <;> exact z
end
end GXP
end PySem
namespace Gx
open PySem PySem.Spec PyProof.Rows L2
/-! ### errors as plain values -/
/-- a built-in class over which the program's error classes stand -/
structure EB (B newId initId : String) (bmB : List Value) : Prop where
  F : ExcBaseFacts B newId initId bmB
  S : StoreFacts B bmB "object.__setattr__" "object"
abbrev tlV : List Value := [.type "ValueError", .type "Exception", .type "BaseException", .type "object"]
abbrev tlL : List Value := [.type "LookupError", .type "Exception", .type "BaseException", .type "object"]
abbrev tlR : List Value := [.type "RuntimeError", .type "Exception", .type "BaseException", .type "object"]
abbrev tlA : List Value := [.type "ArithmeticError", .type "Exception", .type "BaseException", .type "object"]
theorem ebV : EB "ValueError" "ValueError.__new__" "ValueError.__init__" tlV := ⟨PySem.F.excBase_ValueError, PySem.F.store_ValueError⟩
theorem ebL : EB "LookupError" "LookupError.__new__" "LookupError.__init__" tlL := ⟨PySem.F.excBase_LookupError, PySem.F.store_LookupError⟩
theorem ebR : EB "RuntimeError" "RuntimeError.__new__" "RuntimeError.__init__" tlR := ⟨PySem.F.excBase_RuntimeError, PySem.F.store_RuntimeError⟩
theorem ebA : EB "ArithmeticError" "ArithmeticError.__new__" "ArithmeticError.__init__" tlA := ⟨PySem.F.excBase_ArithmeticError, PySem.F.store_ArithmeticError⟩
/-- what the written part says of such a class -/
def ecB (K : PySem.W.Frag) (C : Addr) (bmB : List Value) (newId : String) : Bool :=
  PySem.W.excInitIn K C bmB newId && PySem.W.excOver K C bmB && PySem.W.hasDictIn K C && PySem.W.keepIn K (.ref C) && PySem.W.isClsIn K C &&
  (PySem.W.typeIn K (.ref C) == some (.type "type")) && (PySem.W.findIn K (.ref C) "__setattr__" == some (some (.builtin "object.__setattr__"))) &&
  (PySem.W.findIn K (.ref C) "__getattribute__" == some (some (.builtin "BaseException.__getattribute__"))) && (PySem.W.findIn K (.ref C) "__getattr__" == some none) &&
  (PySem.W.findIn K (.ref C) "__class__" == some (some (.builtin "object.__class__"))) && (PySem.W.subIn K (.ref C) (.type "BaseException") == some true) &&
  (PySem.W.mroIn K C (.type "object") == some true) && (PySem.W.specialIn K (.builtin "object.__class__") "__get__" == some (some (.builtin "getset_descriptor.__get__"))) &&
  (PySem.W.takesIn K (.builtin "object.__class__") == some true)
structure EC (K : PySem.W.Frag) (C : Addr) (bmB : List Value) (newId : String) : Prop where
  i : PySem.W.excInitIn K C bmB newId = true
  o : PySem.W.excOver K C bmB = true
  hd : PySem.W.hasDictIn K C = true
  kC : PySem.W.keepIn K (.ref C) = true
  is : PySem.W.isClsIn K C = true
  ty : PySem.W.typeIn K (.ref C) = some (.type "type")
  sa : PySem.W.findIn K (.ref C) "__setattr__" = some (some (.builtin "object.__setattr__"))
  ga : PySem.W.findIn K (.ref C) "__getattribute__" = some (some (.builtin "BaseException.__getattribute__"))
  gg : PySem.W.findIn K (.ref C) "__getattr__" = some none
  gc : PySem.W.findIn K (.ref C) "__class__" = some (some (.builtin "object.__class__"))
  ex : PySem.W.subIn K (.ref C) (.type "BaseException") = some true
  mo : PySem.W.mroIn K C (.type "object") = some true
  gn : PySem.W.specialIn K (.builtin "object.__class__") "__get__" = some (some (.builtin "getset_descriptor.__get__"))
  gt : PySem.W.takesIn K (.builtin "object.__class__") = some true
theorem EC.of {K : PySem.W.Frag} {C : Addr} {bmB : List Value} {newId : String} (h : ecB K C bmB newId = true) : EC K C bmB newId := by
  unfold ecB at h
  simp only [Bool.and_eq_true, beq_iff_eq] at h
  obtain ⟨⟨⟨⟨⟨⟨⟨⟨⟨⟨⟨⟨⟨h1, h2⟩, h3⟩, h4⟩, h5⟩, h6⟩, h7⟩, h8⟩, h9⟩, h10⟩, h11⟩, h12⟩, h13⟩, h14⟩ := h
  exact ⟨h1, h2, h3, h4, h5, h6, h7, h8, h9, h10, h11, h12, h13, h14⟩
/-- an error object at p, of the class at C, with these fields (the one stored last first) -/
def ErrO (H : Hp) (p C : Addr) (fs : List (Str × V)) : Prop := (fs = [] ∧ H p = some (exo p C none)) ∨ ∃ d, H p = some (exo p C (some d)) ∧ H d = some (exd d fs)
theorem ErrO.same {H H' : Hp} {p C : Addr} {fs : List (Str × V)} (h : ErrO H p C fs) (s : Same H H') : ErrO H' p C fs := by
  rcases h with ⟨e, h⟩ | ⟨d, h1, h2⟩
  · exact .inl ⟨e, s _ _ h⟩
  · exact .inr ⟨d, s _ _ h1, s _ _ h2⟩
section
variable {X : Cx} {pins : List (Addr × Obj)} {σ : L2.St} {H : Hp} {s : Shared} {a C dx : Addr} {f : Str} {y : V} {u : Value} {fs : List (Str × V)} {Q : Unit → Shared → Prop} {E : Value → Shared → Prop} {A : Around} {B newId initId : String} {bmB : List Value}
theorem storeOwn_new {prog : Program} {w : World} {K : PySem.W.Frag} {R : Fin → Shared → Prop} {hp : Heap} {g : Array GenState} {d : Drawn} {t : Nat} {os : OsState} {name : Str} {tk : Tok} {v : Value} {x C : Addr} {fv : Array Value} {b : Bool}
    (X : K.In hp) (hx : hp.get? x = some { cls := .ref C, data := .fields fv }) (hh : PySem.W.hasDictIn K C = true)
    (hq : ∀ h' tk' dx, (∀ b o, b ≠ x → hp.get? b = some o → h'.get? b = some o) → hp.objs.size ≤ dx → dx ≠ x → h'.get? x = some { cls := .ref C, dict := some dx, data := .fields fv } →
      h'.Ns1 dx (fun y => if y = name then some v else none) → R (.done (.ret .none)) ⟨h', g, d, tk', os⟩) :
    wpAny (model prog w) A (Builtin.ObjectAttr.storeInOwnDict (.ref x) (.ref C) (.str name tk) name v b) R E ⟨hp, g, d, t, os⟩ := by
  obtain ⟨cd, hcd, hd⟩ := PySem.W.any_some hh
  have hcls : PySem.W.Looks (model prog w) hp (classData C) cd := PySem.W.looks_clsIn X hcd
  have hxs : x ≠ hp.objs.size := Nat.ne_of_lt (Heap.lt_size hx)
  obtain ⟨nm, bs, mro, ns, qn, hdd, sn, sb, ab, col, del⟩ := cd
  dsimp only at hd
  subst hd
  unfold Builtin.ObjectAttr.storeInOwnDict Builtin.ObjectAttr.ownDictForStores
  repeat (first | with_reducible refine HandSPX.store_in_new ?_ ?_ | with_reducible refine wpAny_loadPart_at hx ?_ | with_reducible refine hcls.at ?_ | wp_step)
  · exact ⟨_, #[], _, (Heap.get?_update_ne _ _ _ _ hxs.symm).trans (Heap.get?_push_at rfl rfl), rfl, fun e he => absurd he (by simp), fun _ => rfl⟩
  · intro h' tk' hn' hs
    have hx₁ : (hp.push { cls := .type "dict", data := .dict #[] }).get? x = some { cls := .ref C, data := .fields fv } := Heap.get?_push_of_some _ hx
    refine hq h' tk' hp.objs.size (fun b o hb ho => ?_) (Nat.le_refl _) hxs.symm ?_ hn'
    · exact (hs.2 b (Nat.ne_of_lt (Heap.lt_size ho))).trans ((Heap.get?_update_ne _ _ _ _ hb).trans (Heap.get?_push_of_some _ ho))
    · exact (hs.2 x hxs).trans (Heap.get?_update_self _ hx₁ rfl)
end
end Gx
namespace Gx
open PySem PySem.Spec PyProof.Rows L2
section
variable {X : Cx} {pins : List (Addr × Obj)} {σ : L2.St} {H : Hp} {s : Shared} {a C dx : Addr} {f : Str} {y : V} {u : Value} {fs : List (Str × V)} {Q : Unit → Shared → Prop} {E : Value → Shared → Prop} {A : Around} {B newId initId : String} {bmB : List Value}
theorem taker_none {K : PySem.W.Frag} {C : Addr} {f : Str} (h : PySem.W.findIn K (.ref C) f = some none) : PySem.W.takerIn K C f = some none := by unfold PySem.W.takerIn; rw [h]; rfl
/-- self.f = y, the first one -/
theorem osb_new (F : EB B newId initId bmB) (T : EC X.K C bmB newId) (I : Inv X pins σ H s) (e : H a = some (exo a C none)) (hno : PySem.W.findIn X.K (.ref C) f = some none) (ry : RelV y u)
    (h : ∀ dx s', H dx = none → dx ≠ a → Inv X pins σ (upd (upd H dx (exd dx [(f, y)])) a (exo a C (some dx))) s' → Q () s') : wpAny (model X.prog X.w) A (setAttr (.ref a) f u) Q E s := by
  obtain ⟨t1, ho⟩ := exo_at I.hok e
  obtain ⟨hp, g, d, t, os⟩ := s
  have IA : PySem.W.InstAt hp a { cls := .ref C, dict := none, data := .fields #[.ref t1, .none, .none, .none, .bool false, .none] } C none := ⟨ho, rfl, rfl, trivial⟩
  refine PySem.W.set_plain I.kIn (od := none) IA T.sa ?_
  refine PySem.W.osa_openX (od := none) F.S I.kIn IA T.o (taker_none hno) fun b => ?_
  refine storeOwn_new I.kIn ho T.hd (fun h' tk' dx k dn dne hx hn => ?_)
  have hnd : H dx = none := I.hok.fresh dn
  have nd : ∀ {b : Addr} {o : Obj}, hp.get? b = some o → b ≠ dx := fun {b o} q => Nat.ne_of_lt (Nat.lt_of_lt_of_le (Heap.lt_size q) dn)
  have na : ∀ {b : Addr}, H b = none → b ≠ a := fun {b} n z => by
    rw [z, e] at n
    cases n
  have Un1 : Un X.fs [] H (upd (upd H dx (exd dx [(f, y)])) a (exo a C (some dx))) hp h' := {
    keep := fun b o q n _ _ => k b o (na n) q
    slot := fun b o q n _ _ => ⟨o.slots, k b o (na n) q⟩
    free := fun b o q n _ => by rw [upd_ne (na n), upd_ne (nd q)]; exact n
    there := fun b o q _ => by
      by_cases hb : b = a
      · exact ⟨_, by rw [hb]; exact hx⟩
      · exact ⟨o, k b o hb q⟩
    tups := fun b xs q => by rw [upd_ne (at_ne e q exo_tup), upd_ne (ne_of_none q hnd)]; exact q
    frzs := fun b o v q => by rw [upd_ne (at_ne e q exo_frz), upd_ne (ne_of_none q hnd)]; exact q
    tbls := fun b ps q => ⟨#[], by rw [upd_ne (at_ne e q exo_tbl), upd_ne (ne_of_none q hnd), q]; simp⟩ }
  refine h dx _ hnd dne (I.un (t' := tk') Un1 fun b o q => ?_)
  by_cases hb : b = a
  · subst hb
    rw [upd_same] at q
    cases q
    exact exo_ok hx
  · rw [upd_ne hb] at q
    by_cases hd : b = dx
    · subst hd
      rw [upd_same] at q
      cases q
      exact exd_ok hn (relO_put (fs := []) ry fun g => True.intro)
    · rw [upd_ne hd] at q
      exact (I.hok b o q).stay (fun c v hc z => k c v (by
          rcases hc with hc | hc
          · rw [hc]
            exact hb
          · exact at_ne e hc exo_own) z)
        (fun c hc => by rw [upd_ne (at_ne e hc exo_own), upd_ne (ne_of_none hc hnd)]; exact hc) (fun c xs hc => by rw [upd_ne (at_ne e hc exo_tup), upd_ne (ne_of_none hc hnd)]; exact hc)
/-- self.f = y, a further one -/
theorem osb_old (F : EB B newId initId bmB) (T : EC X.K C bmB newId) (I : Inv X pins σ H s) (e : H a = some (exo a C (some dx))) (ed : H dx = some (exd dx fs)) (hl : fs.length ≤ 900) (hno : PySem.W.findIn X.K (.ref C) f = some none) (ry : RelV y u)
    (h : ∀ s', Inv X pins σ (upd H dx (exd dx ((f, y) :: fs))) s' → Q () s') : wpAny (model X.prog X.w) A (setAttr (.ref a) f u) Q E s := by
  obtain ⟨t1, ho⟩ := exo_at I.hok e
  obtain ⟨mA, hns, rel⟩ := exd_at I.hok ed
  have hw := within_of rel
  obtain ⟨hp, g, d, t, os⟩ := s
  obtain ⟨oD, _, _, hoD, _, _⟩ := hns.count hw
  have IA : PySem.W.InstAt hp a { cls := .ref C, dict := some dx, data := .fields #[.ref t1, .none, .none, .none, .bool false, .none] } C (some oD) := ⟨ho, rfl, rfl, hoD⟩
  refine PySem.W.set_plain I.kIn (od := some oD) IA T.sa ?_
  refine PySem.W.osa_openX (od := some oD) F.S I.kIn IA T.o (taker_none hno) fun b => ?_
  obtain ⟨cd, hcd, hd⟩ := PySem.W.any_some T.hd
  have hcls : PySem.W.Looks (model X.prog X.w) hp (classData C) cd := PySem.W.looks_clsIn I.kIn hcd
  obtain ⟨nm, bs, mro, ns, qn, hdd, sn, sb, ab, col, del⟩ := cd
  dsimp only at hd
  subst hd
  show wpAny _ _ (Builtin.ObjectAttr.storeInOwnDict (.ref a) (.ref C) (.str f _) f u b) _ _ _
  unfold Builtin.ObjectAttr.storeInOwnDict Builtin.ObjectAttr.ownDictForStores
  repeat (first | with_reducible refine PySem.OEX.store_in_old hns hw (by rw [List.length_map]; omega) ?_ | with_reducible refine wpAny_loadPart_at ho ?_ | with_reducible refine hcls.at ?_ | wp_step)
  intro h' tk' hn hs
  have hd : ∃ o, h'.get? dx = some o := by
    obtain ⟨o, _, _, e', _⟩ := hn
    exact ⟨o, e'⟩
  exact h _ (I.write (t' := tk') (x := dx) (e := dx) (o := exd dx ((f, y) :: fs)) (by rw [ed]; exact True.intro) (.inl rfl) (fun b o hb ho => (hs.2 b hb).trans ho) hd (exd_ok hn (relO_put ry rel)))
end
/-- self.f = e within such an __init__ -/
def tOsb (K : PySem.W.Frag) (C : Addr) (f : Str) (to te : TE) : TS := fun D σ H => te σ H fun y H1 => to σ H1 fun x H2 => ∃ a : Addr, x = .ref a ∧ PySem.W.findIn K (.ref C) f = some none ∧
  ((H2 a = some (exo a C none) ∧ ∀ dx, H2 dx = none → dx ≠ a → D.nx σ (upd (upd H2 dx (exd dx [(f, y)])) a (exo a C (some dx)))) ∨
    ∃ (dx : Addr) (fs : List (Str × V)), H2 a = some (exo a C (some dx)) ∧ H2 dx = some (exd dx fs) ∧ fs.length ≤ 900 ∧ D.nx σ (upd H2 dx (exd dx ((f, y) :: fs))))
theorem ps_osb {X : Cx} {o e : Expr} {to te : TE} {f : Str} {p' pos : Pos} {C : Addr} {B newId initId : String} {bmB : List Value} (F : EB B newId initId bmB) (T : EC X.K C bmB newId)
    (ho : PE X o to) (he : PE X e te) (hs : swapsWith e (some (.Attribute o f p')) pos.line X.env = pure false := by rfl) : PS X (.Assign [.Attribute o f p'] e pos) (tOsb X.K C f to te) := by
  refine ⟨fun pins s σ H D I h => ?_⟩
  refine plainObj_wpAny_Assign_Attribute (thn (he.run pins s σ H _ I h) fun v s1 ⟨y, H1, I1, r1, q1⟩ => thn (ho.run pins s1 σ H1 _ I1 q1) fun u s2 ⟨x, H2, I2, r2, a, ex, hno, q⟩ => ?_) hs
  subst ex
  obtain rfl : u = Value.ref a := r2
  rcases q with ⟨ea, q⟩ | ⟨dx, fs, ea, ed, hl, q⟩
  · exact osb_new F T I2 ea hno r1 fun dx s' n ne J => ⟨σ, _, J, q dx n ne⟩
  · exact osb_old F T I2 ea ed hl hno r1 fun s' J => ⟨σ, _, J, q⟩
/-- what an __init__ that stores its arguments keeps -/
def spI (C : Addr) (ns : List Str) : Sp := fun vs H Q _ => ∃ a ws, vs = .ref a :: ws ∧ ws.length = ns.length ∧ H a = some (exo a C none) ∧
  ∀ H', (∀ b o, b ≠ a → H b = some o → H' b = some o) → ErrO H' a C (ns.zip ws).reverse → Q .non H'
section
variable {P : Program} {w : World} {K : PySem.W.Frag} {mg : Str → Option Value} {base : Heap} {B newId initId : String} {bmB : List Value} {C : Addr}
theorem init1_ok {qual f p1 p2 : Str} {st : Stmt} {fI : Addr} {fd : FuncData} (F : EB B newId initId bmB) (T : EC K C bmB newId) (Fn : Fun K "__init__" qual st fI fd) (S : FnScope [p1, p2] [p1, p2] (defScope st)) (hf : PySem.W.findIn K (.ref C) f = some none)
    (body : ∀ (cdv : Value) (A : Around) (outer : List Env) (s : Shared) (H : Hp) (E : XK), PSs (cxOf CX0 P w K mg base [p1, p2] qual (defScope st) fI cdv A outer s H E).nox (defBody st) (fun D σ H => tOsb K C f (tVar 0) (tVar 1) D σ H)) :
    FnOk P w K mg base CX0 1 fI fd [p1, p2] (spI C [f]) := by
  refine Fn.ok S (fun vs H Q E h => ?_) fun cdv A outer s H vs Q E hr h => ?_
  · obtain ⟨a, ws, rfl, hl, _⟩ := h
    simp only [List.length_cons, hl, List.length_nil]
  · obtain ⟨a, ws, rfl, hl, ha, q⟩ := h
    match ws, hl with
    | [v], _ =>
      refine ⟨_, body cdv A outer s H E, v, rfl, _, rfl, a, rfl, hf, .inl ⟨ha, fun d n ne => q _ (fun b o hb ho => ?_) (.inr ⟨d, upd_same, ?_⟩)⟩⟩
      · rw [upd_ne hb, upd_ne (ne_of_none ho n)]
        exact ho
      · rw [upd_ne ne]
        exact upd_same
theorem init2_ok {qual f g p1 p2 p3 : Str} {st : Stmt} {fI : Addr} {fd : FuncData} (F : EB B newId initId bmB) (T : EC K C bmB newId) (Fn : Fun K "__init__" qual st fI fd) (S : FnScope [p1, p2, p3] [p1, p2, p3] (defScope st))
    (hf : PySem.W.findIn K (.ref C) f = some none) (hg : PySem.W.findIn K (.ref C) g = some none)
    (body : ∀ (cdv : Value) (A : Around) (outer : List Env) (s : Shared) (H : Hp) (E : XK), PSs (cxOf CX0 P w K mg base [p1, p2, p3] qual (defScope st) fI cdv A outer s H E).nox (defBody st)
      (fun D σ H => tOsb K C f (tVar 0) (tVar 1) { D with nx := fun σ1 H1 => tOsb K C g (tVar 0) (tVar 2) D σ1 H1 } σ H)) :
    FnOk P w K mg base CX0 1 fI fd [p1, p2, p3] (spI C [f, g]) := by
  refine Fn.ok S (fun vs H Q E h => ?_) fun cdv A outer s H vs Q E hr h => ?_
  · obtain ⟨a, ws, rfl, hl, _⟩ := h
    simp only [List.length_cons, hl, List.length_nil]
  · obtain ⟨a, ws, rfl, hl, ha, q⟩ := h
    match ws, hl with
    | [v, v2], _ =>
      refine ⟨_, body cdv A outer s H E, v, rfl, _, rfl, a, rfl, hf, .inl ⟨ha, fun d n ne => ?_⟩⟩
      refine ⟨v2, rfl, _, rfl, a, rfl, hg, .inr ⟨d, [(f, v)], upd_same, ?_, by show 1 ≤ 900; decide, ?_⟩⟩
      · rw [upd_ne ne]
        exact upd_same
      refine q _ (fun b o hb ho => ?_) (.inr ⟨d, ?_, upd_same⟩)
      · rw [upd_ne (ne_of_none ho n), upd_ne hb, upd_ne (ne_of_none ho n)]
        exact ho
      · rw [upd_ne (Ne.symm ne)]
        exact upd_same
end
end Gx
namespace Gx
open PySem PySem.Spec PyProof.Rows L2
section
variable {X : Cx} {pins : List (Addr × Obj)} {σ : L2.St} {H : Hp} {s : Shared} {C fI : Addr} {k : Nat} {fd : FuncData} {ps ns : List Str} {B newId initId : String} {bmB : List Value}
theorem run_mkE {us ws : List Value} {kw : List (Str × Value)} {vs : List V} {Q : VK} (F : EB B newId initId bmB) (T : EC X.K C bmB newId) (i1 : PySem.W.findIn X.K (.ref C) "__init__" = some (some (.ref fI))) (i2 : PySem.W.typeIn X.K (.ref fI) = some (.type "function"))
    (F1 : FnOk X.prog X.w X.K X.mg X.base CX0 k fI fd ps (spI C ns)) (hr : Room (k + 1) X.A) (I : Inv X pins σ H s) (hb : ∀ (s : Shared) (a : Addr), X.K.In s.heap → BindsTo s fd ⟨.ref a :: us, kw⟩ (ps.zip (.ref a :: ws))) (r : Vals vs ws) (hl : vs.length = ns.length) (hus : us.length ≤ sizeLine)
    (q : ∀ p H2, Same H H2 → H p = none → ErrO H2 p C (ns.zip vs).reverse → Q (.ref p) H2) : wpAny (model X.prog X.w) X.A (call (.ref C) us kw) (EP X pins σ Q) X.xe s := by
  obtain ⟨nm, N', qn, bs, bm, hdct, sn, sub, ab, col, dd, k0, k1, k2, k3, k5, hC, hT⟩ := PySem.W.excInit_of I.kIn T.i
  obtain ⟨hp, g, dr, tk, os⟩ := s
  have hsz : hp.objs.size ≤ hp.objs.size + 1 := Nat.le_succ _
  have hn : H (hp.objs.size + 1) = none := I.hok.fresh hsz
  have kk : ∀ b o, hp.get? b = some o → ((hp.push (PySem.W.kdv_tup us)).push (PySem.HandSPX.excO C hp.objs.size)).get? b = some o := fun b o e => Heap.get?_push_of_some _ (Heap.get?_push_of_some _ e)
  have hget : ((hp.push (PySem.W.kdv_tup us)).push (PySem.HandSPX.excO C hp.objs.size)).get? (hp.objs.size + 1) = some (PySem.HandSPX.excO C hp.objs.size) := by heap_get
  have I2 : Inv X pins σ (upd H (hp.objs.size + 1) (exo (hp.objs.size + 1) C none)) ⟨(hp.push (PySem.W.kdv_tup us)).push (PySem.HandSPX.excO C hp.objs.size), g, dr, tk, os⟩ :=
    I.laid (t' := tk) (a := hp.objs.size + 1) (o := exo (hp.objs.size + 1) C none) (h' := (hp.push (PySem.W.kdv_tup us)).push (PySem.HandSPX.excO C hp.objs.size)) kk hsz (exo_ok hget)
  refine wpAny_call (PySem.GXP.call_kw F.F hT hC (PySem.W.looks_findIn I.kIn i1) (fun self => PySem.W.bind_fn I.kIn self i2) hus
    (codeAny_mono (F1.run _ X.stack _ _ ⟨Value.ref (hp.objs.size + 1) :: us, kw⟩ (Value.ref (hp.objs.size + 1) :: ws) (V.ref (hp.objs.size + 1) :: vs) (fun v H2 => v = .non ∧ Q (.ref (hp.objs.size + 1)) H2) (fun _ _ _ => False) (hr.make C us kw) (I2.env0.make C us kw) (hb _ _ I2.kIn) (.cons rfl r)
      ⟨_, vs, rfl, hl, upd_same, fun H' sm er => ⟨rfl, q _ H' (fun b o e => sm b o (ne_of_none e hn) (by rw [upd_ne (ne_of_none e hn)]; exact e)) hn er⟩⟩) fun r s' hq' => ?_))
  cases r with
  | error er => exact False.elim hq'
  | ok fl =>
    cases fl with
    | ret u =>
      obtain ⟨v, H', I3, rv, ev, q3⟩ := I2.after hq'
      subst ev
      exact ⟨rv, ⟨V.ref (hp.objs.size + 1), H', I3, rfl, q3⟩⟩
    | next => exact False.elim hq'
    | brk => exact False.elim hq'
    | cont => exact False.elim hq'
end
/-- C(..) as a value: a new error object with these fields -/
def tMkE (C : Addr) (ns : List Str) (ta : TA) : TE := fun σ H Q => ta σ H fun vs H1 => vs.length = ns.length ∧ ∀ p H2, Same H1 H2 → H1 p = none → ErrO H2 p C (ns.zip vs).reverse → Q (.ref p) H2
/-- an error class of the module, made by its own __init__ that stores what it is given -/
structure EM (P : Program) (w : World) (K : PySem.W.Frag) (mg : Str → Option Value) (base : Heap) (x : Str) (ns : List Str) : Prop where
  ex : ∃ B newId initId bmB fI fd qual st ps, mg x = some (.ref (cl mg x)) ∧ EB B newId initId bmB ∧ EC K (cl mg x) bmB newId ∧ PySem.W.findIn K (.ref (cl mg x)) "__init__" = some (some (.ref fI)) ∧ PySem.W.typeIn K (.ref fI) = some (.type "function") ∧
    Fun K "__init__" qual st fI fd ∧ FnOk P w K mg base CX0 1 fI fd ps (spI (cl mg x) ns) ∧ ps.length = ns.length + 1 ∧ ns.length ≤ 2 ∧
    (∀ (kV doc pm : Value) (an : Option Addr) (cdv ct : Value) (us : List Value), us.length = ps.length → bindArgs (PySem.W.fnOf "__init__" qual (defArgs st) (defBody st) (defScope st) .none kV doc pm an cdv ct) ⟨us, []⟩ = pure (ps.zip us)) ∧
    (∀ (kV doc pm : Value) (an : Option Addr) (cdv ct : Value) (u : Value) (ws : List Value), ws.length = ns.length → bindArgs (PySem.W.fnOf "__init__" qual (defArgs st) (defBody st) (defScope st) .none kV doc pm an cdv ct) ⟨[u], ns.zip ws⟩ = pure (ps.zip (u :: ws)))
section
variable {X : Cx} {k : Nat} {x : Str} {ns : List Str} {p pos : Pos} {e : Expr} {es : List Expr} {kws : List Keyword} {t tk : TA}
theorem pe_mkE (M : EM X.prog X.w X.K X.mg X.base x ns) (hr : Room k X.A) (hk : 2 ≤ k) (hg : Gl X x) (ha : PA X (e :: es) t)
    (n0 : (x == ("__debug__" : Str)) = false := by decide) (n1 : starEach (e :: es) X.env = (false, eval e X.env) :: starEach es X.env := by rfl) (n2 : (backTo pos (starEach es X.env)).any (·.1) = false := by rfl) :
    PE X (.Call (.Name x p) (e :: es) [] pos) (tMkE (cl X.mg x) ns t) := by
  obtain ⟨B, newId, initId, bmB, fI, fd, qual, st, ps, m, F, T, i1, i2, Fn, F1, hl, h2, b1, _⟩ := M.ex
  refine ⟨fun pins s σ H Q I h => ?_⟩
  refine wpAny_Call_Name_kw (ld_glob I hg m ?_ n0)
  refine PySem.W.callWith_K (h₀ := X.base) I.ok.mod.kin T.kC (thn (ha.run pos pins s σ H _ I h) fun us s1 ⟨vs, H1, I1, r, l, q⟩ => ⟨I1.kIn, ?_⟩) n1 n2
  have lu : us.length = ns.length := r.length.symm.trans l
  refine run_mkE F T i1 i2 F1 (hr.mono hk) I1 (fun s a _ => ?_) r l (by show us.length ≤ sizeLine; rw [lu, sizeLine_eq]; omega) q
  obtain ⟨oc, od, kV, doc, pm, an, cdv, ct, osl, rfl, _, _⟩ := Fn.ex
  exact .of_eq (b1 kV doc pm an cdv ct _ (by show us.length + 1 = ps.length; rw [lu, hl]))
theorem pe_mkEK (M : EM X.prog X.w X.K X.mg X.base x ns) (hr : Room k X.A) (hk : 2 ≤ k) (hg : Gl X x) (hkw : PK X kws tk)
    (n1 : (backToKw pos (keywordEach kws X.env)).all (·.1.isSome) = true := by rfl) (n2 : (backToKw pos (keywordEach kws X.env)).filterMap (·.1) = ns := by rfl) (n0 : (x == ("__debug__" : Str)) = false := by decide)
    (n3 : ((backTo pos (starEach [] X.env)).any (·.1) || (backToKw pos (keywordEach kws X.env)).any (·.1.isNone)) = false := by rfl) :
    PE X (.Call (.Name x p) [] kws pos) (tMkE (cl X.mg x) ns tk) := by
  obtain ⟨B, newId, initId, bmB, fI, fd, qual, st, ps, m, F, T, i1, i2, Fn, F1, hl, h2, _, b2⟩ := M.ex
  refine ⟨fun pins s σ H Q I h => ?_⟩
  refine wpAny_Call_Name_kw (ld_glob I hg m ?_ n0)
  refine PySem.W.callWith_KW0 (h₀ := X.base) I.ok.mod.kin T.kC n1 ?_ n3
  refine thn (hkw.run pos pins s σ H _ I h) fun ws s2 ⟨vs, H2, I2, r, l, q⟩ => ⟨I2.kIn, ?_⟩
  rw [n2]
  have lu : ws.length = ns.length := r.length.symm.trans l
  refine run_mkE F T i1 i2 F1 (hr.mono hk) I2 (fun s a _ => ?_) r l (Nat.zero_le _) q
  obtain ⟨oc, od, kV, doc, pm, an, cdv, ct, osl, rfl, _, _⟩ := Fn.ex
  exact .of_eq (b2 kV doc pm an cdv ct _ ws lu)
/-- an error class without own __init__ -/
structure EN (K : PySem.W.Frag) (mg : Str → Option Value) (x : Str) : Prop where
  ex : ∃ B newId initId bmB, mg x = some (.ref (cl mg x)) ∧ EB B newId initId bmB ∧ EC K (cl mg x) bmB newId ∧ PySem.W.excIn K (cl mg x) bmB newId = true
def tMk0 (C : Addr) : TE := fun _ H Q => ∀ p H2, Same H H2 → H p = none → ErrO H2 p C [] → Q (.ref p) H2
theorem pe_mkE0 (M : EN X.K X.mg x) (hg : Gl X x) (n0 : (x == ("__debug__" : Str)) = false := by decide) : PE X (.Call (.Name x p) [] [] pos) (tMk0 (cl X.mg x)) := by
  obtain ⟨B, newId, initId, bmB, m, F, T, q0⟩ := M.ex
  refine ⟨fun pins s σ H Q I h => ?_⟩
  refine wpAny_Call_Name_kw (ld_glob I hg m ?_ n0)
  refine PySem.W.callWith_K0 I.kIn T.kC ?_
  obtain ⟨bm, N, nm, qn, bs, hdct, sn, sub, ab, col, dd, k0, k1, k2, k3, k5, mN, hC, hN, hni, TT⟩ := exc_obj I.kIn q0
  refine wpAny_call_exc_subT F.F TT hC hN hni (fun h' a hm => ?_) (Nat.zero_le _)
  have hn : H a = none := I.hok.gone hm.new
  obtain ⟨t, ht, _, _⟩ := hm.there
  refine ⟨.ref a, upd H a (exo a (cl X.mg x) none), I.laidN hm.keeps hm.new hn (exo_ok ht), rfl, h a _ (fun b o e => by rw [upd_ne (ne_of_none e hn)]; exact e) hn (.inl ⟨rfl, upd_same⟩)⟩
end
end Gx
namespace Gx
open PySem PySem.Spec PyProof.Rows L2
section
variable {X : Cx} {pins : List (Addr × Obj)} {σ : L2.St} {H : Hp} {s : Shared}
theorem ErrO.inst {p C : Addr} {fs : List (Str × V)} (I : Inv X pins σ H s) (h : ErrO H p C fs) : ∃ (ox : Obj) (od : Option Obj), PySem.W.InstAt s.heap p ox C od ∧
    (fs = [] ∨ ∃ o, od = some o ∧ ∃ mA : Str → Option Value, (∀ n, RelO (fs.lookup n) (mA n)) ∧ ∀ n, PySem.W.lookIn n o = some (mA n)) := by
  rcases h with ⟨rfl, h⟩ | ⟨d, h1, h2⟩
  · obtain ⟨t1, ho⟩ := exo_at I.hok h
    exact ⟨_, none, ⟨ho, rfl, rfl, trivial⟩, .inl rfl⟩
  · obtain ⟨t1, ho⟩ := exo_at I.hok h1
    obtain ⟨mA, hns, hr⟩ := exd_at I.hok h2
    obtain ⟨od, hod, hl⟩ := lookIn_ns hns
    exact ⟨_, some od, ⟨ho, rfl, rfl, hod⟩, .inr ⟨od, rfl, mA, hr, hl⟩⟩
end
/-- e.f of an error object -/
def tEf (K : PySem.W.Frag) (f : Str) (te : TE) : TE := fun σ H Q => te σ H fun x H1 => ∃ (p C : Addr) (bmB : List Value) (newId : String) (fs : List (Str × V)) (v : V), x = .ref p ∧ ErrO H1 p C fs ∧ EC K C bmB newId ∧ PySem.W.findIn K (.ref C) f = some none ∧ fs.lookup f = some v ∧ Q v H1
theorem pe_ef {X : Cx} {e : Expr} {te : TE} {pos : Pos} {n : Str} (he : PE X e te) (hb : attributeBase e n X.env (eval e X.env) = eval e X.env := by rfl) : PE X (.Attribute e n pos) (tEf X.K n te) := by
  refine ⟨fun pins s σ H Q I h => ?_⟩
  refine attr_of hb (thn (he.run pins s σ H _ I h) fun u s1 hh => ?_)
  obtain ⟨x, H1, I1, rx, p, C, bmB, newId, fs, v, ex, er, T, hno, l, q⟩ := hh
  subst ex
  obtain rfl : u = Value.ref p := rx
  obtain ⟨ox, od, J, hh⟩ := er.inst I1
  rcases hh with rfl | ⟨o, rfl, mA, hr, hl⟩
  · cases l
  · obtain ⟨u, hu, ru⟩ := RelO.some_of (v := v) (o := mA n) (by rw [← l]; exact hr n)
    exact HandSPX.exc_get I1.kIn J T.ga T.gg T.ex (PySem.W.findObj_own T.hd hno rfl (by rw [hl, hu])) (handed_of ru) ⟨v, H1, I1.tok _, ru, q⟩
/-- isinstance(e, c), e an error object -/
def rIsO (K : PySem.W.Frag) : List V → Hp → VK → Prop := fun xs H Q => ∃ (p C : Addr) (bmB : List Value) (newId : String) (fs : List (Str × V)) (c : V) (cv : Value) (b : Bool), xs = [.ref p, c] ∧ ErrO H p C fs ∧ EC K C bmB newId ∧ (∀ u, RelV c u → u = cv) ∧ PySem.W.kitOne K (.ref C) cv = some b ∧ Q (.bl b) H
theorem call_isO {X : Cx} {K : PySem.W.Frag} (hK : X.K = K) : CallR X (.builtin "isinstance") (rIsO K) := by
  subst hK
  intro pins s σ H xs us Q I r h
  obtain ⟨p, C, bmB, newId, fs, c, cv, b, rfl, er, T, hcv, e, q⟩ := h
  obtain ⟨u1, u2, rfl, r1, r2⟩ := vals2 r
  obtain rfl : u1 = Value.ref p := r1
  obtain rfl := hcv _ r2
  obtain ⟨ox, od, J, _⟩ := er.inst I
  exact PySem.W.kia_one (PySem.W.kitx_exc (gt := none) T.is T.ga T.gg T.ex T.gc T.gn T.gt T.mo) I.kIn J e (fun z => nomatch z) fun tk => ⟨.bl b, H, I.tok tk, rfl, q⟩
/-! ### lists of such -/
/-- new error objects, one behind another: their classes and fields -/
def ErrsO (H : Hp) : List Addr → List (Addr × List (Str × V)) → Prop
  | [], [] => True
  | p :: ps, (C, fs) :: cs => ErrO H p C fs ∧ ErrsO H ps cs
  | _, _ => False
theorem ErrsO.same {H H' : Hp} (s : Same H H') : ∀ {ps : List Addr} {cs : List (Addr × List (Str × V))}, ErrsO H ps cs → ErrsO H' ps cs
  | [], [], _ => trivial
  | _ :: _, (_, _) :: _, h => ⟨h.1.same s, ErrsO.same s h.2⟩
  | [], _ :: _, h => h.elim
  | _ :: _, [], h => h.elim
theorem ErrsO.app {H : Hp} : ∀ {ps : List Addr} {cs : List (Addr × List (Str × V))} {qs : List Addr} {ds : List (Addr × List (Str × V))}, ErrsO H ps cs → ErrsO H qs ds → ErrsO H (ps ++ qs) (cs ++ ds)
  | [], [], _, _, _, h => h
  | _ :: _, (_, _) :: _, _, _, h, h' => ⟨h.1, ErrsO.app h.2 h'⟩
  | [], _ :: _, _, _, h, _ => h.elim
  | _ :: _, [], _, _, h, _ => h.elim
theorem ErrsO.len {H : Hp} : ∀ {ps : List Addr} {cs : List (Addr × List (Str × V))}, ErrsO H ps cs → ps.length = cs.length
  | [], [], _ => rfl
  | _ :: _, (_, _) :: _, h => by rw [List.length_cons, List.length_cons, ErrsO.len h.2]
  | [], _ :: _, h => h.elim
  | _ :: _, [], h => h.elim
end Gx
namespace Gx
open PySem PySem.Spec PyProof.Rows L2
/-! ### what a value shows, whatever it is made of -/
def Shows (K : PySem.W.Frag) (H : Hp) (x : V) (d : PyData) : Prop := ∀ (X : Cx) (pins : List (Addr × Obj)) (σ : L2.St) (s : Shared) (u : Value), X.K = K → SysD X.base → Inv X pins σ H s → RelV x u → ∃ as, Reads s.heap u d as ∧ sysModules ∉ as
theorem Shows.of {K : PySem.W.Frag} {H : Hp} {x : V} {d : PyData} (h : Dq K H x d) : Shows K H x d := by
  rintro X pins σ s u rfl S I r
  exact Dq.reads2 S I d x u h r
inductive ShowsAll (K : PySem.W.Frag) (H : Hp) : List V → List PyData → Prop
  | nil : ShowsAll K H [] []
  | cons {v : V} {vs : List V} {d : PyData} {ds : List PyData} : Shows K H v d → ShowsAll K H vs ds → ShowsAll K H (v :: vs) (d :: ds)
theorem ShowsAll.reads {X : Cx} {pins : List (Addr × Obj)} {σ : L2.St} {s : Shared} {H : Hp} (S : SysD X.base) (I : Inv X pins σ H s) : ∀ {vs : List V} {ds : List PyData} {us : List Value}, ShowsAll X.K H vs ds → Vals vs us → ∃ as, ReadsAll s.heap us ds as ∧ sysModules ∉ as
  | _, _, _, .nil, r => by
    cases r
    exact ⟨_, .nil, by simp⟩
  | _, _, _, .cons h1 h2, r => by
    cases r with
    | cons r1 r2 =>
      obtain ⟨as, q1, n1⟩ := h1 X pins σ s _ rfl S I r1
      obtain ⟨bs, q2, n2⟩ := ShowsAll.reads S I h2 r2
      exact ⟨_, .cons q1 q2, fun z => (List.mem_append.mp z).elim n1 n2⟩
theorem Shows.lst {K : PySem.W.Frag} {H : Hp} {a : Addr} {vs : List V} {ds : List PyData} (hs : SqL K H a vs) (h : ShowsAll K H vs ds) : Shows K H (.ref a) (.list ds) := by
  rintro X pins σ s u rfl S I r
  cases r
  obtain ⟨its, rv, ⟨o, n, ho, hc, _, hd⟩, _⟩ := I.list hs
  obtain ⟨as, q, na⟩ := ShowsAll.reads S I h rv
  refine ⟨_, .list ho hc hd q, fun z => ?_⟩
  rcases List.mem_cons.mp z with z | z
  · exact not_sys S I ho hc z.symm
  · exact na z
/-- {'..': i} -/
theorem Shows.one {K : PySem.W.Frag} {H : Hp} {a : Addr} {x : Str} {i : Int} (e : H a = some (.dK [(.inr x, .int i)])) : Shows K H (.ref a) (.dict [(.str x, .int i)]) := by
  rintro X pins σ s u rfl S I r
  cases r
  obtain ⟨_, nm, vs, kv, o, es, ep, ho, ex, hd, _, hp, _⟩ := I.hok _ _ e
  cases kv with
  | @cons _ z _ _ k0 kr =>
    cases kr
    obtain ⟨ek, ev⟩ := k0
    obtain ⟨es⟩ := es
    cases hp with
    | @cons en _ _ _ h1 h2 h3 =>
      cases h3
      have k1 : keyIs z.1 en.key = true := h1
      rw [← ek] at k1
      rcases keyIs_shape k1 with ⟨j, t, z1, z2⟩ | ⟨y, t, z1, z2⟩
      · cases z1
      · cases z1
        obtain ⟨t2, e2⟩ : ∃ t2, z.2 = .int i t2 := ev
        refine ⟨_, .dict (as := [] ++ []) (bs := [] ++ []) ho ex.1 hd ?_ ?_, fun y => ?_⟩
        · show ReadsAll s.heap [en.key] [.str x] _
          rw [z2]
          exact .cons (.str _ _) .nil
        · show ReadsAll s.heap [en.val] [.int i] _
          rw [h2, e2]
          exact .cons (.int _ _) .nil
        · have y : sysModules = a := by simpa using y
          rw [← y] at nm
          simp at nm
/-- repr(l), l a list or a tuple -/
def rReprM (K : PySem.W.Frag) : List V → Hp → VK → Prop := fun xs H Q => ∃ a d, xs = [.ref a] ∧ Shows K H (.ref a) d ∧ d.showable = true ∧ d.depth ≤ 30 ∧ d.shown.length ≤ sizeLine ∧ Q (.str d.shown) H
theorem call_reprM {X : Cx} {K : PySem.W.Frag} (hK : X.K = K) (S : SysD X.base) (hgd : X.A.guards = some []) (hu : X.A.units + 64 < cLine) : CallR X (.builtin "repr") (rReprM K) := by
  subst hK
  intro pins s σ H xs us Q I r h
  obtain ⟨a, d, rfl, hd, hs, hdep, hsz, q⟩ := h
  obtain ⟨u, rfl, rx⟩ := vals1 r
  cases rx
  obtain ⟨as, rd, na⟩ := hd X pins σ s _ rfl S I rfl
  exact repr_of_reads' rd hs (fun _ => na) hgd (by omega) (fun _ _ e => e) (fun h' u tk k => ⟨.str d.shown, H, I.kept k, ⟨u, rfl⟩, q⟩) hsz
/-! ### arguments, one behind another, of one kind -/
theorem pa_weak {X : Cx} {es : List Expr} {t t' : TA} (h : PA X es t) (k : ∀ σ H Q, t' σ H Q → t σ H Q) : PA X es t' := ⟨fun pos pins s σ H Q I z => h.run pos pins s σ H Q I (k σ H Q z)⟩
abbrev Cls := Addr × List (Str × V)
/-- new error objects: the slots tell their fields -/
def tErrs (g : L2.St → Option (List Cls)) : TA := fun σ H Q => ∃ cs, g σ = some cs ∧ ∀ ps H2, Same H H2 → ErrsO H2 ps cs → Q (ps.map V.ref) H2
def slot (σ : L2.St) (i : Nat) : Option V := (σ[i]?).join
def g1 (C : Addr) (f : Str) (i : Nat) (g : L2.St → Option (List Cls)) : L2.St → Option (List Cls) := fun σ => (slot σ i).bind fun v => (g σ).map fun cs => (C, [(f, v)]) :: cs
def g2 (C : Addr) (f f2 : Str) (i j : Nat) (g : L2.St → Option (List Cls)) : L2.St → Option (List Cls) := fun σ => (slot σ i).bind fun v => (slot σ j).bind fun v2 => (g σ).map fun cs => (C, [(f2, v2), (f, v)]) :: cs
def g0 (C : Addr) (g : L2.St → Option (List Cls)) : L2.St → Option (List Cls) := fun σ => (g σ).map fun cs => (C, []) :: cs
theorem slot_at {σ : L2.St} {i : Nat} {v : V} (h : slot σ i = some v) : σ[i]? = some (some v) := by
  unfold slot at h
  cases e : σ[i]? with
  | none => rw [e] at h; cases h
  | some o => rw [e] at h; exact congrArg some h
section
variable {X : Cx} {k i j : Nat} {x f f2 : Str} {p pos : Pos} {e e2 : Expr} {es : List Expr} {g : L2.St → Option (List Cls)} {kws : List Keyword}
theorem pa_e0 : PA X [] (tErrs fun _ => some []) := pa_weak pa_nil fun σ H Q ⟨cs, e, q⟩ => by
  cases e
  exact q [] H (Same.refl H) trivial
theorem errs_cons {te : TE} {ex : Expr} {C : Addr} {fs : L2.St → Option (List (Str × V))} (hm : PE X ex te) (hr : PA X es (tErrs g))
    (h : ∀ σ H Q v, fs σ = some v → (∀ p H2, Same H H2 → ErrO H2 p C v → Q (.ref p) H2) → te σ H Q)
    (n1 : starEach (ex :: es) X.env = (false, eval ex X.env) :: starEach es X.env := by rfl) : PA X (ex :: es) (tErrs fun σ => (fs σ).bind fun v => (g σ).map fun cs => (C, v) :: cs) := by
  refine pa_weak (pa_cons hm hr n1) fun σ H Q z => ?_
  obtain ⟨cs, e, q⟩ := z
  obtain ⟨v, e1, e2⟩ := Option.bind_eq_some_iff.mp e
  obtain ⟨ds, e3, rfl⟩ := Option.map_eq_some_iff.mp e2
  refine h σ H _ v e1 fun p H2 s er => ⟨ds, e3, fun ps H3 s3 er3 => ?_⟩
  exact q (p :: ps) H3 (s.trans s3) ⟨er.same s3, er3⟩
theorem pa_e1 (M : EM X.prog X.w X.K X.mg X.base x [f]) (hr : Room k X.A) (hk : 2 ≤ k) (hg : Gl X x) (ha : PA X [e] (tCons (tVar i) tNil)) (hs : PA X es (tErrs g)) (n0 : (x == ("__debug__" : Str)) = false := by decide)
    (n1 : starEach [e] X.env = (false, eval e X.env) :: starEach [] X.env := by rfl) (n2 : (backTo pos (starEach [] X.env)).any (·.1) = false := by rfl)
    (n3 : starEach (.Call (.Name x p) [e] [] pos :: es) X.env = (false, eval (.Call (.Name x p) [e] [] pos) X.env) :: starEach es X.env := by rfl) :
    PA X (.Call (.Name x p) [e] [] pos :: es) (tErrs (g1 (cl X.mg x) f i g)) := by
  have z := errs_cons (C := cl X.mg x) (fs := fun σ => (slot σ i).map fun v => [(f, v)]) (pe_mkE (p := p) (pos := pos) M hr hk hg ha n0 n1 n2) hs (fun σ H Q v e q => ?_) n3
  · refine pa_weak z fun σ H Q ⟨cs, e, q⟩ => ⟨cs, ?_, q⟩
    obtain ⟨v, e1, e2⟩ := Option.bind_eq_some_iff.mp e
    show ((slot σ i).map fun v => [(f, v)]).bind _ = _
    rw [e1]
    exact e2
  · obtain ⟨v, e1, rfl⟩ := Option.map_eq_some_iff.mp e
    exact ⟨v, slot_at e1, rfl, fun p H2 s _ er => q p H2 s er⟩
theorem pa_e2 (M : EM X.prog X.w X.K X.mg X.base x [f, f2]) (hr : Room k X.A) (hk : 2 ≤ k) (hg : Gl X x) (ha : PA X [e, e2] (tCons (tVar i) (tCons (tVar j) tNil))) (hs : PA X es (tErrs g)) (n0 : (x == ("__debug__" : Str)) = false := by decide)
    (n1 : starEach [e, e2] X.env = (false, eval e X.env) :: starEach [e2] X.env := by rfl) (n2 : (backTo pos (starEach [e2] X.env)).any (·.1) = false := by rfl)
    (n3 : starEach (.Call (.Name x p) [e, e2] [] pos :: es) X.env = (false, eval (.Call (.Name x p) [e, e2] [] pos) X.env) :: starEach es X.env := by rfl) :
    PA X (.Call (.Name x p) [e, e2] [] pos :: es) (tErrs (g2 (cl X.mg x) f f2 i j g)) := by
  have z := errs_cons (C := cl X.mg x) (fs := fun σ => (slot σ i).bind fun v => (slot σ j).map fun v2 => [(f2, v2), (f, v)]) (pe_mkE (p := p) (pos := pos) M hr hk hg ha n0 n1 n2) hs (fun σ H Q v e q => ?_) n3
  · refine pa_weak z fun σ H Q ⟨cs, e, q⟩ => ⟨cs, ?_, q⟩
    obtain ⟨v, e1, e2⟩ := Option.bind_eq_some_iff.mp e
    obtain ⟨v2, e3, e4⟩ := Option.bind_eq_some_iff.mp e2
    show ((slot σ i).bind fun v => (slot σ j).map fun v2 => [(f2, v2), (f, v)]).bind _ = _
    rw [e1, Option.bind_some, e3]
    exact e4
  · obtain ⟨v, e1, e2⟩ := Option.bind_eq_some_iff.mp e
    obtain ⟨v2, e3, rfl⟩ := Option.map_eq_some_iff.mp e2
    exact ⟨v, slot_at e1, v2, slot_at e3, rfl, fun p H2 s _ er => q p H2 s er⟩
theorem pa_en (M : EN X.K X.mg x) (hg : Gl X x) (hs : PA X es (tErrs g)) (n0 : (x == ("__debug__" : Str)) = false := by decide)
    (n3 : starEach (.Call (.Name x p) [] [] pos :: es) X.env = (false, eval (.Call (.Name x p) [] [] pos) X.env) :: starEach es X.env := by rfl) :
    PA X (.Call (.Name x p) [] [] pos :: es) (tErrs (g0 (cl X.mg x) g)) := by
  have z := errs_cons (C := cl X.mg x) (fs := fun _ => some []) (pe_mkE0 (p := p) (pos := pos) M hg n0) hs (fun σ H Q v e q => ?_) n3
  · exact z
  · cases e
    exact fun p H2 s _ er => q p H2 s er
end
end Gx
namespace Gx
open PySem PySem.Spec PyProof.Rows L2
section
variable {X : Cx} {k i j : Nat} {x f f2 : Str} {p pos kp kp2 : Pos} {e e2 : Expr} {es : List Expr} {g : L2.St → Option (List Cls)} {nm nm2 : Option Str}
theorem pa_k1 (M : EM X.prog X.w X.K X.mg X.base x [f]) (hr : Room k X.A) (hk : 2 ≤ k) (hg : Gl X x) (ha : PE X e (tVar i)) (hs : PA X es (tErrs g))
    (n1 : (backToKw pos (keywordEach [⟨nm, e, kp⟩] X.env)).all (·.1.isSome) = true := by rfl) (n2 : (backToKw pos (keywordEach [⟨nm, e, kp⟩] X.env)).filterMap (·.1) = [f] := by rfl) (n0 : (x == ("__debug__" : Str)) = false := by decide)
    (n4 : ((backTo pos (starEach [] X.env)).any (·.1) || (backToKw pos (keywordEach [⟨nm, e, kp⟩] X.env)).any (·.1.isNone)) = false := by rfl)
    (n3 : starEach (.Call (.Name x p) [] [⟨nm, e, kp⟩] pos :: es) X.env = (false, eval (.Call (.Name x p) [] [⟨nm, e, kp⟩] pos) X.env) :: starEach es X.env := by rfl) :
    PA X (.Call (.Name x p) [] [⟨nm, e, kp⟩] pos :: es) (tErrs (g1 (cl X.mg x) f i g)) := by
  have z := errs_cons (C := cl X.mg x) (fs := fun σ => (slot σ i).map fun v => [(f, v)]) (pe_mkEK (p := p) (pos := pos) M hr hk hg (pk_cons ha pk_nil) n1 n2 n0 n4) hs (fun σ H Q v e q => ?_) n3
  · refine pa_weak z fun σ H Q ⟨cs, e, q⟩ => ⟨cs, ?_, q⟩
    obtain ⟨v, e1, e2⟩ := Option.bind_eq_some_iff.mp e
    show ((slot σ i).map fun v => [(f, v)]).bind _ = _
    rw [e1]
    exact e2
  · obtain ⟨v, e1, rfl⟩ := Option.map_eq_some_iff.mp e
    exact ⟨v, slot_at e1, rfl, fun p H2 s _ er => q p H2 s er⟩
theorem pa_k2 (M : EM X.prog X.w X.K X.mg X.base x [f, f2]) (hr : Room k X.A) (hk : 2 ≤ k) (hg : Gl X x) (ha : PE X e (tVar i)) (ha2 : PE X e2 (tVar j)) (hs : PA X es (tErrs g))
    (n1 : (backToKw pos (keywordEach [⟨nm, e, kp⟩, ⟨nm2, e2, kp2⟩] X.env)).all (·.1.isSome) = true := by rfl) (n2 : (backToKw pos (keywordEach [⟨nm, e, kp⟩, ⟨nm2, e2, kp2⟩] X.env)).filterMap (·.1) = [f, f2] := by rfl) (n0 : (x == ("__debug__" : Str)) = false := by decide)
    (n4 : ((backTo pos (starEach [] X.env)).any (·.1) || (backToKw pos (keywordEach [⟨nm, e, kp⟩, ⟨nm2, e2, kp2⟩] X.env)).any (·.1.isNone)) = false := by rfl)
    (n3 : starEach (.Call (.Name x p) [] [⟨nm, e, kp⟩, ⟨nm2, e2, kp2⟩] pos :: es) X.env = (false, eval (.Call (.Name x p) [] [⟨nm, e, kp⟩, ⟨nm2, e2, kp2⟩] pos) X.env) :: starEach es X.env := by rfl) :
    PA X (.Call (.Name x p) [] [⟨nm, e, kp⟩, ⟨nm2, e2, kp2⟩] pos :: es) (tErrs (g2 (cl X.mg x) f f2 i j g)) := by
  have z := errs_cons (C := cl X.mg x) (fs := fun σ => (slot σ i).bind fun v => (slot σ j).map fun v2 => [(f2, v2), (f, v)]) (pe_mkEK (p := p) (pos := pos) M hr hk hg (pk_cons ha (pk_cons ha2 pk_nil)) n1 n2 n0 n4) hs (fun σ H Q v e q => ?_) n3
  · refine pa_weak z fun σ H Q ⟨cs, e, q⟩ => ⟨cs, ?_, q⟩
    obtain ⟨v, e1, e2⟩ := Option.bind_eq_some_iff.mp e
    obtain ⟨v2, e3, e4⟩ := Option.bind_eq_some_iff.mp e2
    show ((slot σ i).bind fun v => (slot σ j).map fun v2 => [(f2, v2), (f, v)]).bind _ = _
    rw [e1, Option.bind_some, e3]
    exact e4
  · obtain ⟨v, e1, e2⟩ := Option.bind_eq_some_iff.mp e
    obtain ⟨v2, e3, rfl⟩ := Option.map_eq_some_iff.mp e2
    exact ⟨v, slot_at e1, v2, slot_at e3, rfl, fun p H2 s _ er => q p H2 s er⟩
end
/-- isinstance(e, c1), isinstance(e, c2), ..: e, an error object, stands in slot i -/
def tIsO (K : PySem.W.Frag) (i : Nat) (ds : List V) : TA := fun σ H Q => ∃ (p C : Addr) (bmB : List Value) (newId : String) (fs : List (Str × V)), slot σ i = some (.ref p) ∧ ErrO H p C fs ∧ EC K C bmB newId ∧
  ∃ F : V → Bool, (∀ d ∈ ds, ∃ u, ClsV d u ∧ PySem.W.kitOne K (.ref C) u = some (F d)) ∧ Q (ds.map fun d => .bl (F d)) H
section
variable {X : Cx} {K : PySem.W.Frag} {i : Nat} {p pos : Pos} {e c : Expr} {es : List Expr} {d : V} {ds : List V}
theorem pa_i0 : PA X [] (tIsO K i []) := pa_weak pa_nil fun σ H Q ⟨_, _, _, _, _, _, _, _, _, _, q⟩ => q
theorem pa_i1 (hK : X.K = K) (hg : Gl X "isinstance") (hm : X.mg "isinstance" = none) (he : PE X e (tVar i)) (hc : PE X c (tC d)) (hs : PA X es (tIsO K i ds))
    (n1 : starEach [e, c] X.env = (false, eval e X.env) :: starEach [c] X.env := by rfl) (n2 : (backTo pos (starEach [c] X.env)).any (·.1) = false := by rfl)
    (n4 : starEach [c] X.env = (false, eval c X.env) :: starEach [] X.env := by rfl)
    (n3 : starEach (.Call (.Name "isinstance" p) [e, c] [] pos :: es) X.env = (false, eval (.Call (.Name "isinstance" p) [e, c] [] pos) X.env) :: starEach es X.env := by rfl) :
    PA X (.Call (.Name "isinstance" p) [e, c] [] pos :: es) (tIsO K i (d :: ds)) := by
  refine pa_weak (pa_cons (pe_callB (call_isO hK) hg hm (show bootBuiltins "isinstance" = some (.builtin "isinstance") by decide +kernel) (pa_cons he (pa_cons hc pa_nil n4) n1) (by decide) (by decide) n1 n2) hs n3) fun σ H Q h => ?_
  obtain ⟨q, C, bmB, newId, fs, h1, h2, h3, F, h4, h5⟩ := h
  obtain ⟨u, k1, k2⟩ := h4 d List.mem_cons_self
  exact ⟨_, slot_at h1, q, C, bmB, newId, fs, d, u, F d, rfl, h2, h3, fun w r => k1.eq r, k2, q, C, bmB, newId, fs, h1, h2, h3, F, fun d' m => h4 d' (List.mem_cons_of_mem _ m), h5⟩
end
/-- what is read from the error objects -/
def Sel (K : PySem.W.Frag) (cs : List Cls) (s : Nat × Str) (v : V) : Prop := ∃ C fs, cs[s.1]? = some (C, fs) ∧ PySem.W.findIn K (.ref C) s.2 = some none ∧ fs.lookup s.2 = some v
/-- xs[0].f, xs[1].g, ..: xs, a list of error objects, stands in slot i -/
def tFld (K : PySem.W.Frag) (i : Nat) (sel : List (Nat × Str)) : TA := fun σ H Q => ∃ (a : Addr) (ps : List Addr) (cs : List Cls), slot σ i = some (.ref a) ∧ SqL K H a (ps.map V.ref) ∧ ErrsO H ps cs ∧ (∀ c ∈ cs, ∃ bmB newId, EC K c.1 bmB newId) ∧
  ∃ vs, Paired (Sel K cs) sel vs ∧ Q vs H
theorem ErrsO.get {H : Hp} {C : Addr} {fs : List (Str × V)} : ∀ {ps : List Addr} {cs : List Cls} {n : Nat}, ErrsO H ps cs → cs[n]? = some (C, fs) → ∃ p, ps[n]? = some p ∧ ErrO H p C fs
  | p :: _, (_, _) :: _, 0, h, e => by
    cases e
    exact ⟨p, rfl, h.1⟩
  | _ :: _, (_, _) :: _, n + 1, h, e => ErrsO.get (n := n) h.2 e
  | [], [], _, _, e => by cases e
  | [], _ :: _, _, h, _ => h.elim
  | _ :: _, [], _, h, _ => h.elim
section
variable {X : Cx} {K : PySem.W.Frag} {i n : Nat} {q pos : Pos} {o : Expr} {es : List Expr} {f : Str} {sel : List (Nat × Str)}
theorem pa_f0 : PA X [] (tFld K i []) := pa_weak pa_nil fun σ H Q ⟨_, _, _, _, _, _, _, vs, h, q⟩ => by
  cases h
  exact q
theorem pa_f1 (hK : X.K = K) (ho : PE X o (tOp (rIxL K) (tVar i) (tC (.int (n : Int))))) (hs : PA X es (tFld K i sel)) (hb : attributeBase o f X.env (eval o X.env) = eval o X.env := by rfl)
    (n3 : starEach (.Attribute o f pos :: es) X.env = (false, eval (.Attribute o f pos) X.env) :: starEach es X.env := by rfl) :
    PA X (.Attribute o f pos :: es) (tFld K i ((n, f) :: sel)) := by
  subst hK
  refine pa_weak (pa_cons (pe_ef (n := f) ho hb) hs n3) fun σ H Q h => ?_
  obtain ⟨a, ps, cs, h1, h2, h3, h4, vs, h5, h6⟩ := h
  cases h5 with
  | cons r1 r2 =>
    obtain ⟨C, fs, e1, e2, e3⟩ := r1
    obtain ⟨p, e4, e5⟩ := h3.get e1
    obtain ⟨bmB, newId, T⟩ := h4 _ (List.mem_of_getElem? e1)
    exact ⟨_, slot_at h1, a, _, _, .ref p, rfl, rfl, h2, atI_nat (by rw [List.getElem?_map, e4]; rfl), p, C, bmB, newId, fs, _, rfl, e5, T, e2, e3, a, ps, cs, h1, h2, h3, h4, _, r2, h6⟩
end
end Gx
namespace Gx
open PySem PySem.Spec PyProof.Rows L2
/-- what the written part says of an error class with an __init__ of its own -/
structure ES (K : PySem.W.Frag) (mg : Str → Option Value) (x qual : Str) (st : Stmt) (bmB : List Value) (newId : String) : Prop where
  m : mg x = some (.ref (cl mg x))
  T : EC K (cl mg x) bmB newId
  ini : ∃ f fd, PySem.W.findIn K (.ref (cl mg x)) "__init__" = some (some (.ref f)) ∧ PySem.W.typeIn K (.ref f) = some (.type "function") ∧ Fun K "__init__" qual st f fd
section
variable {P : Program} {w : World} {K : PySem.W.Frag} {mg : Str → Option Value} {base : Heap} {x qual : Str} {st : Stmt} {bmB : List Value} {B newId initId : String}
theorem ES.of {C f : Addr} {fd : FuncData} (h : mg x = some (.ref C)) (t : ecB K C bmB newId = true) (i1 : PySem.W.findIn K (.ref C) "__init__" = some (some (.ref f))) (i2 : PySem.W.typeIn K (.ref f) = some (.type "function")) (i3 : Fun K "__init__" qual st f fd) : ES K mg x qual st bmB newId := by
  have e := cl_of h
  refine ⟨?_, ?_, f, fd, ?_, i2, i3⟩ <;> rw [e]
  · exact h
  · exact .of t
  · exact i1
theorem ES.em1 {f p1 p2 : Str} (S : ES K mg x qual st bmB newId) (F : EB B newId initId bmB) (Sc : FnScope [p1, p2] [p1, p2] (defScope st)) (hf : PySem.W.findIn K (.ref (cl mg x)) f = some none)
    (body : ∀ (fI : Addr) (cdv : Value) (A : Around) (outer : List Env) (s : Shared) (H : Hp) (E : XK), PSs (cxOf CX0 P w K mg base [p1, p2] qual (defScope st) fI cdv A outer s H E).nox (defBody st) (fun D σ H => tOsb K (cl mg x) f (tVar 0) (tVar 1) D σ H))
    (b1 : ∀ (kV doc pm : Value) (an : Option Addr) (cdv ct : Value) (us : List Value), us.length = 2 → bindArgs (PySem.W.fnOf "__init__" qual (defArgs st) (defBody st) (defScope st) .none kV doc pm an cdv ct) ⟨us, []⟩ = pure ([p1, p2].zip us))
    (b2 : ∀ (kV doc pm : Value) (an : Option Addr) (cdv ct : Value) (u : Value) (ws : List Value), ws.length = 1 → bindArgs (PySem.W.fnOf "__init__" qual (defArgs st) (defBody st) (defScope st) .none kV doc pm an cdv ct) ⟨[u], [f].zip ws⟩ = pure ([p1, p2].zip (u :: ws))) :
    EM P w K mg base x [f] := by
  obtain ⟨m, T, g, fd, i1, i2, Fn⟩ := S
  exact ⟨B, newId, initId, bmB, g, fd, qual, st, [p1, p2], m, F, T, i1, i2, Fn, init1_ok F T Fn Sc hf (body g), rfl, (by show 1 ≤ 2; decide), b1, b2⟩
theorem ES.em2 {f g p1 p2 p3 : Str} (S : ES K mg x qual st bmB newId) (F : EB B newId initId bmB) (Sc : FnScope [p1, p2, p3] [p1, p2, p3] (defScope st)) (hf : PySem.W.findIn K (.ref (cl mg x)) f = some none) (hg : PySem.W.findIn K (.ref (cl mg x)) g = some none)
    (body : ∀ (fI : Addr) (cdv : Value) (A : Around) (outer : List Env) (s : Shared) (H : Hp) (E : XK), PSs (cxOf CX0 P w K mg base [p1, p2, p3] qual (defScope st) fI cdv A outer s H E).nox (defBody st)
      (fun D σ H => tOsb K (cl mg x) f (tVar 0) (tVar 1) { D with nx := fun σ1 H1 => tOsb K (cl mg x) g (tVar 0) (tVar 2) D σ1 H1 } σ H))
    (b1 : ∀ (kV doc pm : Value) (an : Option Addr) (cdv ct : Value) (us : List Value), us.length = 3 → bindArgs (PySem.W.fnOf "__init__" qual (defArgs st) (defBody st) (defScope st) .none kV doc pm an cdv ct) ⟨us, []⟩ = pure ([p1, p2, p3].zip us))
    (b2 : ∀ (kV doc pm : Value) (an : Option Addr) (cdv ct : Value) (u : Value) (ws : List Value), ws.length = 2 → bindArgs (PySem.W.fnOf "__init__" qual (defArgs st) (defBody st) (defScope st) .none kV doc pm an cdv ct) ⟨[u], [f, g].zip ws⟩ = pure ([p1, p2, p3].zip (u :: ws))) :
    EM P w K mg base x [f, g] := by
  obtain ⟨m, T, i, fd, i1, i2, Fn⟩ := S
  exact ⟨B, newId, initId, bmB, i, fd, qual, st, [p1, p2, p3], m, F, T, i1, i2, Fn, init2_ok F T Fn Sc hf hg (body i), rfl, (by show 2 ≤ 2; decide), b1, b2⟩
theorem EN.of {C : Addr} (h : mg x = some (.ref C)) (F : EB B newId initId bmB) (t : ecB K C bmB newId = true) (q : PySem.W.excIn K C bmB newId = true) : EN K mg x := by
  have e := cl_of h
  exact ⟨B, newId, initId, bmB, by rw [e]; exact h, F, by rw [e]; exact .of t, by rw [e]; exact q⟩
end
/-! ### who is whose -/
/-- of these classes none stands over another -/
def apartB (K : PySem.W.Frag) (as : List Addr) : Bool := as.all fun C => match PySem.W.clsIn K C with
  | some cd => !cd.mro.isEmpty && as.all fun D => cd.mro.contains (.ref D) == (C == D)
  | none => false
/-- whether classes stand over others: the table's bools -/
def overB (K : PySem.W.Frag) (os : List Value) (bs : List Bool) (as : List Addr) : Bool := as.all fun C => match PySem.W.clsIn K C with
  | some cd => !cd.mro.isEmpty && (os.map fun o => cd.mro.contains o) == bs
  | none => false
theorem sub_of {K : PySem.W.Frag} {C : Addr} {cd : ClassData} {o : Value} (h : PySem.W.clsIn K C = some cd) (he : (!cd.mro.isEmpty) = true) : PySem.W.subIn K (.ref C) o = some (cd.mro.contains o) := by
  show PySem.W.mroIn K C o = _
  unfold PySem.W.mroIn
  rw [h, Option.bind_some, if_neg (by simpa using he)]
theorem apart_sub {K : PySem.W.Frag} {as : List Addr} (h : apartB K as = true) {C D : Addr} (hC : C ∈ as) (hD : D ∈ as) : PySem.W.subIn K (.ref C) (.ref D) = some (C == D) := by
  have z := List.all_eq_true.mp h C hC
  split at z
  · rename_i cd e
    rw [Bool.and_eq_true] at z
    have y := beq_iff_eq.mp (List.all_eq_true.mp z.2 D hD)
    rw [sub_of e z.1, y]
  · cases z
theorem over_sub {K : PySem.W.Frag} {os : List Value} {bs : List Bool} {as : List Addr} (h : overB K os bs as = true) {C : Addr} (hC : C ∈ as) {n : Nat} {o : Value} (ho : os[n]? = some o) : ∃ b, bs[n]? = some b ∧ PySem.W.subIn K (.ref C) o = some b := by
  have z := List.all_eq_true.mp h C hC
  split at z
  · rename_i cd e
    rw [Bool.and_eq_true] at z
    have y := beq_iff_eq.mp z.2
    refine ⟨cd.mro.contains o, ?_, sub_of e z.1⟩
    rw [← y, List.getElem?_map, ho]
    rfl
  · cases z
theorem kit_own {K : PySem.W.Frag} {C D : Addr} {b : Bool} (is : PySem.W.isClsIn K D = true) (ty : PySem.W.typeIn K (.ref D) = some (.type "type")) (s : PySem.W.subIn K (.ref C) (.ref D) = some b) (hb : C = D → b = true) : PySem.W.kitOne K (.ref C) (.ref D) = some b := by
  unfold PySem.W.kitOne
  by_cases c : C = D
  · rw [if_pos (by rw [c]; exact beq_self_eq_true _), hb c]
  · rw [if_neg fun z => c (Value.ref.inj (beq_iff_eq.mp z))]
    have e : ((PySem.W.clsIn K D).isSome && PySem.W.typeIn K (.ref D) == some (.type "type")) = true := by
      rw [ty, show (PySem.W.clsIn K D).isSome = true from is]
      rfl
    show (if ((PySem.W.clsIn K D).isSome && PySem.W.typeIn K (.ref D) == some (.type "type")) = true then PySem.W.subIn K (.ref C) (.ref D) else none) = some b
    rw [if_pos e]
    exact s
end Gx
namespace Gx
open PySem PySem.Spec PyProof.Rows L2
/-! ### the same by few looks -/
/-- the own part of a class says nothing of these names -/
def silent (K : PySem.W.Frag) (ns : List Str) : Value → Bool
  | .ref a => match K.lookup a with
    | some ⟨_, _, .cls cd, _⟩ => match K.lookup cd.ns with
      | some ⟨_, _, .dict es _, _⟩ => es.toList.all fun e => !e.refKey && ns.all fun n => !e.key.isStr n
      | _ => false
    | _ => false
  | _ => false
theorem silent_own {K : PySem.W.Frag} {ns : List Str} {c : Value} {n : Str} (h : silent K ns c = true) (hn : n ∈ ns) : PySem.W.ownIn K n c = some none := by
  cases c with
  | ref a =>
    unfold silent at h
    dsimp only at h
    unfold PySem.W.ownIn
    dsimp only
    split at h
    · rename_i c' d' cd sl ho
      rw [ho]
      dsimp only
      unfold PySem.W.nsIn
      split at h
      · rename_i c2 d2 es n2 sl2 h2
        rw [h2]
        dsimp only
        have all := List.all_eq_true.mp h
        have f : es.toList.find? (·.key.isStr n) = none := List.find?_eq_none.mpr fun e he z => by
          have := all e he
          rw [Bool.and_eq_true] at this
          have y := List.all_eq_true.mp this.2 n hn
          rw [z] at y
          cases y
        have r : es.toList.any (·.refKey) = false := by
          rw [List.any_eq_false]
          intro e he z
          have := all e he
          rw [Bool.and_eq_true] at this
          rw [z] at this
          exact absurd this.1 (by decide)
        rw [f]
        dsimp only
        rw [r]
        rfl
      · cases h
    · cases h
  | _ => cases h
def isRef : Value → Bool
  | .ref _ => true
  | _ => false
/-- the mro: own classes, silent, then the built-in's -/
def quietTail (K : PySem.W.Frag) (ns : List Str) (bmB : List Value) : List Value → Bool
  | .ref a :: r => silent K ns (.ref a) && quietTail K ns bmB r
  | l => l == bmB
theorem quiet_cases {K : PySem.W.Frag} {ns : List Str} {bmB : List Value} : ∀ l : List Value, quietTail K ns bmB l = true → (∃ c r, l = .ref c :: r ∧ silent K ns (.ref c) = true ∧ quietTail K ns bmB r = true) ∨ l = bmB
  | [], e => .inr (beq_iff_eq.mp e)
  | .ref c :: r, e => .inl ⟨c, r, rfl, (Bool.and_eq_true _ _ ▸ e).1, (Bool.and_eq_true _ _ ▸ e).2⟩
  | .none :: _, e => .inr (beq_iff_eq.mp e)
  | .ellipsis :: _, e => .inr (beq_iff_eq.mp e)
  | .notImplemented :: _, e => .inr (beq_iff_eq.mp e)
  | .bool _ :: _, e => .inr (beq_iff_eq.mp e)
  | .int _ _ :: _, e => .inr (beq_iff_eq.mp e)
  | .float _ _ :: _, e => .inr (beq_iff_eq.mp e)
  | .str _ _ :: _, e => .inr (beq_iff_eq.mp e)
  | .bytes _ _ :: _, e => .inr (beq_iff_eq.mp e)
  | .type _ :: _, e => .inr (beq_iff_eq.mp e)
  | .builtin _ :: _, e => .inr (beq_iff_eq.mp e)
theorem quiet_along {K : PySem.W.Frag} {ns : List Str} {bmB : List Value} {n : Str} (hn : n ∈ ns) : ∀ l : List Value, quietTail K ns bmB l = true → PySem.W.alongIn K n l = PySem.W.alongIn K n bmB
  | [], e => by rw [show [] = bmB from beq_iff_eq.mp e]
  | a :: r, e => by
    rcases quiet_cases (a :: r) e with ⟨c, r', q, h1, h2⟩ | q
    · obtain ⟨rfl, rfl⟩ := List.cons.inj q
      rw [← quiet_along hn r h2]
      show (match PySem.W.ownIn K n (.ref c) with | some (some v) => some (some v) | some none => PySem.W.alongIn K n r | none => none) = _
      rw [silent_own h1 hn]
    · rw [q]
theorem quiet_exc {K : PySem.W.Frag} {ns : List Str} {bmB : List Value} (hb : PySem.W.excTail bmB bmB = true) : ∀ l : List Value, quietTail K ns bmB l = true → PySem.W.excTail bmB l = true
  | [], e => by rw [show [] = bmB from beq_iff_eq.mp e]; exact hb
  | a :: r, e => by
    rcases quiet_cases (a :: r) e with ⟨c, r', q, _, h2⟩ | q
    · obtain ⟨rfl, rfl⟩ := List.cons.inj q
      exact quiet_exc hb r h2
    · rw [q]
      exact hb
/-- what a built-in's tail says of some names, whatever the program -/
structure ETail (bmB : List Value) (fs : List Str) : Prop where
  self : PySem.W.excTail bmB bmB = true
  sa : ∀ K, PySem.W.alongIn K "__setattr__" bmB = some (some (.builtin "object.__setattr__"))
  ga : ∀ K, PySem.W.alongIn K "__getattribute__" bmB = some (some (.builtin "BaseException.__getattribute__"))
  gg : ∀ K, PySem.W.alongIn K "__getattr__" bmB = some none
  gc : ∀ K, PySem.W.alongIn K "__class__" bmB = some (some (.builtin "object.__class__"))
  hB : bmB.contains (.type "BaseException") = true
  hO : bmB.contains (.type "object") = true
  fl : ∀ K, fs.all (fun f => PySem.W.alongIn K f bmB == some none) = true
abbrev fV : List Str := ["value", "position", "problem"]
abbrev fL : List Str := ["value", "least"]
abbrev fR : List Str := ["name", "table", "key", "place", "position", "line", "point", "act", "item", "earliest", "request"]
abbrev fA : List Str := ["kind", "limit", "count"]
theorem etV : ETail tlV fV := ⟨by decide +kernel, fun K => by kernel_rfl, fun K => by kernel_rfl, fun K => by kernel_rfl, fun K => by kernel_rfl, by decide +kernel, by decide +kernel, fun K => by kernel_rfl⟩
theorem etL : ETail tlL fL := ⟨by decide +kernel, fun K => by kernel_rfl, fun K => by kernel_rfl, fun K => by kernel_rfl, fun K => by kernel_rfl, by decide +kernel, by decide +kernel, fun K => by kernel_rfl⟩
theorem etR : ETail tlR fR := ⟨by decide +kernel, fun K => by kernel_rfl, fun K => by kernel_rfl, fun K => by kernel_rfl, fun K => by kernel_rfl, by decide +kernel, by decide +kernel, fun K => by kernel_rfl⟩
theorem etA : ETail tlA fA := ⟨by decide +kernel, fun K => by kernel_rfl, fun K => by kernel_rfl, fun K => by kernel_rfl, fun K => by kernel_rfl, by decide +kernel, by decide +kernel, fun K => by kernel_rfl⟩
theorem call_type : PySem.fastLookup "type" "__call__" = some (some (.builtin "type.__call__")) := by kernel_rfl
theorem sp_class (K : PySem.W.Frag) : PySem.W.specialIn K (.builtin "object.__class__") "__get__" = some (some (.builtin "getset_descriptor.__get__")) := by kernel_rfl
theorem tk_class (K : PySem.W.Frag) : PySem.W.takesIn K (.builtin "object.__class__") = some true := by kernel_rfl
abbrev base4 : List Str := ["__setattr__", "__getattribute__", "__getattr__", "__class__"]
/-- an error class, by few looks -/
def ecQ (K : PySem.W.Frag) (fs : List Str) (C : Addr) (bmB : List Value) (newId : String) : Bool := match K.lookup C with
  | some ⟨.type "type", _, .cls cd, sl⟩ => (match cd.mro, sl.toList with
    | .ref C' :: bm, [_, _, _, _, some (.builtin n), _] => C' == C && n == newId && !cd.hasDel && cd.hasDict && quietTail K (base4 ++ fs) bmB (.ref C' :: bm)
    | _, _ => false)
  | _ => false
theorem ecQ_of {K : PySem.W.Frag} {fs : List Str} {C : Addr} {bmB : List Value} {newId : String} (E : ETail bmB fs) (h : ecQ K fs C bmB newId = true) : EC K C bmB newId ∧ ∀ f ∈ fs, PySem.W.findIn K (.ref C) f = some none := by
  unfold ecQ at h
  split at h
  · rename_i dd cd sl ho
    split at h
    · rename_i C' bm k0 k1 k2 k3 n k5 hm hs
      simp only [Bool.and_eq_true, beq_iff_eq, Bool.not_eq_true'] at h
      obtain ⟨⟨⟨⟨rfl, rfl⟩, hdel⟩, hdi⟩, qt⟩ := h
      have hc : PySem.W.clsIn K C' = some cd := by unfold PySem.W.clsIn; rw [ho]
      have ty : PySem.W.typeIn K (.ref C') = some (.type "type") := by
        show (K.lookup C').map (·.cls) = _
        rw [ho]
        rfl
      have et := quiet_exc E.self _ qt
      have eb : PySem.W.excTail bmB bm = true := by
        rw [show PySem.W.excTail bmB (.ref C' :: bm) = PySem.W.excTail bmB bm from rfl] at et
        exact et
      have fi : ∀ n ∈ base4 ++ fs, PySem.W.findIn K (.ref C') n = PySem.W.alongIn K n bmB := fun n hn => by
        show (match K.lookup C' with | some ⟨_, _, .cls cd, _⟩ => PySem.W.alongIn K n cd.mro | _ => none) = _
        rw [ho]
        dsimp only
        rw [hm]
        exact quiet_along hn _ qt
      have mr : ∀ T : String, PySem.W.mroIn K C' (.type T) = some (bmB.contains (.type T)) := fun T => by
        unfold PySem.W.mroIn
        rw [hc, Option.bind_some, if_neg (by rw [hm]; exact Bool.false_ne_true), hm, List.contains_cons, PySem.W.excTail_contains T _ eb]
        rfl
      refine ⟨⟨?_, ?_, ?_, ?_, ?_, ty, ?_, ?_, ?_, ?_, ?_, ?_, sp_class K, tk_class K⟩, fun f hf => ?_⟩
      · unfold PySem.W.excInitIn
        rw [ho]
        simp only [hm, hs]
        simp [hdel, eb]
      · unfold PySem.W.excOver
        rw [hc, Option.any_some, hm]
        simp [eb]
      · unfold PySem.W.hasDictIn
        rw [hc]
        exact hdi
      · unfold PySem.W.keepIn
        dsimp only
        rw [ho]
        dsimp only
        unfold PySem.W.specialIn
        rw [ty, Option.bind_some]
        show (PySem.fastLookup "type" "__call__" == _) = true
        rw [call_type]
        exact beq_self_eq_true _
      · unfold PySem.W.isClsIn
        rw [hc]
        rfl
      · rw [fi _ (by simp), E.sa]
      · rw [fi _ (by simp), E.ga]
      · rw [fi _ (by simp), E.gg]
      · rw [fi _ (by simp), E.gc]
      · show PySem.W.mroIn K C' _ = _
        rw [mr, E.hB]
      · rw [mr, E.hO]
      · rw [fi f (List.mem_append_right _ hf)]
        exact beq_iff_eq.mp (List.all_eq_true.mp (E.fl K) f hf)
    · cases h
  · cases h
end Gx
namespace Gx
open PySem PySem.Spec PyProof.Rows L2
section
variable {K : PySem.W.Frag} {mg : Str → Option Value} {x qual : Str} {st : Stmt} {bmB : List Value} {B newId initId : String}
theorem ES.of2 {C f : Addr} {fd : FuncData} (h : mg x = some (.ref C)) (t : EC K C bmB newId) (i1 : PySem.W.findIn K (.ref C) "__init__" = some (some (.ref f))) (i2 : PySem.W.typeIn K (.ref f) = some (.type "function")) (i3 : Fun K "__init__" qual st f fd) : ES K mg x qual st bmB newId := by
  have e := cl_of h
  refine ⟨?_, ?_, f, fd, ?_, i2, i3⟩ <;> rw [e]
  · exact h
  · exact t
  · exact i1
theorem EN.of2 {C : Addr} (h : mg x = some (.ref C)) (F : EB B newId initId bmB) (t : EC K C bmB newId) (q : PySem.W.excIn K C bmB newId = true) : EN K mg x := by
  have e := cl_of h
  exact ⟨B, newId, initId, bmB, by rw [e]; exact h, F, by rw [e]; exact t, by rw [e]; exact q⟩
end
end Gx
namespace Gx
open PySem PySem.Spec PyProof.Rows L2
/-! ### values that hold data, whatever their shape -/
/-- all but the object at p is as it was -/
def Kp (p : Addr) (H H' : Hp) : Prop := ∀ b o, b ≠ p → H b = some o → H' b = some o
theorem Kp.refl {p : Addr} {H : Hp} : Kp p H H := fun _ _ _ h => h
theorem Kp.trans {p : Addr} {H H1 H2 : Hp} (a : Kp p H H1) (b : Kp p H1 H2) : Kp p H H2 := fun c o n h => b c o n (a c o n h)
theorem Kp.at {p : Addr} {H : Hp} {o : HO} : Kp p H (upd H p o) := fun b u n e => by rw [upd_ne n]; exact e
theorem Kp.of {p : Addr} {H H' : Hp} (s : Same H H') : Kp p H H' := fun b o _ e => s b o e
theorem sameU {q : Addr} {H : Hp} {o : HO} (h : H q = none) : Same H (L2.upd H q o) := fun b x e => by rw [upd_ne (ne_of_none e h)]; exact e
mutual
/-- v holds the data d, all of it where N allows; texts and numbers are small -/
inductive DatN (N : Addr → Prop) (H : Hp) : V → PyData → Prop
  | non : DatN N H .non .none
  | bl (b : Bool) : DatN N H (.bl b) (.bool b)
  | int (i : Int) (h : i.natAbs < 10 ^ 100) : DatN N H (.int i) (.int i)
  | str (z : Str) (h : z.length ≤ 100) (a : ∀ c ∈ z.cps.toList, c < 128) : DatN N H (.str z) (.str z)
  | lst {a : Addr} {xs : List V} {ds : List PyData} (n : N a) (h : H a = some (.lst xs)) (r : DatNL N H xs ds) : DatN N H (.ref a) (.list ds)
  | tup {a : Addr} {xs : List V} {ds : List PyData} (n : N a) (h : H a = some (.tup xs)) (r : DatNL N H xs ds) : DatN N H (.ref a) (.tuple ds)
  | nil {a : Addr} (n : N a) (h : H a = some (.dK [])) : DatN N H (.ref a) (.dict [])
  | one {a : Addr} {v : V} {d : PyData} (k : Int) (n : N a) (h : H a = some (.dK [(.inl k, v)])) (r : DatN N H v d) : DatN N H (.ref a) (.dict [(.int k, d)])
inductive DatNL (N : Addr → Prop) (H : Hp) : List V → List PyData → Prop
  | nil : DatNL N H [] []
  | cons {v : V} {vs : List V} {d : PyData} {ds : List PyData} : DatN N H v d → DatNL N H vs ds → DatNL N H (v :: vs) (d :: ds)
end
/-- v holds the data d, and none of it stands at p -/
abbrev Dat (p : Addr) := DatN fun a => a ≠ p
abbrev DatL (p : Addr) := DatNL fun a => a ≠ p
mutual
theorem DatN.mono {N M : Addr → Prop} {H : Hp} (i : ∀ a, N a → M a) : ∀ {v : V} {d : PyData}, DatN N H v d → DatN M H v d
  | _, _, .non => .non
  | _, _, .bl b => .bl b
  | _, _, .int i h => .int i h
  | _, _, .str z h a => .str z h a
  | _, _, .lst n h r => .lst (i _ n) h (DatNL.mono i r)
  | _, _, .tup n h r => .tup (i _ n) h (DatNL.mono i r)
  | _, _, .nil n h => .nil (i _ n) h
  | _, _, .one k n h r => .one k (i _ n) h (DatN.mono i r)
theorem DatNL.mono {N M : Addr → Prop} {H : Hp} (i : ∀ a, N a → M a) : ∀ {vs : List V} {ds : List PyData}, DatNL N H vs ds → DatNL M H vs ds
  | _, _, .nil => .nil
  | _, _, .cons h r => .cons (DatN.mono i h) (DatNL.mono i r)
end
mutual
theorem DatN.kn {N : Addr → Prop} {H H' : Hp} (k : ∀ b o, N b → H b = some o → H' b = some o) : ∀ {v : V} {d : PyData}, DatN N H v d → DatN N H' v d
  | _, _, .non => .non
  | _, _, .bl b => .bl b
  | _, _, .int i h => .int i h
  | _, _, .str z h a => .str z h a
  | _, _, .lst n h r => .lst n (k _ _ n h) (DatNL.kn k r)
  | _, _, .tup n h r => .tup n (k _ _ n h) (DatNL.kn k r)
  | _, _, .nil n h => .nil n (k _ _ n h)
  | _, _, .one i n h r => .one i n (k _ _ n h) (DatN.kn k r)
theorem DatNL.kn {N : Addr → Prop} {H H' : Hp} (k : ∀ b o, N b → H b = some o → H' b = some o) : ∀ {vs : List V} {ds : List PyData}, DatNL N H vs ds → DatNL N H' vs ds
  | _, _, .nil => .nil
  | _, _, .cons h r => .cons (DatN.kn k h) (DatNL.kn k r)
end
theorem DatN.kp {p : Addr} {H H' : Hp} (k : Kp p H H') {v : V} {d : PyData} (h : Dat p H v d) : Dat p H' v d := h.kn k
theorem DatNL.kp {p : Addr} {H H' : Hp} (k : Kp p H H') {vs : List V} {ds : List PyData} (h : DatL p H vs ds) : DatL p H' vs ds := h.kn k
theorem DatNL.len {N : Addr → Prop} {H : Hp} : ∀ {vs : List V} {ds : List PyData}, DatNL N H vs ds → vs.length = ds.length
  | _, _, .nil => rfl
  | _, _, .cons _ r => by rw [List.length_cons, List.length_cons, DatNL.len r]
theorem DatNL.get {N : Addr → Prop} {H : Hp} : ∀ {vs : List V} {ds : List PyData} {i : Nat} {v : V}, DatNL N H vs ds → vs[i]? = some v → ∃ d, ds[i]? = some d ∧ DatN N H v d
  | _, _, 0, _, .cons h _, e => by
    cases e
    exact ⟨_, rfl, h⟩
  | _, _, i + 1, _, .cons _ r, e => DatNL.get (i := i) r e
  | _, _, _, _, .nil, e => by cases e
theorem DatNL.app {N : Addr → Prop} {H : Hp} : ∀ {vs ws : List V} {ds es : List PyData}, DatNL N H vs ds → DatNL N H ws es → DatNL N H (vs ++ ws) (ds ++ es)
  | _, _, _, _, .nil, h => h
  | _, _, _, _, .cons h r, h' => .cons h (DatNL.app r h')
theorem DatNL.take {N : Addr → Prop} {H : Hp} : ∀ {vs : List V} {ds : List PyData} (n : Nat), DatNL N H vs ds → DatNL N H (vs.take n) (ds.take n)
  | _, _, 0, _ => .nil
  | _, _, n + 1, .nil => .nil
  | _, _, n + 1, .cons h r => .cons h (DatNL.take n r)
theorem DatNL.drop {N : Addr → Prop} {H : Hp} : ∀ {vs : List V} {ds : List PyData} (n : Nat), DatNL N H vs ds → DatNL N H (vs.drop n) (ds.drop n)
  | _, _, 0, h => h
  | _, _, n + 1, .nil => .nil
  | _, _, n + 1, .cons _ r => DatNL.drop n r
theorem DatNL.snoc {N : Addr → Prop} {H : Hp} {vs : List V} {ds : List PyData} {v : V} {d : PyData} (h : DatNL N H vs ds) (h' : DatN N H v d) : DatNL N H (vs ++ [v]) (ds ++ [d]) := h.app (.cons h' .nil)
theorem DatNL.mem {N : Addr → Prop} {H : Hp} {vs : List V} {ds : List PyData} {v : V} (h : DatNL N H vs ds) (m : v ∈ vs) : ∃ d ∈ ds, DatN N H v d := by
  obtain ⟨i, hi, rfl⟩ := List.mem_iff_getElem.mp m
  obtain ⟨d, e, t⟩ := h.get (List.getElem?_eq_getElem hi)
  exact ⟨d, List.mem_of_getElem? e, t⟩
section
variable {K : PySem.W.Frag} {N : Addr → Prop} {H : Hp}
/-- {i: x} -/
theorem Shows.oneI {a : Addr} {k : Int} {v : V} {d : PyData} (e : H a = some (.dK [(.inl k, v)])) (hv : Shows K H v d) : Shows K H (.ref a) (.dict [(.int k, d)]) := by
  rintro X pins σ s u rfl S I r
  cases r
  obtain ⟨_, nm, vs, kv, o, es, ep, ho, ex, hd, _, hp, _⟩ := I.hok _ _ e
  cases kv with
  | @cons _ z _ _ k0 kr =>
    cases kr
    obtain ⟨ek, ev⟩ := k0
    obtain ⟨es⟩ := es
    cases hp with
    | @cons en _ _ _ h1 h2 h3 =>
      cases h3
      have k1 : keyIs z.1 en.key = true := h1
      rw [← ek] at k1
      rcases keyIs_shape k1 with ⟨j, t, z1, z2⟩ | ⟨y, t, z1, z2⟩
      · cases z1
        obtain ⟨as, q, na⟩ := hv X pins σ s z.2 rfl S I ev
        refine ⟨_, .dict (as := [] ++ []) (bs := as ++ []) ho ex.1 hd ?_ ?_, fun y => ?_⟩
        · show ReadsAll s.heap [en.key] [.int k] _
          rw [z2]
          exact .cons (.int _ _) .nil
        · show ReadsAll s.heap [en.val] [d] _
          rw [h2]
          exact .cons q .nil
        · have y : sysModules = a ∨ sysModules ∈ as := by simpa using y
          rcases y with y | y
          · rw [← y] at nm
            simp at nm
          · exact na y
      · cases z1
theorem Shows.tup {a : Addr} {vs : List V} {ds : List PyData} (hs : SqT K H a vs) (h : ShowsAll K H vs ds) : Shows K H (.ref a) (.tuple ds) := by
  rintro X pins σ s u rfl S I r
  cases r
  obtain ⟨its, rv, ⟨o, ho, hc, n, hd⟩, _⟩ := I.tuple hs
  obtain ⟨as, q, na⟩ := ShowsAll.reads S I h rv
  exact ⟨_, .tuple ho hc hd q, na⟩
mutual
theorem DatN.shows : ∀ {v : V} {d : PyData}, DatN N H v d → Shows K H v d
  | _, _, .non => .of .non
  | _, _, .bl b => .of (.bl b)
  | _, _, .int i _ => .of (.int i)
  | _, _, .str z _ _ => .of (.str z)
  | _, _, .lst _ h r => .lst (SqL.of h) (DatNL.shows r)
  | _, _, .tup _ h r => .tup (SqT.of h) (DatNL.shows r)
  | _, _, .nil _ h => .of (.nil h)
  | _, _, .one _ _ h r => .oneI h (DatN.shows r)
theorem DatNL.shows : ∀ {vs : List V} {ds : List PyData}, DatNL N H vs ds → ShowsAll K H vs ds
  | _, _, .nil => .nil
  | _, _, .cons h r => .cons (DatN.shows h) (DatNL.shows r)
end
mutual
theorem DatN.dp : ∀ {v : V} {d : PyData}, DatN N H v d → d.hasDict = false → Dp K H v d
  | _, _, .non, _ => .non
  | _, _, .bl b, _ => .bl b
  | _, _, .int i _, _ => .int i
  | _, _, .str z _ _, _ => .str z
  | _, _, .lst _ h r, e => .lst (SqL.of h) (DatNL.dp r (by simpa only [PyData.hasDict] using e))
  | _, _, .tup _ h r, e => .tup (SqT.of h) (DatNL.dp r (by simpa only [PyData.hasDict] using e))
  | _, _, .nil _ _, e => by simp [PyData.hasDict] at e
  | _, _, .one _ _ _ _, e => by simp [PyData.hasDict] at e
theorem DatNL.dp : ∀ {vs : List V} {ds : List PyData}, DatNL N H vs ds → PyData.hasDictAll ds = false → DpAll K H vs ds
  | _, _, .nil, _ => .nil
  | _, _, .cons h r, e => by
    simp only [PyData.hasDictAll, Bool.or_eq_false_iff] at e
    exact .cons (DatN.dp h e.1) (DatNL.dp r e.2)
end
/-- the name of a data's type -/
def tyD : PyData → String
  | .none => "NoneType"
  | .bool _ => "bool"
  | .int _ => "int"
  | .str _ => "str"
  | .list _ => "list"
  | .tuple _ => "tuple"
  | .dict _ => "dict"
theorem DatN.ty {v : V} {d : PyData} (h : DatN N H v d) : TyX K H v (.type (tyD d)) := by
  cases h with
  | non => exact .base .non
  | bl b => exact .base (.bl b)
  | int i _ => exact .base (.int i)
  | str z _ _ => exact .base (.str z)
  | lst _ h _ => exact .base (.lst h)
  | tup _ h _ => exact .base (.tup h)
  | nil _ h => exact .base (.dK h)
  | one _ _ h _ => exact .base (.dK h)
/-- isinstance of data -/
def isT (t ty : String) : Bool := ty == t || (t == "int" && ty == "bool")
def isD (t : String) (d : PyData) : Bool := isT t (tyD d)
theorem kit_T : ∀ ty ∈ ["NoneType", "bool", "int", "str", "list", "tuple", "dict"], ∀ t ∈ ["int", "bool", "str", "list", "tuple", "dict"], kitB ty t = some (isT t ty) := by decide +kernel
theorem tyD_in (d : PyData) : tyD d ∈ ["NoneType", "bool", "int", "str", "list", "tuple", "dict"] := by cases d <;> simp [tyD]
theorem kit_D {d : PyData} {t : String} (h : t ∈ ["int", "bool", "str", "list", "tuple", "dict"]) : PySem.W.kitOne K (.type (tyD d)) (.type t) = some (isD t d) := kit_ty (kit_T _ (tyD_in d) t h)
/-- isinstance(x, (t1, t2)) -/
theorem kit_D2 {d : PyData} {t1 t2 : String} (h1 : t1 ∈ ["int", "bool", "str", "list", "tuple", "dict"]) (h2 : t2 ∈ ["int", "bool", "str", "list", "tuple", "dict"]) : PySem.W.kitAny K (.type (tyD d)) [.type t1, .type t2] = some (isD t1 d || isD t2 d) := by
  refine kitAny_cons (kit_D h1) (fun e => kitAny_cons (kit_D h2) (fun e2 => ?_) fun e2 => ?_) fun e => ?_
  · rw [e, e2]
    rfl
  · rw [e, e2]
    rfl
  · rw [e]
    rfl
end
end Gx
namespace Gx
open PySem PySem.Spec PyProof.Rows L2
/-! ### enumerate over a tuple, loops over what is a list or a tuple -/
theorem meets_enum1 {v : Value} {o : Obj} {H : Heap → Prop} (B : Begins v o H) :
    Meets (Builtin.«enumerate.__new__» ⟨[.type "enumerate", v], []⟩) (fun _ R s => H s.heap ∧
      R (.ok (.ret (.ref (s.heap.push o).objs.size))) { s with heap := (s.heap.push o).push { cls := .type "enumerate", data := .fields #[.none, .bool false, .ref s.heap.objs.size, rawInt 0, .none, .none] } }) :=
  .of_wp fun prog w A R s h => by
    obtain ⟨hp, g, d, tk, os⟩ := s; obtain ⟨h1, h⟩ := h
    have hsub := sub_enumerate
    have q1 : ∀ {A' : Around} {E : Value → Shared → Prop} {Q : Value → Shared → Prop}, Q (.ref hp.objs.size) ⟨hp.push o, g, d, tk, os⟩ → wpAny (model prog w) A' (pyIter v) Q E ⟨hp, g, d, tk, os⟩ :=
      fun q => B.iter prog w _ _ ⟨hp, g, d, tk, os⟩ _ h1 q
    wp_walk using q1
    refine wpAny_stack_any fun st => wpAny_pure ?_
    split
    · rename_i c _ _ _ _ _
      cases (c == Value.type "enumerate")
      · wp_walk using q1
        exact ⟨_, rfl, h⟩
      · wp_walk using q1
        exact ⟨_, rfl, h⟩
    · wp_walk using q1
      exact ⟨_, rfl, h⟩
section
variable {prog : Program} {w : World} {A : Around} {E : Value → Shared → Prop} {s : Shared}
theorem call_enum1 {v : Value} {o : Obj} {H : Heap → Prop} {Q : Value → Shared → Prop} (B : Begins v o H) (h1 : H s.heap)
    (h : ∀ h', IsEnum h' (s.heap.objs.size + 1) s.heap.objs.size 0 .none → h'.get? s.heap.objs.size = some o → h'.objs.size = s.heap.objs.size + 2 →
      (∀ b o, s.heap.get? b = some o → h'.get? b = some o) → Q (.ref (s.heap.objs.size + 1)) { s with heap := h' }) :
    wpAny (model prog w) A (call (.type "enumerate") [v]) Q E s := by
  refine callType_new F.called_enumerate (by decide) (F.typeCall_enumerate_1 _) (F.newCall_enumerate_1 _) (fun obj => F.args_object_init_2 obj _) F.entry_enumerate_new
    (meets_enum1 B) ⟨h1, ?_⟩
  have hz : (s.heap.push o).objs.size = s.heap.objs.size + 1 := Heap.size_push ..
  show _ ∧ _
  rw [hz]
  have he : IsEnum ((s.heap.push o).push { cls := .type "enumerate", data := .fields #[.none, .bool false, .ref s.heap.objs.size, rawInt 0, .none, .none] }) (s.heap.objs.size + 1) s.heap.objs.size 0 .none := by
    have := Heap.get?_push_size (s.heap.push o) (o := { cls := .type "enumerate", data := .fields #[.none, .bool false, .ref s.heap.objs.size, rawInt 0, .none, .none] }) rfl
    rw [hz] at this; exact this
  exact ⟨⟨_, he, rfl⟩, h _ he (Heap.get?_push_of_some _ (Heap.get?_push_size _ B.free)) (by rw [Heap.size_push, hz]) fun b o x => Heap.get?_push_of_some _ (Heap.get?_push_of_some _ x)⟩
end
/-- the tuple at a as it stands at each turn, each item in a new pair -/
def Ite' (K : PySem.W.Frag) (a : Addr) : It :=
  ⟨fun i H => ∃ (xs : List V) (x : V), SqT K H a xs ∧ xs[i]? = some x, fun i H v H' => ∃ T x, v = .ref T ∧ H T = none ∧ H' = upd H T (.tup [.int (i : Nat), x]) ∧ ∀ xs, SqT K H a xs → xs[i]? = some x, fun i H => ∃ xs : List V, SqT K H a xs ∧ xs.length = i⟩
theorem turn_enumT {P : Program} {w : World} {K : PySem.W.Frag} {elts : List Expr} {kk : Nat} {tpos : Pos} (a e it : Addr) :
    Turn P w K (.Tuple elts kk tpos) (Ite' K a) [e, it] e (fun i h => (∃ old, IsEnum h e it ((i : Nat) : Int) old) ∧ h.IsTupleIter it a i ∧ e ≠ it ∧ a ≠ it ∧ a ≠ e) where
  mem := by simp
  obj := fun i h st b hb => by
    obtain ⟨⟨old, he⟩, ⟨o, ho, hc, hd⟩, _⟩ := st
    have e' : b = e ∨ b = it := by simpa using hb
    rcases e' with z | z
    · rw [z]; exact ⟨_, he, fun v q => nomatch q⟩
    · rw [z]; exact ⟨o, ho, fun v q => by rw [hd] at q; cases q⟩
  keep := fun i h h' st k => let ⟨⟨old, he⟩, hi, hne⟩ := st; ⟨⟨old, k e (by simp) _ he⟩, hi.at fun o q => k it (by simp) o q, hne⟩
  item := by
    intro X hP hw hK hc i pins s σ H E I hf st hg
    subst hP hw hK
    obtain ⟨⟨old, he⟩, hit, hne, nai, nae⟩ := st
    obtain ⟨xs, x, hq, hx⟩ := hg
    obtain ⟨its, rv, p, hz⟩ := I.tuple hq
    obtain ⟨u, hu, ru⟩ := rv.get hx
    have hel : e < s.heap.objs.size := Heap.lt_size he
    have hil : it < s.heap.objs.size := by obtain ⟨_, q, _⟩ := hit; exact Heap.lt_size q
    have D := Draws.tuple (prog := X.prog) (w := X.w) (A := X.A.in1) (I.ok.hd hc) it a nai its.toArray
    have hu' : i < its.toArray.size := by
      have := (List.getElem?_eq_some_iff.mp hu).1
      simpa using this
    refine wpAny_pyNext_enum_itemD D he ⟨hit, p⟩ hu' hne (by simp [hne, Ne.symm nae]) fun u' h' tk hu2 ho hit' hT hsz hk => ?_
    have eu : u' = u := by
      have : its[i]? = some u' := by simpa using hu2
      rw [hu] at this
      exact (Option.some.inj this).symm
    subst eu
    refine ⟨_, rfl, wpAny_letOwnedTupleGo_enum (s := { s with heap := h', toks := tk + 1 }) ho fun h'' he' sb => ?_⟩
    have hT2 : h''.get? s.heap.objs.size = some { cls := .type "tuple", data := .seq #[.int i tk, u'] } := (sb.2 _ (Nat.ne_of_gt hel)).trans hT
    have new : ObjOk X.prog X.w (upd H s.heap.objs.size (.tup [.int (i : Nat), x])) h'' s.heap.objs.size (.tup [.int (i : Nat), x]) :=
      ⟨by show 2 ≤ sizeLine; decide, [.int i tk, u'], .cons ⟨_, rfl⟩ (.cons ru .nil), ⟨_, hT2, rfl, _, rfl⟩⟩
    have I1 : Inv X pins σ (upd H s.heap.objs.size (.tup [.int (i : Nat), x])) { s with heap := h'', toks := tk + 1 } :=
      I.turnedNew (ch := [e, it]) (fun b ob hb q => (sb.2 b (fun z => hb (by simp [z]))).trans (hk b ob (fun z => hb (by simp [z])) (fun z => hb (by simp [z])) q)) hf (Nat.le_refl _) new
    refine ⟨.ref s.heap.objs.size, _, I1, rfl, ⟨_, x, rfl, I.hok.fresh (Nat.le_refl _), rfl, fun ys hy => by rw [I.tuple_inj hy hq]; exact hx⟩, ⟨⟨u', ?_⟩, hit'.1.at fun o q => (sb.2 it (Ne.symm hne)).trans q, hne, nai, nae⟩, fun b hb => ?_⟩
    · have e1 : ((i + 1 : Nat) : Int) = (i : Int) + 1 := by omega
      rw [e1]; exact he'
    · have hb' : b < s.heap.objs.size := by
        have e' : b = e ∨ b = it := by simpa using hb
        rcases e' with z | z
        · rw [z]; exact hel
        · rw [z]; exact hil
      rw [upd_ne (Nat.ne_of_lt hb')]
      exact (hf b hb).1
  done := by
    intro X hP hw hK hc i pins s σ H E I hf st hg
    subst hP hw hK
    obtain ⟨⟨old, he⟩, hit, hne, nai, nae⟩ := st
    obtain ⟨xs, hq, hx⟩ := hg
    obtain ⟨its, rv, p, hz⟩ := I.tuple hq
    obtain ⟨f0, f1, f2, f3, f4, f5⟩ := hf it (by simp)
    have hl := rv.length
    have D := Draws.tuple (prog := X.prog) (w := X.w) (A := X.A.in1) (I.ok.hd hc) it a nai its.toArray
    have ei : i = its.toArray.size := by
      simp only [List.size_toArray]
      omega
    subst ei
    exact wpAny_pyNext_enum_endD D he ⟨hit, p⟩ fun h' eb => ⟨rfl, I.turned (t' := s.toks) (fun b o hb q => eb b o hb q) f0 f1 f3 f4 f5⟩
  self := fun A i s Q E st h => let ⟨⟨_, he⟩, _⟩ := st; wpAny_pyIter_enum he h
theorem walk_enumT {K : PySem.W.Frag} {a : Addr} {xs : List V} : Walk (Ite' K a) xs.length (fun H => SqT K H a xs) (YPair (fun i => some (.int (i : Nat))) (fun i => xs[i]?)) := by
  refine ⟨fun i _ hi q => ⟨xs, xs[i], q, by simp [hi]⟩, fun _ q => ⟨xs, q, rfl⟩, fun i H v H' _ q y => ?_⟩
  obtain ⟨T, x, h1, h2, h3, h4⟩ := y
  exact ⟨T, .int (i : Nat), x, h1, h2, h3, rfl, h4 xs q⟩
/-- J walks the list or tuple xs at a, each item in a new pair -/
def Wke (K : PySem.W.Frag) (a : Addr) (xs : List V) (H : Hp) (J : It) : Prop := (J = Ite K a ∧ SqL K H a xs) ∨ (J = Ite' K a ∧ SqT K H a xs)
theorem Wke.walk {K : PySem.W.Frag} {a : Addr} {xs : List V} {H : Hp} {J : It} (h : Wke K a xs H J) : ∃ G, Walk J xs.length G (YPair (fun i => some (.int (i : Nat))) (fun i => xs[i]?)) ∧ G H ∧ ∀ H', Same H H' → G H' := by
  rcases h with ⟨rfl, hs⟩ | ⟨rfl, hs⟩
  · exact ⟨_, walk_enum (K := K) (a := a) (xs := xs), hs, fun H' s => s.seq hs⟩
  · refine ⟨_, walk_enumT (K := K) (a := a) (xs := xs), hs, fun H' s => ?_⟩
    rcases hs with hs | hs
    · rcases hs with hs | ⟨o, hs⟩
      · exact .inl (.inl (s _ _ hs))
      · exact .inl (.inr ⟨o, s _ _ hs⟩)
    · exact .inr hs
/-- enumerate(e), e a list or a tuple -/
def iEnumS (K : PySem.W.Frag) (ta : TA) : TI := fun σ H R => ta σ H fun vs H1 => ∃ a xs, vs = [.ref a] ∧ (SqL K H1 a xs ∨ SqT K H1 a xs) ∧ ∀ J, Wke K a xs H1 J → R J H1
theorem pi_enumS {X : Cx} {e : Expr} {ta : TA} {p pos tpos : Pos} {elts : List Expr} {kk : Nat} (hg : Gl X "enumerate") (hm : X.mg "enumerate" = none) (ha : PA X [e] ta) (hs : starEach [e] X.env = [(false, eval e X.env)] := by rfl) :
    PI X (.Tuple elts kk tpos) (.Call (.Name "enumerate" p) [e] [] pos) (iEnumS X.K ta) := by
  refine ⟨fun pins s σ H R I h => ?_⟩
  refine Call_ (ld_blt I hg hm boot_enumerate (PyProof.Rows.callWith_type1 (thn (ha.run pos pins s σ H _ I h) fun us s1 ⟨vs, H1, I1, r1, q1⟩ => ?_) hs rfl))
  obtain ⟨a, xs, ex, z, q⟩ := q1
  subst ex
  cases r1 with
  | cons r rr =>
    cases rr
    cases r
    rcases z with hq | hq
    · obtain ⟨its, rv, p', hz⟩ := I1.list hq
      refine call_enumerate_list p'.isList fun h' he hit hsz hk => wpAny_pyIter_enum he ?_
      have I2 : Inv X pins σ H1 { s1 with heap := h' } := I1.kept (t' := s1.toks) hk
      refine ⟨s1.heap.objs.size + 1, [s1.heap.objs.size + 1, s1.heap.objs.size], _, _, H1, rfl, I2, turn_enum a (s1.heap.objs.size + 1) s1.heap.objs.size, ⟨⟨.none, he⟩, hit, Nat.succ_ne_self _⟩, fun b hb => ?_, q _ (.inl ⟨rfl, hq⟩)⟩
      have e' : b = s1.heap.objs.size + 1 ∨ b = s1.heap.objs.size := by simpa using hb
      have hle : s1.heap.objs.size ≤ b := by
        rcases e' with z | z
        · rw [z]; exact Nat.le_add_right _ _
        · rw [z]; exact Nat.le_refl _
      exact I1.fpOk hle (I1.hok.fresh hle)
    · obtain ⟨its, rv, p', hz⟩ := I1.tuple hq
      have hal : a < s1.heap.objs.size := by
        obtain ⟨o, ho, _⟩ := p'
        exact Heap.lt_size ho
      refine call_enum1 (begins_tuple a its.toArray) p' fun h' he hit hsz hk => wpAny_pyIter_enum he ?_
      have I2 : Inv X pins σ H1 { s1 with heap := h' } := I1.kept (t' := s1.toks) hk
      refine ⟨s1.heap.objs.size + 1, [s1.heap.objs.size + 1, s1.heap.objs.size], _, _, H1, rfl, I2, turn_enumT a (s1.heap.objs.size + 1) s1.heap.objs.size, ⟨⟨.none, he⟩, ⟨_, hit, rfl, rfl⟩, Nat.succ_ne_self _, Nat.ne_of_lt hal, Nat.ne_of_lt (Nat.lt_succ_of_lt hal)⟩, fun b hb => ?_, q _ (.inr ⟨rfl, hq⟩)⟩
      have e' : b = s1.heap.objs.size + 1 ∨ b = s1.heap.objs.size := by simpa using hb
      have hle : s1.heap.objs.size ≤ b := by
        rcases e' with z | z
        · rw [z]; exact Nat.le_add_right _ _
        · rw [z]; exact Nat.le_refl _
      exact I1.fpOk hle (I1.hok.fresh hle)
end Gx
namespace Gx
open PySem PySem.Spec PyProof.Rows L2
/-! ### sorted of a list or a tuple of texts -/
section
variable {prog : Program} {w : World} {A : Around} {E : Value → Shared → Prop} {s : Shared}
theorem collect_tup {l : Addr} {vs : List Value} {Q : List Value → Shared → Prop} (hl : s.heap.IsTuple l vs.toArray)
    (h : Q vs { s with heap := (s.heap.push (seqObj "list" #[] 0)).update s.heap.objs.size (Obj.mapSeq (· ++ vs.toArray)) }) (hsz : vs.length ≤ sizeLine := by size_fits) :
    wpAny (model prog w) A (collect (.ref l)) Q E s := by
  obtain ⟨o, ho, hc, n, hd⟩ := id hl
  unfold collect
  refine wpAny_bind (wpAny_runValue (codeAny_builtin entry_proto_collect' ?_))
  show wpAny _ _ (do again (.builtin "list.__iadd__" ⟨[← newList [], .ref l], []⟩)) _ _ s
  refine wpAny_bind (wpAny_newList (wpAny_pure ⟨Code.quiet_builtin _ (by decide +kernel), codeAny_builtin entry_list_iadd' ?_⟩))
  show wpAny _ _ (Builtin.List.listExtendWith (.ref s.heap.objs.size) (.ref l) (.ref s.heap.objs.size)) _ _ { s with heap := s.heap.push (seqObj "list" #[] 0) }
  unfold Builtin.List.listExtendWith
  have ho' : (s.heap.push (seqObj "list" #[] 0)).get? l = some o := Heap.get?_push_of_some _ ho
  refine wpAny_bind (wpAny_typeOf (T := "tuple") ⟨o, ho', hc⟩ ?_)
  have ht : (Value.type "tuple" == Value.type "tuple") = true := by rfl
  rw [if_pos (by rw [ht]; simp)]
  refine wpAny_bind (listItems_at ho' hd ?_)
  refine wpAny_bind (listItems_at (xs := #[]) (n := 0) (Heap.get?_push_size _ rfl) rfl ?_)
  rw [if_neg (by simp)]
  refine wpAny_bind (listUpdate_at (xs := #[]) (n := 0) (Heap.get?_push_size _ rfl) rfl ?_ (Nat.zero_le _) (by show (#[] ++ vs.toArray).size ≤ sizeLine + 1; simp only [Array.size_append, List.size_toArray, List.length_nil]; omega))
  refine wpAny_pure ?_
  show wpAny (model prog w) A (do
      let o ← load s.heap.objs.size
      match o.data with
      | .seq xs _ => pure xs.toList
      | _ => unsupported "internal:collect") Q E { s with heap := (s.heap.push (seqObj "list" #[] 0)).update s.heap.objs.size (Obj.mapSeq (· ++ vs.toArray)) }
  refine wpAny_bind (wpAny_load (get?_update_seq (Heap.get?_push_size _ rfl) _) ?_)
  show wpAny _ _ (pure ((#[] : Array Value) ++ vs.toArray).toList) Q E _
  rw [show ((#[] : Array Value) ++ vs.toArray).toList = vs by simp]
  exact wpAny_pure h
theorem sortedKT {κ : KeyKind} (hO : κ.OneLt) {l : Addr} {vs : List Value} {Q : Value → Shared → Prop} (hl : s.heap.IsTuple l vs.toArray) (h0 : KeysOf κ (pairsOf vs)) (hkk : ∀ v₁ v₂ rest, vs = v₁ :: v₂ :: rest → keyKind' (v₁ :: v₂ :: rest).toArray = pure oneType') (h64 : vs.length < 64)
    (h : ∀ st' : SortSt, (arrOf st').Perm (pairsOf vs) → SortedToK κ (arrOf st') (pairsOf vs).size → Q (.ref (s.heap.objs.size + 1)) { s with heap := sortedAll s.heap vs ((arrOf st').map (·.2)) }) :
    wpAny (model prog w) A (call (.builtin "sorted") [.ref l]) Q E s := by
  refine Calls.call_function_entry kind_sorted plain_sorted entry_sorted (args_sorted1 _) ?_
  unfold Builtin.«sorted»
  refine wpAny_bind (m := checkCount "sorted" 1 1 _) (wpAny_pure ?_)
  refine wpAny_bind (collect_tup hl ?_)
  refine wpAny_bind (wpAny_newList ?_)
  have hsz : ((s.heap.push (seqObj "list" #[] 0)).update s.heap.objs.size (Obj.mapSeq (· ++ vs.toArray))).objs.size = s.heap.objs.size + 1 := by
    rw [Heap.size_update, size_push']
  have hoL : (((s.heap.push (seqObj "list" #[] 0)).update s.heap.objs.size (Obj.mapSeq (· ++ vs.toArray))).push (seqObj "list" vs.toArray 0)).get? (s.heap.objs.size + 1) = some (seqObj "list" vs.toArray 0) := by
    rw [← hsz]; exact Heap.get?_push_size _ rfl
  show wpAny _ _ _ _ _ { s with heap := ((s.heap.push (seqObj "list" #[] 0)).update s.heap.objs.size (Obj.mapSeq (· ++ vs.toArray))).push (seqObj "list" vs.toArray 0) }
  rw [hsz]
  refine wpAny_bind (wpAny_holding (wpAny_call_entry slot_list_sort ⟨_, hoL, rfl⟩ entry_list_sort (list_sort_treeK hO hoL h0 hkk h64 fun st' a1 a2 => ⟨_, rfl, ?_⟩) (args_list_sort _)))
  exact wpAny_pure ⟨_, rfl, h st' a1 a2⟩
end
section
variable {X : Cx}
/-- sorted(xs), xs a list or a tuple of texts -/
def rSortedQ (K : PySem.W.Frag) : List V → Hp → VK → Prop := fun vs H Q => ∃ (a : Addr) (xs : List Str), vs = [V.ref a] ∧ (SqL K H a (xs.map V.str) ∨ SqT K H a (xs.map V.str)) ∧ xs.length < 64 ∧
  ∀ (ys : List Str) (p : Addr), ys.Perm xs → sortedS ys = true → H p = none → Q (.ref p) (upd H p (.lst (ys.map V.str)))
theorem cr_sortedQ : CallR X (.builtin "sorted") (rSortedQ X.K) := by
  intro pins s σ H vs us Q I r h
  obtain ⟨a, xs, rfl, hs, h64, q⟩ := h
  rcases hs with hs | hs
  · exact cr_sortedS pins s σ H _ _ Q I r ⟨a, xs, rfl, hs, h64, q⟩
  · obtain ⟨its, rv, hl, _⟩ := I.tuple hs
    rw [Vals.ref1 r]
    have hlen0 := rv.length
    rw [List.length_map] at hlen0
    have hS := rv.strs
    refine sortedKT strKind_oneLt hl hS.keysOf (fun v₁ v₂ rest e => keyKind_strs (by rw [← e]; exact hS)) (by rw [← hlen0]; exact h64) fun st' hp hs => ?_
    obtain ⟨ys, h1, h2, h3⟩ := sorted_out_str hS hp hs
    obtain ⟨ep, he'⟩ := PyProof.Rows.sortedAll_at s.heap its ((arrOf st').map (·.2))
    have hlen : (ys.map V.str).length ≤ sizeLine := by rw [List.length_map, h2.length_eq]; exact small64 h64
    exact ⟨.ref _, upd H (s.heap.objs.size + 1) (.lst (ys.map V.str)), I.laid (t' := s.toks) (fun _ _ => PyProof.Rows.sortedAll_old) (Nat.le_succ _) ⟨hlen, ((arrOf st').map (·.2)).toList, ep, vals_of_strs h1, he'⟩, rfl, q ys _ h2 h3 (I.hok.fresh (Nat.le_succ _))⟩
end
end Gx
namespace Gx
open PySem PySem.Spec PyProof.Rows L2
/-! ### tuples of the module, classes of the module, an error with two fields -/
/-- the name stands for a tuple of the module -/
structure TupAt (K : PySem.W.Frag) (mg : Str → Option Value) (x : Str) (vs : List V) : Prop where
  g : mg x = some (.ref (cl mg x))
  t : ∀ H : Hp, SqT K H (cl mg x) vs
theorem TupAt.known {K : PySem.W.Frag} {mg : Str → Option Value} {x : Str} {vs : List V} (T : TupAt K mg x vs) : KnownAt mg x (.ref (cl mg x)) := ⟨_, T.g, rfl⟩
theorem TupAt.of {K : PySem.W.Frag} {mg : Str → Option Value} {h : Heap} {x : Str} {vs : List He.Dv} (X : K.In h) (G : h.Ns mainGlobals mg) (f : (He.Fa.glo x).ok K = true) (b : He.tupB K x vs = true) : TupAt K mg x (vs.map (He.Dv.v K)) :=
  ⟨by rw [cl_ga X G f]; exact He.glo_ok X G f, fun H => by rw [cl_ga X G f]; exact He.tupB_ok b H⟩
/-- self.f = v; self.g = w, of a new error -/
def spInit2 (K : PySem.W.Frag) (C : Addr) (f g : Str) : Sp := fun vs H Q _ => ∃ a v v2, vs = [.ref a, v, v2] ∧ H a = some (exo a C none) ∧ OexC K C ∧ PySem.W.findIn K (.ref C) f = some none ∧ PySem.W.findIn K (.ref C) g = some none ∧
  ∀ d, H d = none → d ≠ a → Q .non (upd (upd (upd H d (exd d [(f, v)])) a (exo a C (some d))) d (exd d [(g, v2), (f, v)]))
section
variable {P : Program} {w : World} {K : PySem.W.Frag} {mg : Str → Option Value} {base : Heap}
theorem initT_ok {qual f g p1 p2 p3 : Str} {st : Stmt} {fI : Addr} {fd : FuncData} {C : Addr} (F : Fun K "__init__" qual st fI fd) (S : FnScope [p1, p2, p3] [p1, p2, p3] (defScope st))
    (body : ∀ (cdv : Value) (A : Around) (outer : List Env) (s : Shared) (H : Hp) (E : XK), PSs (cxOf CX0 P w K mg base [p1, p2, p3] qual (defScope st) fI cdv A outer s H E).nox (defBody st)
      (fun D σ H => tOst K f (tVar 0) (tVar 1) { D with nx := fun σ1 H1 => tOst K g (tVar 0) (tVar 2) D σ1 H1 } σ H)) :
    FnOk P w K mg base CX0 1 fI fd [p1, p2, p3] (spInit2 K C f g) := by
  refine F.ok S (fun vs H Q E h => ?_) fun cdv A outer s H vs Q E hr h => ?_
  · obtain ⟨a, v, v2, rfl, _⟩ := h
    rfl
  · obtain ⟨a, v, v2, rfl, ha, T, hn, hm, q⟩ := h
    refine ⟨_, body cdv A outer s H E, v, rfl, _, rfl, a, C, rfl, T, hn, .inl ⟨ha, fun d n ne => ?_⟩⟩
    refine ⟨v2, rfl, _, rfl, a, C, rfl, T, hm, .inr ⟨d, [(f, v)], upd_same, ?_, (by show 1 ≤ 900; decide), ?_⟩⟩
    · rw [upd_ne ne]
      exact upd_same
    · exact q d n ne
end
/-- the wish of a made error: its two fields' values -/
def tErr2 (C : Addr) (f g : Str) (te te2 : TE) : L2.St → Hp → XK → Prop := fun σ H Q => te σ H fun v H1 => ∃ R : VK, te2 σ H1 R ∧ ∀ v2 H2, R v2 H2 → ∀ d, H2 d = none → Q (.ref C) (some d) (upd H2 d (.xd [(g, v2), (f, v)]))
section
variable {X : Cx} {x qual f g p1 p2 p3 : Str} {st : Stmt} {k : Nat} {e e2 : Expr} {te te2 : TE} {p pos : Pos}
theorem pmk_err2 (T : ErrAt X.K X.mg x qual st) (G : ClsAt X.K X.mg x) (hn : PySem.W.findIn X.K (.ref (cl X.mg x)) f = some none) (hn2 : PySem.W.findIn X.K (.ref (cl X.mg x)) g = some none) (hr : Room k X.A) (hk : 2 ≤ k)
    (S : FnScope [p1, p2, p3] [p1, p2, p3] (defScope st)) (hq : PosQ "__init__" qual st [p1, p2, p3])
    (body : ∀ (fI : Addr) (cdv : Value) (A : Around) (outer : List Env) (s : Shared) (H : Hp) (E : XK), PSs (cxOf CX0 X.prog X.w X.K X.mg X.base [p1, p2, p3] qual (defScope st) fI cdv A outer s H E).nox (defBody st)
      (fun D σ H => tOst X.K f (tVar 0) (tVar 1) { D with nx := fun σ1 H1 => tOst X.K g (tVar 0) (tVar 2) D σ1 H1 } σ H))
    (hg : Gl X x) (he : PE X e te) (he2 : PE X e2 te2) (n0 : (x == ("__debug__" : Str)) = false := by decide) (n1 : starEach [e, e2] X.env = (false, eval e X.env) :: starEach [e2] X.env := by rfl) (n3 : starEach [e2] X.env = (false, eval e2 X.env) :: starEach [] X.env := by rfl)
    (n2 : (backTo pos (starEach [e2] X.env)).any (·.1) = false := by rfl) :
    PMk X (.Call (.Name x p) [e, e2] [] pos) (tErr2 (cl X.mg x) f g te te2) := by
  obtain ⟨fI, fd, i1, i2, F⟩ := T.ini
  have F1 := initT_ok (P := X.prog) (w := X.w) (mg := X.mg) (base := X.base) (C := cl X.mg x) F S (body fI)
  intro pins s σ H Q I h
  refine pmk_oex T.oex i1 i2 F1 (hr.mono hk) (F.binds hq) .nil pass0 hg G.g (pa_cons (pe_mo he) (pa_cons (pe_mo he2) pa_nil n3) n1) n0 n1 n2 pins s σ H Q I ?_
  refine ⟨_, h, fun v H1 h2 => ?_⟩
  obtain ⟨R, h2, q⟩ := h2
  refine ⟨R, h2, fun v2 H2 hR => ⟨(by decide : 2 ≤ 1000), fun a ha => ⟨a, v, v2, rfl, upd_same, T.oex, hn, hn2, fun d n ne => ⟨rfl, d, [(g, v2), (f, v)], ?_, upd_same, ?_, ?_⟩⟩⟩⟩
  · rw [upd_ne (Ne.symm ne)]
    exact upd_same
  · rw [upd_ne ne] at n
    exact n
  · rw [upd_ne ne] at n
    have z : upd (del (upd (upd (upd (upd H2 a (exo a (cl X.mg x) none)) d (exd d [(f, v)])) a (exo a (cl X.mg x) (some d))) d (exd d [(g, v2), (f, v)])) a) d (.xd [(g, v2), (f, v)]) = upd H2 d (.xd [(g, v2), (f, v)]) := by
      funext b
      by_cases c : b = d
      · rw [c, upd_same, upd_same]
      · rw [upd_ne c, upd_ne c]
        by_cases c2 : b = a
        · rw [c2, del_same, ha]
        · rw [del_ne c2, upd_ne c, upd_ne c2, upd_ne c, upd_ne c2]
    rw [z]
    exact q v2 H2 hR d n
end
/-! ### methods of the module's classes -/
/-- how n positional values (the object among them) and keywords ks are put in the parameters' order by g, with the defaults -/
structure MetB (m qual : Str) (st : Stmt) (ps : List Str) (dn n : Nat) (ks : List Str) (g : {α : Type} → List α → List α → List α → List α) : Prop where
  to : ∀ (T : Addr) (kV doc pm : Value) (an : Option Addr) (cdv ct : Value) (us its ws : List Value), us.length = n → its.length = dn → ws.length = ks.length →
    ∃ k, bindArgs (PySem.W.fnOf m qual (defArgs st) (defBody st) (defScope st) (.ref T) kV doc pm an cdv ct) ⟨us, ks.zip ws⟩ = seqItems? (.ref T) >>= k ∧ k (some its.toArray) = pure (ps.zip (g us its ws))
  rel : ∀ {vs ds zs : List V} {us its ws : List Value}, Vals vs us → Vals ds its → Vals zs ws → Vals (g vs ds zs) (g us its ws)
/-- a class of the module with this method -/
structure MetAt (K : PySem.W.Frag) (mg : Str → Option Value) (x m qual : Str) (st : Stmt) (dvs : List V) : Prop where
  g : mg x = some (.ref (cl mg x))
  c : L2.Cls K (cl mg x)
  f : ∃ fd, FunD K m qual (defArgs st) (defBody st) (defScope st) dvs [] (He.ma K (cl mg x) m) fd
section
variable (P : Program) (w : World) (K : PySem.W.Frag) (mg : Str → Option Value) (base : Heap)
structure PrM (CX : CXT) (k : Nat) (x m qual : Str) (st : Stmt) (ps : List Str) (dvs : List V) (sp : Sp) : Prop where
  g : mg x = some (.ref (cl mg x))
  c : L2.Cls K (cl mg x)
  ex : ∃ fd, FunD K m qual (defArgs st) (defBody st) (defScope st) dvs [] (He.ma K (cl mg x) m) fd ∧ FnOk P w K mg base CX k (He.ma K (cl mg x) m) fd ps sp
end
section
variable {P : Program} {w : World} {K : PySem.W.Frag} {mg : Str → Option Value} {base : Heap} {k : Nat} {x m qual : Str} {st : Stmt} {ps N : List Str} {dvs : List V} {sp : Sp}
theorem MetAt.okX (D : MetAt K mg x m qual st dvs) (S : FnScope N ps (defScope st)) (len : ∀ vs H Q E, sp vs H Q E → vs.length = ps.length)
    (body : ∀ (f : Addr) (cdv : Value) (A : Around) (outer : List Env) (s : Shared) (H : Hp) (vs : List V) (Q : VK) (E : XK), Room k (A.deeper (envOfC qual (defScope st) s.heap.objs.size f cdv)) → sp vs H Q E →
      ∃ t, PSs (cxOf (L2.CX P w) P w K mg base N qual (defScope st) f cdv A outer s H E) (defBody st) t ∧ t { nx := fun _ H' => Q .non H', rt := Q } (start N vs) H) : PrM P w K mg base (L2.CX P w) (k + 1) x m qual st ps dvs sp := by
  obtain ⟨g, c, fd, F⟩ := D
  exact ⟨g, c, fd, F, F.ok S len fun cdv A outer s H vs Q E => body _ cdv A outer s H vs Q E⟩
theorem MetAt.ok (D : MetAt K mg x m qual st dvs) (S : FnScope N ps (defScope st)) (len : ∀ vs H Q E, sp vs H Q E → vs.length = ps.length)
    (body : ∀ (f : Addr) (cdv : Value) (A : Around) (outer : List Env) (s : Shared) (H : Hp) (vs : List V) (Q : VK) (E : XK), Room k (A.deeper (envOfC qual (defScope st) s.heap.objs.size f cdv)) → sp vs H Q E →
      ∃ t, PSs (cxOf CX0 P w K mg base N qual (defScope st) f cdv A outer s H E).nox (defBody st) t ∧ t { nx := fun _ H' => Q .non H', rt := Q } (start N vs) H) : PrM P w K mg base CX0 (k + 1) x m qual st ps dvs sp := by
  obtain ⟨g, c, fd, F⟩ := D
  refine ⟨g, c, fd, F, F.ok S len fun cdv A outer s H vs Q E hr z => ?_⟩
  obtain ⟨t, h, q⟩ := body _ cdv A outer s H vs Q E hr z
  exact ⟨t, h.nox, q⟩
end
/-- C(e, .., k = v, ..): a new instance and its dict, then __init__ -/
def tMkC (C : Addr) (n m : Nat) (sp : Sp) (gV : List V → List V → List V) (E : L2.St → XK) (t tk : TA) : TE := fun σ H Q => t σ H fun vs H1 => tk σ H1 fun zs H2 => vs.length = n ∧ zs.length = m ∧
  ∀ x dx, H2 x = none → H2 dx = none → dx ≠ x → sp (gV (.ref x :: vs) zs) (upd (upd H2 dx (.own x)) x (.ins C dx [])) (fun v H3 => v = .non ∧ Q (.ref x) H3) (E σ)
section
variable {X : Cx} {CX : CXT} {k n : Nat} {f C : Addr} {fd : FuncData} {ps ks : List Str} {sp : Sp} {E : L2.St → XK} {x : Str} {p pos : Pos} {e : Expr} {es : List Expr} {kws : List Keyword} {t tk : TA} {g : List Value → List Value → List Value} {gV : List V → List V → List V}
theorem run_mkC {pins : List (Addr × Obj)} {σ : L2.St} {H : Hp} {s : Shared} {Q : VK} {us ws : List Value} {vs zs : List V} (M : L2.Mk X.K C f) (F : FnOk X.prog X.w X.K X.mg X.base CX k f fd ps sp) (hr : Room (k + 1) X.A) (hb : KBn X.K fd ps (n + 1) ks g gV)
    (hx : PassesAt CX X σ (E σ)) (I : Inv X pins σ H s) (r : Vals vs us) (rz : Vals zs ws) (l1 : vs.length = n) (l2 : zs.length = ks.length)
    (h : ∀ x dx, H x = none → H dx = none → dx ≠ x → sp (gV (.ref x :: vs) zs) (upd (upd H dx (.own x)) x (.ins C dx [])) (fun v H2 => v = .non ∧ Q (.ref x) H2) (E σ)) :
    wpAny (model X.prog X.w) X.A (call (.ref C) us (ks.zip ws)) (EP X pins σ Q) X.xe s := by
  have hq := h (s.heap.objs.size + 1) s.heap.objs.size (I.hok.fresh (Nat.le_succ _)) (I.hok.fresh (Nat.le_refl _)) (Nat.ne_of_lt (Nat.lt_succ_self _))
  have I2 := Inv.made (C := C) I
  have r1 : Vals (V.ref (s.heap.objs.size + 1) :: vs) (Value.ref (s.heap.objs.size + 1) :: us) := .cons rfl r
  have r2 := hb.rel r1 rz
  have e1 : (Value.ref (s.heap.objs.size + 1) :: us).length = n + 1 := r1.length.symm.trans (congrArg Nat.succ l1)
  have e2 : ws.length = ks.length := rz.length.symm.trans l2
  refine wpAny_call (make_map (f := f) I.kIn M.makes M.init (beq_iff_eq.mp M.fn) (codeAny_mono (F.run _ X.stack _ _ ⟨Value.ref (s.heap.objs.size + 1) :: us, ks.zip ws⟩ (g (Value.ref (s.heap.objs.size + 1) :: us) ws) _ _ (E σ) (hr.make C us (ks.zip ws))
    (I2.env0.make C us (ks.zip ws)) (hb.to _ (Value.ref (s.heap.objs.size + 1) :: us) ws I2.kIn e1 e2) r2 hq) fun r s' hq' => ?_))
  cases r with
  | error e => exact hx pins _ _ e s' I2 hq'
  | ok fl =>
    cases fl with
    | ret u =>
      obtain ⟨v, H', I3, rv, ev, q3⟩ := I2.after hq'
      subst ev
      exact ⟨rv, ⟨V.ref (s.heap.objs.size + 1), H', I3, rfl, q3⟩⟩
    | next => exact False.elim hq'
    | brk => exact False.elim hq'
    | cont => exact False.elim hq'
end
section
variable {X : Cx} {CX : CXT} {j k n : Nat} {qual : Str} {st : Stmt} {ps ks : List Str} {dvs : List V} {sp : Sp} {E : L2.St → XK} {x m : Str} {p pos apos : Pos} {e o : Expr} {es : List Expr} {kws : List Keyword} {ta : TE} {t tk : TA} {g : {α : Type} → List α → List α → List α → List α}
theorem met_binds {K : PySem.W.Frag} {f : Addr} {fd : FuncData} (F : FunD K m qual (defArgs st) (defBody st) (defScope st) dvs [] f fd) (hd : dvs ≠ []) (hb : MetB m qual st ps dvs.length n ks g) :
    ∃ its : List Value, KBn K fd ps n ks (fun us ws => g us its ws) (fun vs zs => g vs dvs zs) :=
  F.kbindsD n ks g hd (fun a b c => hb.rel a b c) fun T kV doc pm an cdv ct us its ws a b c => hb.to T kV doc pm an cdv ct us its ws a b c
/-- C(e, ..) -/
theorem pe_mkP (F : PrM X.prog X.w X.K X.mg X.base CX k x "__init__" qual st ps dvs sp) (M : L2.Mk X.K (cl X.mg x) (He.ma X.K (cl X.mg x) "__init__")) (hr : Room j X.A) (hk : k + 1 ≤ j) (hg : Gl X x) (hd : dvs ≠ []) (hb : MetB "__init__" qual st ps dvs.length (n + 1) [] g)
    (hx : ∀ σ, PassesAt CX X σ (E σ)) (ha : PA X (e :: es) t)
    (n0 : (x == ("__debug__" : Str)) = false := by decide) (n1 : starEach (e :: es) X.env = (false, eval e X.env) :: starEach es X.env := by rfl) (n2 : (backTo pos (starEach es X.env)).any (·.1) = false := by rfl) :
    PE X (.Call (.Name x p) (e :: es) [] pos) (tMkC (cl X.mg x) n 0 sp (fun vs zs => g vs dvs zs) E t tNil) := by
  obtain ⟨fd, Z, F1⟩ := F.ex
  obtain ⟨its, b⟩ := met_binds Z hd hb
  refine ⟨fun pins s σ H Q I h => ?_⟩
  refine wpAny_Call_Name_kw (ld_glob I hg F.g ?_ n0)
  refine PySem.W.callWith_K (h₀ := X.base) I.ok.mod.kin M.kp (thn (ha.run pos pins s σ H _ I h) fun us s1 ⟨vs, H1, I1, r, q⟩ => ⟨I1.kIn, ?_⟩) n1 n2
  obtain ⟨l1, l2, q⟩ := q
  exact run_mkC (ws := []) (zs := []) M F1 (hr.mono hk) b (hx σ) I1 r .nil l1 rfl q
/-- C(e, .., k = v, ..) -/
theorem pe_mkPK (F : PrM X.prog X.w X.K X.mg X.base CX k x "__init__" qual st ps dvs sp) (M : L2.Mk X.K (cl X.mg x) (He.ma X.K (cl X.mg x) "__init__")) (hr : Room j X.A) (hk : k + 1 ≤ j) (hg : Gl X x) (hd : dvs ≠ []) (hb : MetB "__init__" qual st ps dvs.length (n + 1) ks g)
    (hx : ∀ σ, PassesAt CX X σ (E σ)) (ha : PA X (e :: es) t) (hkw : PK X kws tk)
    (n1 : (backToKw pos (keywordEach kws X.env)).all (·.1.isSome) = true := by rfl) (n2 : (backToKw pos (keywordEach kws X.env)).filterMap (·.1) = ks := by rfl) (n0 : (x == ("__debug__" : Str)) = false := by decide)
    (n4 : starEach (e :: es) X.env = (false, eval e X.env) :: starEach es X.env := by rfl) (n3 : ((backTo pos (starEach (e :: es) X.env)).any (·.1) || (backToKw pos (keywordEach kws X.env)).any (·.1.isNone)) = false := by rfl) :
    PE X (.Call (.Name x p) (e :: es) kws pos) (tMkC (cl X.mg x) n ks.length sp (fun vs zs => g vs dvs zs) E t tk) := by
  obtain ⟨fd, Z, F1⟩ := F.ex
  obtain ⟨its, b⟩ := met_binds Z hd hb
  refine ⟨fun pins s σ H Q I h => ?_⟩
  refine wpAny_Call_Name_kw (ld_glob I hg F.g ?_ n0)
  refine PySem.W.callWith_KW (h₀ := X.base) I.ok.mod.kin M.kp n1 (thn (ha.run pos pins s σ H _ I h) fun us s1 ⟨vs, H1, I1, r, q⟩ => ?_) n3 n4
  refine thn (hkw.run pos pins s1 σ H1 _ I1 q) fun ws s2 ⟨zs, H2, I2, rz, l1, l2, q2⟩ => ⟨I2.kIn, ?_⟩
  rw [n2]
  exact run_mkC M F1 (hr.mono hk) b (hx σ) I2 r rz l1 l2 q2
/-- C(k = v, ..) -/
theorem pe_mkK (F : PrM X.prog X.w X.K X.mg X.base CX k x "__init__" qual st ps dvs sp) (M : L2.Mk X.K (cl X.mg x) (He.ma X.K (cl X.mg x) "__init__")) (hr : Room j X.A) (hk : k + 1 ≤ j) (hg : Gl X x) (hd : dvs ≠ []) (hb : MetB "__init__" qual st ps dvs.length 1 ks g)
    (hx : ∀ σ, PassesAt CX X σ (E σ)) (hkw : PK X kws tk)
    (n1 : (backToKw pos (keywordEach kws X.env)).all (·.1.isSome) = true := by rfl) (n2 : (backToKw pos (keywordEach kws X.env)).filterMap (·.1) = ks := by rfl) (n0 : (x == ("__debug__" : Str)) = false := by decide)
    (n3 : ((backTo pos (starEach [] X.env)).any (·.1) || (backToKw pos (keywordEach kws X.env)).any (·.1.isNone)) = false := by rfl) :
    PE X (.Call (.Name x p) [] kws pos) (tMkC (cl X.mg x) 0 ks.length sp (fun vs zs => g vs dvs zs) E tNil tk) := by
  obtain ⟨fd, Z, F1⟩ := F.ex
  obtain ⟨its, b⟩ := met_binds Z hd hb
  refine ⟨fun pins s σ H Q I h => ?_⟩
  refine wpAny_Call_Name_kw (ld_glob I hg F.g ?_ n0)
  refine PySem.W.callWith_KW0 (h₀ := X.base) I.ok.mod.kin M.kp n1 ?_ n3
  refine thn (hkw.run pos pins s σ H _ I h) fun ws s2 ⟨zs, H2, I2, rz, l1, l2, q2⟩ => ⟨I2.kIn, ?_⟩
  rw [n2]
  exact run_mkC (us := []) (vs := []) M F1 (hr.mono hk) b (hx σ) I2 .nil rz rfl l2 q2
/-- o.m(), no defaults -/
theorem pe_met0 {CX : CXT} {E : XK} {pl : Sem Bool} (F : PrM X.prog X.w X.K X.mg X.base CX k x m qual st ps [] sp) (hm : L2.Meth X.K (cl X.mg x) m (He.ma X.K (cl X.mg x) m)) (hr : Room j X.A) (hk : k ≤ j)
    (hb : ∀ (kV doc pm : Value) (an : Option Addr) (cdv ct : Value) (us : List Value), us.length = ps.length → bindArgs (PySem.W.fnOf m qual (defArgs st) (defBody st) (defScope st) .none kV doc pm an cdv ct) ⟨us, []⟩ = pure (ps.zip us))
    (hx : Passes CX X E) (he : PE X o ta)
    (ht : eval (.Call (.Attribute o m apos) [] [] pos) X.env = (do
      let ov ← eval o X.env
      standAt apos.atName
      let (f, first) ← holding [ov] (getMethod ov m pl)
      callWith pos f first (backTo pos (starEach [] X.env)) (backToKw pos (keywordEach [] X.env))) := by rfl) :
    PE X (.Call (.Attribute o m apos) [] [] pos) (tMeth (cl X.mg x) m sp [] E ta tNil) := by
  obtain ⟨fd, Z, F1⟩ := F.ex
  obtain ⟨oc, od, dV, kV, doc, pm, an, cdv, ct, osl, rfl, lk, hcd, hD, hK⟩ := Z.ex
  rcases hD with ⟨_, e⟩ | ⟨e, _⟩
  · subst e
    exact pe_meth0 he F.c hm F1 (hr.mono hk) (Binds.all fun us l => hb kV doc pm an cdv ct us l) .nil hx ht
  · exact absurd rfl e
/-- e.f, a property -/
theorem pe_prp {CX : CXT} {E : XK} {f : Str} {pA gA : Addr} {fd : FuncData} (hp : L2.PropOf X.K (cl X.mg x) f pA gA) (c : L2.Cls X.K (cl X.mg x)) (F : FnOk X.prog X.w X.K X.mg X.base CX k gA fd ["self"] sp) (hb : Binds X.K fd ["self"] []) (hr : Room j X.A) (hk : k + 1 ≤ j) (hx : Passes CX X.nox E)
    (he : PE X e ta) (hab : attributeBase e f X.env (eval e X.env) = eval e X.env := by rfl) : PE X (.Attribute e f pos) (tProp (cl X.mg x) sp [] E ta) :=
  pe_prop he c hp F (hr.mono hk) hb .nil hx hab
end
theorem call_isiK {X : Cx} {K : PySem.W.Frag} (hK : X.K = K) : CallR X (.builtin "isinstance") (rIsi K) := by
  subst hK
  exact call_isi
/-- x in t, a tuple of data -/
def rInDT (K : PySem.W.Frag) : R2 := fun x y H Q => ∃ d ds, Dp K H x d ∧ Dp K H y (.tuple ds) ∧ SeqAt.shaped d = true ∧ SeqAt.shaped (.tuple ds) = true ∧ Q (.bl (ds.any fun z => PyData.eqv z d)) H
theorem op_inDT {X : Cx} {K : PySem.W.Frag} (hK : X.K = K) (hu : X.A.units + 65 < cLine) : OpR X (compareOp .In) (rInDT K) := by
  subst hK
  intro pins s σ H x y v u Q I rx ry h
  obtain ⟨d, ds, hd, he, sd, se, q⟩ := h
  obtain ⟨as, r1⟩ := Dp.reads I d x v hd rx
  obtain ⟨bs, r2⟩ := Dp.reads I (.tuple ds) y u he ry
  exact SeqAt.in_tuple_reads r2 r1 (SeqAt.canLay_of_shaped se) (SeqAt.canLay_of_shaped sd) (room_in_shaped sd hu) ⟨.bl _, H, I, rfl, q⟩
end Gx
namespace Gx
open PySem PySem.Spec PyProof.Rows L2
/-! ### len(x) of an instance whose class has its own __len__ -/
section
variable {X : Cx} {CX : CXT} {k : Nat} {C f : Addr} {fd : FuncData} {ps : List Str} {sp : Sp} {E : XK}
def rLenOwn (C : Addr) (sp : Sp) (E : XK) : List V → Hp → VK → Prop := fun xs H Q => ∃ a dx fs, xs = [.ref a] ∧ H a = some (.ins C dx fs) ∧ sp [.ref a] H (fun v H' => ∃ n : Nat, v = .int n ∧ n ≤ sizeLine ∧ Q (.int n) H') E
theorem call_lenOwn (F : FnOk X.prog X.w X.K X.mg X.base CX k f fd ps sp) (hs : PySem.W.findIn X.K (.ref C) "__len__" = some (some (.ref f))) (ht : PySem.W.typeIn X.K (.ref f) = some (.type "function")) (hb : Binds X.K fd ps []) (hr : Room (k + 1) X.A) (hx : Passes CX X.nox E) :
    CallR X (.builtin "len") (rLenOwn C sp E) := by
  intro pins s σ H xs us Q I r h
  obtain ⟨a, dx, fs, rfl, ea, q⟩ := h
  obtain ⟨u, rfl, ru⟩ := vals1 r
  obtain rfl : u = Value.ref a := ru
  obtain ⟨mA, O, _⟩ := ins_get I.hok ea
  obtain ⟨od, J, _⟩ := O.look
  have sp1 : PySem.W.Looks (model X.prog X.w) s.heap (specialOf (.ref a) "__len__") (some (.ref f)) := J.type.andThen (PySem.W.looks_findIn I.kIn hs)
  have bd := PySem.W.bind_fn (M := model X.prog X.w) I.kIn (.ref a) ht
  refine Calls.call_function_entry kind_len plain_len entry_len (args_len1 _) ?_
  unfold Builtin.«len»
  refine wpAny_bind (m := oneArg "len" _) (wpAny_pure ?_)
  have hl : ([Value.ref a] ++ ([] : List Value)).length = ps.length := by
    rw [← F.len _ _ _ _ q]
    rfl
  have main : wpAny (model X.prog X.w) X.A.in1 (callSpecial? (.ref a) (PySem.Str.ofString "__len__")) (fun v s' => ∃ (n : Nat) (t : Tok) (H' : Hp), v = some (.int n t) ∧ n ≤ sizeLine ∧ Inv X pins σ H' s' ∧ Q (.int n) H') X.xe s := by
    simp only [callSpecial?]
    refine wpAny_bind (sp1.here ?_)
    refine wpAny_holding (wpAny_bind (bd.here ?_))
    refine wpAny_bind (wpAny_mono (Q := fun v s' => ∃ (n : Nat) (t : Tok) (H' : Hp), v = .int n t ∧ n ≤ sizeLine ∧ Inv X pins σ H' s' ∧ Q (.int n) H') ?_ (fun v s' z => ?_) fun _ _ z => z)
    · refine wpAny_call (codeAny_mono (F.run X.A.in1 X.stack s H ⟨[.ref a], []⟩ [.ref a] [.ref a] _ E hr.in1 I.env0.in1 (hb s [.ref a] I.kIn hl) (.cons rfl .nil) q) fun r s' hq => ?_)
      cases r with
      | error er => exact False.elim (hx pins σ H s er s' (I.wish _) hq)
      | ok fl =>
        cases fl with
        | ret u =>
          obtain ⟨v, H', I3, rv, n, rfl, hn, q3⟩ := I.after hq
          obtain ⟨t, rfl⟩ := rv
          exact ⟨n, t, H', rfl, hn, I3, q3⟩
        | next => exact False.elim hq
        | brk => exact False.elim hq
        | cont => exact False.elim hq
    · obtain ⟨n, t, H', rfl, hn, I', q'⟩ := z
      exact wpAny_pure ⟨n, t, H', rfl, hn, I', q'⟩
  refine wpAny_bind (wpAny_mono main (fun v s' z => ?_) fun _ _ z => z)
  obtain ⟨n, t, H', rfl, hn, I', q'⟩ := z
  have hz : sizeLine = 16777216 := sizeLine_eq
  refine wpAny_bind (wpAny_holding (wpAny_pure ?_))
  refine wpAny_bind (wpAny_letGo ?_)
  show wpAny _ _ (if ((n : Nat) : Int) < 0 then _ else _) _ _ _
  rw [if_neg (by omega)]
  show wpAny _ _ (if ((n : Nat) : Int) ≥ 2 ^ 63 then _ else _) _ _ _
  rw [if_neg (by omega)]
  exact wpAny_bind (wpAny_mkInt (wpAny_pure ⟨_, rfl, ⟨.int n, H', I'.tok _, ⟨_, rfl⟩, q'⟩⟩))
end
end Gx
namespace Gx
open PySem PySem.Spec PyProof.Rows L2
/-! ### the head by one run, for programs with own classes: defs at any address, the interpreter's statics -/
def asN (g : Addr → Option Obj) (n : Nat) : List Addr := levels g n [mainGlobals] ++ [cStatics]
def obsN (n : Nat) (fa : List He.Fa) (fn : List He5.DefA) (ex : PySem.W.Frag → Bool) (g : Addr → Option Obj) : AlM := (He5.obsA fa fn (He.frG g (asN g n)), ex (He.frG g (asN g n)), sysB g)
def hookN (n : Nat) (fa : List He.Fa) (fn : List He5.DefA) (ex : PySem.W.Frag → Bool) : PySem.W.Hook where
  α := AlM
  obs := fun s => obsN n fa fn ex s.heap.get?
  val := fun _ => (He5.valA fn, true, true)
  says := fun _ h => ∃ K : PySem.W.Frag, K.In h ∧ He5.SaysA fa fn K ∧ ex K = true ∧ SysD h
  of := fun _ s e => by
    have e1 : He5.obsA fa fn (He.frG s.heap.get? (asN s.heap.get? n)) = He5.valA fn := congrArg (fun z : AlM => z.1) e
    have e2 : ex (He.frG s.heap.get? (asN s.heap.get? n)) = true := congrArg (fun z : AlM => z.2.1) e
    have e3 : sysB s.heap.get? = true := congrArg (fun z : AlM => z.2.2) e
    refine ⟨_, He.frG_in, e1, e2, ?_⟩
    unfold sysB at e3
    split at e3
    · rename_i o ho
      exact ⟨o, ho, beq_iff_eq.mp e3⟩
    · cases e3
  keeps := fun _ _ _ ⟨K, hK, c, x, o, h1, h2⟩ k => ⟨K, PySem.W.Frag.In.keeps hK k, c, x, o, k _ _ h1, h2⟩
theorem obsN_eq {n : Nat} {fa : List He.Fa} {fn : List He5.DefA} {ex : PySem.W.Frag → Bool} {g : Addr → Option Obj} {s : Shared} (h : ∀ a, g a = s.heap.get? a) : obsN n fa fn ex g = (hookN n fa fn ex).obs s := by
  have e : g = s.heap.get? := funext h
  rw [e]
  rfl
open PySem.W PySem.Calls in
/-- the run's equation from three looks at it -/
theorem run_threeN {r : PySem.W.OpenRow} {q : Program} {M n : Nat} {loose : List Str} {fa : List He.Fa} {fn : List He5.DefA} {ex : PySem.W.Frag → Bool} {w : World} {ob : PySem.W.SharedT → AlM}
    (ho : ∀ s, ob s = obsN n fa fn ex (HandSHeadRun.getT s))
    (h1 : ∀ os : OsState, (HandSHeadRun.endF (HandSHeadRun.stepQ (HandSHeadRun.denQ HandSHeadRun.tabQ) r.prog w) M r.prog w os).map (fun s => (HandSHeadRun.looksF r.prog (boot_heap w.params) s.abs, HandSHeadRun.seenQ q loose (importedModules r.prog.main.body) (fun s => PySem.W.xlAt q [] s && PySem.W.recOk r.toRowW.records s) s.abs)) = some (true, PySem.W.openGood q loose))
    (h2 : ∀ os : OsState, (HandSHeadRun.endF (HandSHeadRun.stepQ (HandSHeadRun.denQ HandSHeadRun.tabQ) r.prog w) M r.prog w os).map (fun s => He5.obsA fa fn (He.frG (HandSHeadRun.getT s) (asN (HandSHeadRun.getT s) n))) = some (He5.valA fn))
    (h3 : ∀ os : OsState, (HandSHeadRun.endF (HandSHeadRun.stepQ (HandSHeadRun.denQ HandSHeadRun.tabQ) r.prog w) M r.prog w os).map (fun s => (ex (He.frG (HandSHeadRun.getT s) (asN (HandSHeadRun.getT s) n)), sysB (HandSHeadRun.getT s))) = some (true, true)) :
    HandSHeadRun.RunEq r q (hookN n fa fn ex) ob M loose w := fun os => by
  have z := map_three (h1 os) (h2 os) (h3 os)
  rw [show ob = fun s => obsN n fa fn ex (HandSHeadRun.getT s) from funext ho]
  exact z
/-- a def of the top, with these defaults -/
def defN (x : Str) (st : Stmt) (dfl : List He.Dv) : He5.DefA := ⟨fun K => He.ga K x, x, x, defArgs st, defBody st, defScope st, dfl, []⟩
/-- a method -/
def metN (c m qual : Str) (st : Stmt) (dfl : List He.Dv) : He5.DefA := ⟨fun K => He.ma K (He.ga K c) m, m, qual, defArgs st, defBody st, defScope st, dfl, []⟩
/-- the getter of a property -/
def gtA (K : PySem.W.Frag) (c m : Str) : Addr := match PySem.W.recIn K (He.ma K (He.ga K c) m) "property" with
  | some (.ref g :: _) => g
  | _ => 0
def getN (c m qual : Str) (st : Stmt) : He5.DefA := ⟨fun K => gtA K c m, m, qual, defArgs st, defBody st, defScope st, [], []⟩
/-- a property, looked at -/
def prpB (K : PySem.W.Frag) (c m : Str) : Bool := decide (PySem.W.findIn K (.ref (He.ga K c)) m = some (some (.ref (He.ma K (He.ga K c) m)))) && (decide (PySem.W.specialIn K (.ref (He.ma K (He.ga K c) m)) "__get__" = some (some (.builtin "property.__get__"))) &&
  (decide (PySem.W.takesIn K (.ref (He.ma K (He.ga K c) m)) = some true) && (match PySem.W.recIn K (He.ma K (He.ga K c) m) "property" with
    | some (.ref _ :: _) => true
    | _ => false)))
theorem prpB_ok {K : PySem.W.Frag} {c m : Str} (h : prpB K c m = true) : L2.PropOf K (He.ga K c) m (He.ma K (He.ga K c) m) (gtA K c m) := by
  obtain ⟨h1, h⟩ := He.ba h
  obtain ⟨h2, h⟩ := He.ba h
  obtain ⟨h3, h4⟩ := He.ba h
  refine ⟨of_decide_eq_true h1, of_decide_eq_true h2, of_decide_eq_true h3, ?_⟩
  unfold gtA
  split at h4
  · rename_i g r e
    exact ⟨r, by rw [e]⟩
  · cases h4
/-- a constant of a class, looked at -/
def cvalB (K : PySem.W.Frag) (c m : Str) (i : Int) : Bool := PySem.W.readsIn K (He.ga K c) (.type "type") && (decide (PySem.W.specialIn K (.ref (He.ga K c)) "__getattribute__" = some (some (.builtin "type.__getattribute__"))) && (match PySem.W.findCls K (.ref (He.ga K c)) (.type "type") m with
  | some (.val (.int j _)) => decide (j = i)
  | _ => false))
/-- C.m is this number -/
structure CInt (K : PySem.W.Frag) (mg : Str → Option Value) (c m : Str) (i : Int) : Prop where
  g : mg c = some (.ref (cl mg c))
  r : ClX.CRead K (cl mg c) (.type "type")
  v : ∃ u, ClX.CVal K (cl mg c) (.type "type") m (.int i) u
theorem cvalB_ok {K : PySem.W.Frag} {mg : Str → Option Value} {h : Heap} {c m : Str} {i : Int} (X : K.In h) (G : h.Ns mainGlobals mg) (f : (He.Fa.glo c).ok K = true) (b : cvalB K c m i = true) : CInt K mg c m i := by
  obtain ⟨h1, b⟩ := He.ba b
  obtain ⟨h2, h3⟩ := He.ba b
  have e := cl_ga X G f
  refine ⟨by rw [e]; exact He.glo_ok X G f, by rw [e]; exact ⟨h1, of_decide_eq_true h2⟩, ?_⟩
  rw [e]
  split at h3
  · rename_i j t z
    have ej : j = i := of_decide_eq_true h3
    subst ej
    exact ⟨_, z, ⟨t, rfl⟩⟩
  · cases h3
/-- C.m, a number -/
theorem pe_cint {X : Cx} {c m : Str} {i : Int} {p pos : Pos} (T : CInt X.K X.mg c m i) (hg : Gl X c) (hd : (c == ("__debug__" : Str)) = false := by decide) (hb : attributeBase (.Name c p) m X.env (eval (.Name c p) X.env) = eval (.Name c p) X.env := by rfl) : PE X (.Attribute (.Name c p) m pos) (tC (.int i)) := by
  refine ⟨fun pins s σ H Q I h => ?_⟩
  obtain ⟨u, v⟩ := T.v
  refine (ClX.pe_cval (X := X) (f := m) (pos := pos) (pe_k hg (⟨_, T.g, rfl⟩ : KnownAt X.mg c (.ref (cl X.mg c))) hd) hb).run pins s σ H Q I ?_
  exact ⟨_, _, _, u, rfl, T.r, v, h⟩
section
variable {K : PySem.W.Frag} {h : Heap} {mg : Str → Option Value} {x m qual : Str} {st : Stmt} {dfl : List He.Dv}
theorem defAt_n (X : K.In h) (G : h.Ns mainGlobals mg) (f : (He.Fa.glo x).ok K = true) (d : ∃ fd, L2.FunD K x x (defArgs st) (defBody st) (defScope st) [] [] (He.ga K x) fd) : DefAt K mg x st :=
  let ⟨fd, F⟩ := d
  ⟨_, fd, He.glo_ok X G f, He5.fun_of F⟩
theorem metAt_n (X : K.In h) (G : h.Ns mainGlobals mg) (f : (He.Fa.glo x).ok K = true) (c : (He.Fa.cls x).ok K = true) {dvs : List V} (d : ∃ fd, L2.FunD K m qual (defArgs st) (defBody st) (defScope st) dvs [] (He.ma K (He.ga K x) m) fd) : MetAt K mg x m qual st dvs := by
  have e := cl_ga X G f
  exact ⟨by rw [e]; exact He.glo_ok X G f, by rw [e]; exact He.cls_ok c, by rw [e]; exact d⟩
end
end Gx
namespace Gx
open PySem PySem.Spec PyProof.Rows L2
/-- a class of the module with this property -/
structure GetAt (K : PySem.W.Frag) (mg : Str → Option Value) (x f qual : Str) (st : Stmt) : Prop where
  g : mg x = some (.ref (cl mg x))
  c : L2.Cls K (cl mg x)
  ex : ∃ pA gA fd, L2.PropOf K (cl mg x) f pA gA ∧ Fun K f qual st gA fd
section
variable (P : Program) (w : World) (K : PySem.W.Frag) (mg : Str → Option Value) (base : Heap)
structure PrQ (k : Nat) (x f : Str) (sp : Sp) : Prop where
  g : mg x = some (.ref (cl mg x))
  c : L2.Cls K (cl mg x)
  ex : ∃ pA gA fd, L2.PropOf K (cl mg x) f pA gA ∧ FnOk P w K mg base CX0 k gA fd ["self"] sp ∧ Binds K fd ["self"] []
end
section
variable {P : Program} {w : World} {K : PySem.W.Frag} {mg : Str → Option Value} {base : Heap} {h : Heap} {k : Nat} {x f qual : Str} {st : Stmt} {N : List Str} {sp : Sp}
theorem getAt_n (X : K.In h) (G : h.Ns mainGlobals mg) (fa : (He.Fa.glo x).ok K = true) (c : (He.Fa.cls x).ok K = true) (p : prpB K x f = true) (d : ∃ fd, L2.FunD K f qual (defArgs st) (defBody st) (defScope st) [] [] (gtA K x f) fd) : GetAt K mg x f qual st := by
  have e := cl_ga X G fa
  obtain ⟨fd, F⟩ := d
  exact ⟨by rw [e]; exact He.glo_ok X G fa, by rw [e]; exact He.cls_ok c, by rw [e]; exact ⟨_, _, fd, prpB_ok p, He5.fun_of F⟩⟩
theorem GetAt.ok (D : GetAt K mg x f qual st) (S : FnScope N ["self"] (defScope st)) (hq : PosQ f qual st ["self"]) (len : ∀ vs H Q E, sp vs H Q E → vs.length = 1)
    (body : ∀ (f : Addr) (cdv : Value) (A : Around) (outer : List Env) (s : Shared) (H : Hp) (vs : List V) (Q : VK) (E : XK), Room k (A.deeper (envOfC qual (defScope st) s.heap.objs.size f cdv)) → sp vs H Q E →
      ∃ t, PSs (cxOf CX0 P w K mg base N qual (defScope st) f cdv A outer s H E).nox (defBody st) t ∧ t { nx := fun _ H' => Q .non H', rt := Q } (start N vs) H) : PrQ P w K mg base (k + 1) x f sp := by
  obtain ⟨g, c, pA, gA, fd, p, F⟩ := D
  exact ⟨g, c, pA, gA, fd, p, F.ok S len fun cdv A outer s H vs Q E hr z => body _ cdv A outer s H vs Q E hr z, F.binds hq⟩
end
section
variable {X : Cx} {j k : Nat} {qual : Str} {st : Stmt} {ps : List Str} {sp : Sp} {x f : Str} {pos : Pos} {e : Expr} {ta : TE}
theorem pe_prq (F : PrQ X.prog X.w X.K X.mg X.base k x f sp) (hr : Room j X.A) (hk : k + 1 ≤ j) (he : PE X e ta) (hab : attributeBase e f X.env (eval e X.env) = eval e X.env := by rfl) : PE X (.Attribute e f pos) (tProp (cl X.mg x) sp [] E0 ta) := by
  obtain ⟨pA, gA, fd, p, F1, b⟩ := F.ex
  exact pe_prop he F.c p F1 (hr.mono hk) b .nil pass0 hab
theorem call_lenM (F : PrM X.prog X.w X.K X.mg X.base CX0 k x "__len__" qual st ps [] sp) (hm : L2.Meth X.K (cl X.mg x) "__len__" (He.ma X.K (cl X.mg x) "__len__"))
    (hb : ∀ (kV doc pm : Value) (an : Option Addr) (cdv ct : Value) (us : List Value), us.length = ps.length → bindArgs (PySem.W.fnOf "__len__" qual (defArgs st) (defBody st) (defScope st) .none kV doc pm an cdv ct) ⟨us, []⟩ = pure (ps.zip us))
    (hr : Room j X.A) (hk : k + 1 ≤ j) : CallR X (.builtin "len") (rLenOwn (cl X.mg x) sp E0) := by
  obtain ⟨fd, Z, F1⟩ := F.ex
  obtain ⟨oc, od, dV, kV, doc, pm, an, cdv, ct, osl, rfl, lk, hcd, hD, hK⟩ := Z.ex
  rcases hD with ⟨_, e⟩ | ⟨e, _⟩
  · subst e
    exact call_lenOwn F1 hm.at_ (beq_iff_eq.mp hm.fn) (Binds.all fun us l => hb kV doc pm an cdv ct us l) (hr.mono hk) pass0
  · exact absurd rfl e
end
end Gx
namespace Gx
open PySem PySem.Spec PyProof.Rows L2
/-! ### calls of own classes, where the context is bound by a try -/
section
variable {X : Cx} {CX : CXT} {k j n : Nat} {st : Stmt} {mg : Str → Option Value} {ps ks : List Str} {sp : Sp} {E : L2.St → XK} {x m qual f : Str} {p pos apos : Pos} {e o : Expr} {es : List Expr} {kws : List Keyword} {dvs : List V} {t tk : TA} {ta : TE} {g : {α : Type} → List α → List α → List α → List α}
theorem pe_mkPt (hm : X.mg = mg) (F : PrM X.prog X.w X.K mg X.base CX k x "__init__" qual st ps dvs sp) (M : L2.Mk X.K (cl mg x) (He.ma X.K (cl mg x) "__init__")) (hr : Room j X.A) (hk : k + 1 ≤ j) (hg : Gl X x) (hd : dvs ≠ []) (hb : MetB "__init__" qual st ps dvs.length (n + 1) [] g)
    (hx : ∀ σ, PassesAt CX X σ (E σ)) (ha : PA X (e :: es) t)
    (n0 : (x == ("__debug__" : Str)) = false := by decide) (n1 : starEach (e :: es) X.env = (false, eval e X.env) :: starEach es X.env := by rfl) (n2 : (backTo pos (starEach es X.env)).any (·.1) = false := by rfl) :
    PE X (.Call (.Name x p) (e :: es) [] pos) (tMkC (cl mg x) n 0 sp (fun vs zs => g vs dvs zs) E t tNil) := by
  subst hm
  exact pe_mkP F M hr hk hg hd hb hx ha n0 n1 n2
theorem pe_mkPKt (hm : X.mg = mg) (F : PrM X.prog X.w X.K mg X.base CX k x "__init__" qual st ps dvs sp) (M : L2.Mk X.K (cl mg x) (He.ma X.K (cl mg x) "__init__")) (hr : Room j X.A) (hk : k + 1 ≤ j) (hg : Gl X x) (hd : dvs ≠ []) (hb : MetB "__init__" qual st ps dvs.length (n + 1) ks g)
    (hx : ∀ σ, PassesAt CX X σ (E σ)) (ha : PA X (e :: es) t) (hkw : PK X kws tk)
    (n1 : (backToKw pos (keywordEach kws X.env)).all (·.1.isSome) = true := by rfl) (n2 : (backToKw pos (keywordEach kws X.env)).filterMap (·.1) = ks := by rfl) (n0 : (x == ("__debug__" : Str)) = false := by decide)
    (n4 : starEach (e :: es) X.env = (false, eval e X.env) :: starEach es X.env := by rfl) (n3 : ((backTo pos (starEach (e :: es) X.env)).any (·.1) || (backToKw pos (keywordEach kws X.env)).any (·.1.isNone)) = false := by rfl) :
    PE X (.Call (.Name x p) (e :: es) kws pos) (tMkC (cl mg x) n ks.length sp (fun vs zs => g vs dvs zs) E t tk) := by
  subst hm
  exact pe_mkPK F M hr hk hg hd hb hx ha hkw n1 n2 n0 n4 n3
theorem pe_mkKt (hm : X.mg = mg) (F : PrM X.prog X.w X.K mg X.base CX k x "__init__" qual st ps dvs sp) (M : L2.Mk X.K (cl mg x) (He.ma X.K (cl mg x) "__init__")) (hr : Room j X.A) (hk : k + 1 ≤ j) (hg : Gl X x) (hd : dvs ≠ []) (hb : MetB "__init__" qual st ps dvs.length 1 ks g)
    (hx : ∀ σ, PassesAt CX X σ (E σ)) (hkw : PK X kws tk)
    (n1 : (backToKw pos (keywordEach kws X.env)).all (·.1.isSome) = true := by rfl) (n2 : (backToKw pos (keywordEach kws X.env)).filterMap (·.1) = ks := by rfl) (n0 : (x == ("__debug__" : Str)) = false := by decide)
    (n3 : ((backTo pos (starEach [] X.env)).any (·.1) || (backToKw pos (keywordEach kws X.env)).any (·.1.isNone)) = false := by rfl) :
    PE X (.Call (.Name x p) [] kws pos) (tMkC (cl mg x) 0 ks.length sp (fun vs zs => g vs dvs zs) E tNil tk) := by
  subst hm
  exact pe_mkK F M hr hk hg hd hb hx hkw n1 n2 n0 n3
theorem pe_met0t {E : XK} {pl : Sem Bool} (hm0 : X.mg = mg) (F : PrM X.prog X.w X.K mg X.base CX k x m qual st ps [] sp) (hm : L2.Meth X.K (cl mg x) m (He.ma X.K (cl mg x) m)) (hr : Room j X.A) (hk : k ≤ j)
    (hb : ∀ (kV doc pm : Value) (an : Option Addr) (cdv ct : Value) (us : List Value), us.length = ps.length → bindArgs (PySem.W.fnOf m qual (defArgs st) (defBody st) (defScope st) .none kV doc pm an cdv ct) ⟨us, []⟩ = pure (ps.zip us))
    (hx : Passes CX X E) (he : PE X o ta)
    (ht : eval (.Call (.Attribute o m apos) [] [] pos) X.env = (do
      let ov ← eval o X.env
      standAt apos.atName
      let (f, first) ← holding [ov] (getMethod ov m pl)
      callWith pos f first (backTo pos (starEach [] X.env)) (backToKw pos (keywordEach [] X.env))) := by rfl) :
    PE X (.Call (.Attribute o m apos) [] [] pos) (tMeth (cl mg x) m sp [] E ta tNil) := by
  subst hm0
  exact pe_met0 F hm hr hk hb hx he ht
theorem pe_prqt (hm : X.mg = mg) (F : PrQ X.prog X.w X.K mg X.base k x f sp) (hr : Room j X.A) (hk : k + 1 ≤ j) (he : PE X e ta) (hab : attributeBase e f X.env (eval e X.env) = eval e X.env := by rfl) : PE X (.Attribute e f pos) (tProp (cl mg x) sp [] E0 ta) := by
  subst hm
  exact pe_prq F hr hk he hab
theorem call_lenMt (hm0 : X.mg = mg) (F : PrM X.prog X.w X.K mg X.base CX0 k x "__len__" qual st ps [] sp) (hm : L2.Meth X.K (cl mg x) "__len__" (He.ma X.K (cl mg x) "__len__"))
    (hb : ∀ (kV doc pm : Value) (an : Option Addr) (cdv ct : Value) (us : List Value), us.length = ps.length → bindArgs (PySem.W.fnOf "__len__" qual (defArgs st) (defBody st) (defScope st) .none kV doc pm an cdv ct) ⟨us, []⟩ = pure (ps.zip us))
    (hr : Room j X.A) (hk : k + 1 ≤ j) : CallR X (.builtin "len") (rLenOwn (cl mg x) sp E0) := by
  subst hm0
  exact call_lenM F hm hb hr hk
theorem call_isPt {K : PySem.W.Frag} {a : Addr} {oe : Obj} {cls : Value} {d : Option Addr} (hK : X.K = K) (hm : X.mg = mg) (hp : (a, oe) ∈ X.pn) (hz : Zc cls d oe) (hf : ∃ vs, oe.data = .fields vs) : CallR X (.builtin "isinstance") (rIsP K mg a cls d) := by
  subst hK hm
  exact call_isP hp hz hf
end
end Gx
namespace Gx
open PySem PySem.Spec PyProof.Rows L2
/-! ### error classes in the head, by looks -/
def clsB (K : PySem.W.Frag) (C : Addr) : Bool := decide (PySem.W.typeIn K (.ref C) = some (.type "type")) && (PySem.W.isClsIn K C && (decide (PySem.W.subIn K (.ref C) (.type "BaseException") = some true) && decide (PySem.W.subIn K (.ref C) (.ref C) = some true)))
def subB (K : PySem.W.Frag) (C D : Addr) (b : Bool) : Bool := decide (PySem.W.subIn K (.ref C) (.ref D) = some b)
section
variable {K : PySem.W.Frag} {h : Heap} {mg : Str → Option Value} {x y qual : Str} {st : Stmt} {b : Bool} {fs : List Str}
theorem clsAt_b (X : K.In h) (G : h.Ns mainGlobals mg) (f : (He.Fa.glo x).ok K = true) (q : clsB K (He.ga K x) = true) : ClsAt K mg x := by
  obtain ⟨h1, q⟩ := He.ba q
  obtain ⟨h2, q⟩ := He.ba q
  obtain ⟨h3, h4⟩ := He.ba q
  exact .of (He.glo_ok X G f) (of_decide_eq_true h1) h2 (of_decide_eq_true h3) (of_decide_eq_true h4)
theorem subAt_b (X : K.In h) (G : h.Ns mainGlobals mg) (f : (He.Fa.glo x).ok K = true) (g : (He.Fa.glo y).ok K = true) (q : subB K (He.ga K x) (He.ga K y) b = true) : SubAt K mg x y b := .of (He.glo_ok X G f) (He.glo_ok X G g) (of_decide_eq_true q)
theorem refs_of {l : List Value} (h : PySem.W.excTail tlV l = true) : PySem.HandSPX.refsVE l = true := by
  induction l with
  | nil => exact absurd h (by decide +kernel)
  | cons a r ih =>
    rcases PySem.W.excTail_cases (a :: r) h with ⟨c, r', q, h'⟩ | q
    · obtain ⟨rfl, rfl⟩ := List.cons.inj q
      exact ih h'
    · rw [q]
      decide +kernel
theorem errAt_q (X : K.In h) (G : h.Ns mainGlobals mg) (f : (He.Fa.glo x).ok K = true) (E : ETail tlV fs) (q : ecQ K fs (He.ga K x) tlV "ValueError.__new__" = true) (i : (He.Fa.meth x "__init__").ok K = true)
    (d : ∃ fd, L2.FunD K "__init__" qual (defArgs st) (defBody st) (defScope st) [] [] (He.ma K (He.ga K x) "__init__") fd) : ErrAt K mg x qual st := by
  obtain ⟨fd, F⟩ := d
  obtain ⟨e, _⟩ := ecQ_of E q
  have hd := e.hd
  have q := e.i
  unfold PySem.W.excInitIn at q
  split at q
  · rename_i dd cd sl ho
    split at q
    · rename_i C' bm k0 k1 k2 k3 n k5 hm hs
      simp only [Bool.and_eq_true, beq_iff_eq, Bool.not_eq_true'] at q
      obtain ⟨⟨⟨ec, en⟩, hdel⟩, ht⟩ := q
      obtain ⟨nm, bs, mro, ns, qn, hdd, sn, sub, ab, col, del⟩ := cd
      dsimp only at hm hdel
      subst hm hdel
      have hsl : sl = #[k0, k1, k2, k3, some (.builtin n), k5] := by
        obtain ⟨l⟩ := sl
        simp only at hs
        rw [hs]
      subst hsl
      have hd' : hdd = true := by
        have hc : PySem.W.clsIn K (He.ga K x) = some { name := nm, bases := bs, mro := Value.ref C' :: bm, ns := ns, qualname := qn, hasDict := hdd, slotNames := sn, subclasses := sub, abstract := ab, collection := col } := by
          unfold PySem.W.clsIn
          rw [show K.lookup (He.ga K x) = _ from ho]
        unfold PySem.W.hasDictIn at hd
        rw [hc] at hd
        exact hd
      subst hd'
      subst en
      rw [ec] at ho
      refine .of (He.glo_ok X G f) ho (refs_of ht) e.sa e.ex e.ty e.kC e.ga e.gg e.gc e.gn e.gt e.mo e.hd (He.eqO_ok (He.ba i).1) (beq_iff_eq.mp (He.ba (He.ba i).2).1) (He5.fun_of F)
    · cases q
  · cases q
end
end Gx
namespace Gx
open PySem PySem.Spec PyProof.Rows L2
/-! ### == and != of an instance whose class has its own __eq__ -/
/-- the type of a value, instances too -/
inductive TyY (K : PySem.W.Frag) (H : Hp) : V → Value → Prop
  | x {v : V} {t : Value} (h : TyX K H v t) : TyY K H v t
  | ins {a C dx : Addr} {fs : List (Str × V)} (h : H a = some (.ins C dx fs)) : TyY K H (.ref a) (.ref C)
section
variable {X : Cx} {pins : List (Addr × Obj)} {σ : L2.St} {H : Hp} {s : Shared}
theorem TyY.looks {v : V} {t u : Value} (I : Inv X pins σ H s) (h : TyY X.K H v t) (r : RelV v u) : PySem.W.Looks (model X.prog X.w) s.heap (typeOf u) t := by
  cases h with
  | x h =>
    obtain ⟨P, Z, p, _⟩ := kit_of I r h
    exact Z.ty _ _ I.kIn p
  | ins h =>
    cases r
    obtain ⟨mA, O, _⟩ := ins_get I.hok h
    obtain ⟨od, J, _⟩ := O.look
    exact J.type
end
/-- what a class with its own __eq__ has -/
structure OwnE (K : PySem.W.Frag) (C f : Addr) : Prop where
  eq : PySem.W.findIn K (.ref C) "__eq__" = some (some (.ref f))
  fn : PySem.W.isFn K (.ref f) = true
  ne : PySem.W.findIn K (.ref C) "__ne__" = some (some (.builtin "object.__ne__"))
  mo : PySem.W.mroIn K C (.type "object") = some true
def rEqOwn (C : Addr) (K : PySem.W.Frag) (sp : Sp) (E : XK) (neg : Bool) : R2 := fun x y H Q => ∃ a dx fs tb, x = .ref a ∧ H a = some (.ins C dx fs) ∧ TyY K H y tb ∧ PySem.W.notFirst K C tb = true ∧ sp [.ref a, y] H (fun v H' => ∃ b, v = .bl b ∧ Q (.bl (b != neg)) H') E
section
variable {X : Cx} {CX : CXT} {k : Nat} {C f : Addr} {fd : FuncData} {ps : List Str} {sp : Sp} {E : XK}
theorem op_eqOwn (F : FnOk X.prog X.w X.K X.mg X.base CX k f fd ps sp) (O : OwnE X.K C f) (hb : Binds X.K fd ps []) (hr : Room k X.A) (hx : Passes CX X E) : OpR X (compareOp .Eq) (rEqOwn C X.K sp E false) := by
  intro pins s σ H x y v u Q I rx ry hq
  obtain ⟨a, dx, fs, tb, rfl, ha, ty, nf, hsp⟩ := hq
  cases rx
  obtain ⟨mA, J, _⟩ := ins_get I.hok ha
  obtain ⟨od, J, _⟩ := J.look
  obtain ⟨m, hF⟩ := I.fr
  show wpAny (model X.prog X.w) X.A (richCompare .Eq (.ref a) u) (EP X pins σ Q) X.xe s
  refine PySem.W.cmp_K (op := .Eq) (tb := tb) hr.units0 hF I.ok.mod.kin J (ty.looks I ry) nf O.eq O.fn ?_
  have hl := F.len _ _ _ _ hsp
  have r2 : Vals [V.ref a, y] [Value.ref a, u] := .cons rfl (.cons ry .nil)
  refine wpAny_call (codeAny_mono (F.run X.A X.stack s H ⟨[.ref a, u], []⟩ [.ref a, u] [.ref a, y] _ E hr I.env0 (by
    have := hb s [.ref a, u] I.kIn (by simpa using hl)
    simpa using this) r2 hsp) fun r s' hq => ?_)
  cases r with
  | error e => exact hx pins σ H s e s' I hq
  | ok fl =>
    cases fl with
    | ret w =>
      obtain ⟨z, H', I', rz, b, ez, q⟩ := I.after hq
      subst ez
      cases rz
      exact ⟨.bl b, H', I', rfl, by simpa using q⟩
    | next => exact False.elim hq
    | brk => exact False.elim hq
    | cont => exact False.elim hq
open Builtin in
theorem objNe_own {A : Around} {s : Shared} {x C f : Addr} {b : Value} {ox : Obj} {od : Option Obj} {K : PySem.W.Frag} {prog : Program} {w : World} {E : Value → Shared → Prop} (XK : K.In s.heap) (I : PySem.W.InstAt s.heap x ox C od) (O : OwnE K C f) (hu : A.units < cLine) {Q : Fin → Shared → Prop}
    (hcall : wpAny (model prog w) A (call (.ref f) [.ref x, b]) (fun v s' => ∃ b, v = .bool b ∧ Q (.done (.ret (.bool (!b)))) s') E s) :
    wpAny (model prog w) A (Builtin.«object.__ne__» ⟨[.ref x, b], []⟩) Q E s := by
  obtain ⟨hp, g, d, t, os⟩ := s
  unfold Builtin.«object.__ne__»
  repeat (first
    | with_reducible refine wpAny_cRoomFor hu ?_
    | (refine wpAny_bind (m := callSpecialIfBound? (.ref x) (Str.ofString "__eq__") [b])
        (PySem.W.ifBound_K XK I O.eq O.fn (wpAny_mono hcall (fun r s' hr => by
          obtain ⟨b, rfl, hq⟩ := hr
          repeat (first | exact hq | exact wpAny_pure hq | exact wpAny_truthy_bool hq | (refine wpAny_bind (m := truthy (.bool _)) (wpAny_truthy_bool ?_)) | wp_step)) fun _ _ e => e)))
    | wp_step)
theorem ifBound_B {M : Model} {A : Around} {E : Value → Shared → Prop} {s : Shared} {K : PySem.W.Frag} {x C : Addr} {ox : Obj} {od : Option Obj} {name : Str} {id : String} {args : List Value} {Q : Option Value → Shared → Prop} (XK : K.In s.heap) (I : PySem.W.InstAt s.heap x ox C od)
    (hs : PySem.W.findIn K (.ref C) name = some (some (.builtin id))) (hb : ∀ self, bindSpecial (.builtin id) self = pure (.builtin id, [self]))
    (h : wpAny M A (call (.builtin id) (.ref x :: args)) (fun v => Q (some v)) E s) : wpAny M A (callSpecialIfBound? (.ref x) name args) Q E s := by
  simp only [callSpecialIfBound?, bindSpecialIfBound?]
  refine wpAny_holding (wpAny_bind (wpAny_bind (wpAny_bind (I.type.here ((PySem.W.looks_findIn XK hs).here ?_)))))
  refine wpAny_bind (wpAny_askSetting (wpAny_ite ?_))
  have fin : wpAny M A (call (.builtin id) ([.ref x] ++ args) >>= fun v => pure (some v)) Q E s := wpAny_bind (wpAny_mono h (fun v s' h' => wpAny_pure h') fun _ _ h' => h')
  split
  · exact wpAny_bind ((PySem.W.Looks.of_pure (hb _)).here (wpAny_pure (by exact fin)))
  · exact wpAny_tryCatch (wpAny_bind ((PySem.W.Looks.of_pure (hb _)).here (wpAny_pure (by exact fin))))
theorem op_neOwn (F : FnOk X.prog X.w X.K X.mg X.base CX k f fd ps sp) (O : OwnE X.K C f) (hb : Binds X.K fd ps []) (hr : Room (k + 1) X.A) (hx : Passes CX X.nox E) : OpR X (compareOp .NotEq) (rEqOwn C X.K sp E true) := by
  intro pins s σ H x y v u Q I rx ry hq
  obtain ⟨a, dx, fs, tb, rfl, ha, ty, nf, hsp⟩ := hq
  cases rx
  obtain ⟨mA, J, _⟩ := ins_get I.hok ha
  obtain ⟨od, J, _⟩ := J.look
  show wpAny (model X.prog X.w) X.A (richCompare .NotEq (.ref a) u) (EP X pins σ Q) X.xe s
  have XK := I.kIn
  have FB := PySem.F.cmp_object
  have hu := hr.in1.units0
  have hi : PySem.W.Looks (model X.prog X.w) s.heap (isInstance (.ref a) (.type "object")) true := J.type.andThen (PySem.W.looks_mroIn XK O.mo)
  have hl := F.len _ _ _ _ hsp
  have r2 : Vals [V.ref a, y] [Value.ref a, u] := .cons rfl (.cons ry .nil)
  have main : wpAny (model X.prog X.w) X.A.in1 (call (.ref f) [.ref a, u]) (fun v s' => ∃ b, v = .bool b ∧ (EP X pins σ Q) (.bool (!b)) s') X.xe s := by
    refine wpAny_call (codeAny_mono (F.run X.A.in1 X.stack s H ⟨[.ref a, u], []⟩ [.ref a, u] [.ref a, y] _ E hr.in1 I.env0.in1 (by
      have := hb s [.ref a, u] I.kIn (by simpa using hl)
      simpa using this) r2 hsp) fun r s' hq => ?_)
    cases r with
    | error e => exact (hx pins σ H s e s' (I.wish _) hq).elim
    | ok fl =>
      cases fl with
      | ret w =>
        obtain ⟨z, H', I', rz, b, ez, q⟩ := I.after hq
        subst ez
        cases rz
        exact ⟨b, rfl, .bl (!b), H', I', rfl, by simpa using q⟩
      | next => exact False.elim hq
      | brk => exact False.elim hq
      | cont => exact False.elim hq
  have one : wpAny (model X.prog X.w) X.A (tryCompare (.ref a) "__ne__" u) (fun r s' => ∃ v, r = some v ∧ (EP X pins σ Q) v s') X.xe s := by
    simp only [tryCompare]
    refine wpAny_bind (ifBound_B XK J O.ne FB.ne.bind (wpAny_call (codeAny_call_builtin FB.ne.plain PySem.F.cmpEntry_ne (PySem.W.check_slot PySem.F.cmpKind_ne PySem.F.cmpSplit_ne hi (PySem.F.cmpArgs_ne _ _) (objNe_own XK J O hu (wpAny_mono main (fun v s' hv => ?_) fun _ _ e => e))))))
    obtain ⟨b, rfl, hq⟩ := hv
    exact ⟨b, rfl, wpAny_pure ⟨_, rfl, hq⟩⟩
  unfold richCompare
  simp only [oneThing_ref]
  refine wpAny_holding (wpAny_bind (wpAny_cRoomFor hr.units0 ?_))
  refine wpAny_bind (J.type.here (wpAny_bind ((ty.looks I ry).here ?_)))
  split
  · rename_i q
    have e : PySem.W.subIn X.K tb (.ref C) = some false := by
      rcases Bool.or_eq_true_iff.mp nf with e | e
      · rw [beq_iff_eq.mp e] at q
        simp at q
      · exact beq_iff_eq.mp e
    refine wpAny_bind ((PySem.W.looks_subIn XK e).here ?_)
    simp only [Bool.false_eq_true, if_false]
    refine wpAny_bind (wpAny_mono one (fun r s' z => ?_) fun _ _ e => e)
    obtain ⟨v, rfl, hq⟩ := z
    exact wpAny_pure hq
  · refine wpAny_bind (wpAny_pure ?_)
    simp only [Bool.false_eq_true, if_false]
    refine wpAny_bind (wpAny_mono one (fun r s' z => ?_) fun _ _ e => e)
    obtain ⟨v, rfl, hq⟩ := z
    exact wpAny_pure hq
end
/-! ### str and repr of an instance with its own -/
def rTxtOwn (C : Addr) (sp : Sp) (E : XK) : List V → Hp → VK → Prop := fun xs H Q => ∃ a dx fs, xs = [.ref a] ∧ H a = some (.ins C dx fs) ∧ sp [.ref a] H (fun v H' => ∃ z : Str, v = .str z ∧ Q (.str z) H') E
section
variable {X : Cx} {CX : CXT} {k : Nat} {C f : Addr} {fd : FuncData} {ps : List Str} {sp : Sp} {E : XK}
theorem run_txt (F : FnOk X.prog X.w X.K X.mg X.base CX k f fd ps sp) (hb : Binds X.K fd ps []) {A : Around} (hr : Room k A) {pins : List (Addr × Obj)} {σ : L2.St} {H : Hp} {s : Shared} {Q : VK} {a : Addr} (I : Inv X pins σ H s) (e0 : Env0 X.prog X.w X.K X.mg X.base A X.stack s H) (hx : ∀ e s', CX X.stack H s E e s' → False)
    (q : sp [.ref a] H (fun v H' => ∃ z : Str, v = .str z ∧ Q (.str z) H') E) : wpAny (model X.prog X.w) A (call (.ref f) [.ref a]) (fun r s' => ∃ z t, r = .str z t ∧ EP X pins σ Q (.str z t) s') X.xe s := by
  have hl : ([Value.ref a] ++ ([] : List Value)).length = ps.length := by
    rw [← F.len _ _ _ _ q]
    rfl
  refine wpAny_call (codeAny_mono (F.run A X.stack s H ⟨[.ref a], []⟩ [.ref a] [.ref a] _ E hr e0 (hb s [.ref a] I.kIn hl) (.cons rfl .nil) q) fun r s' hq => ?_)
  cases r with
  | error er => exact False.elim (hx er s' hq)
  | ok fl =>
    cases fl with
    | ret u =>
      obtain ⟨v, H', I3, rv, z, rfl, q3⟩ := I.after hq
      obtain ⟨t, rfl⟩ := rv
      exact ⟨z, t, rfl, .str z, H', I3, ⟨t, rfl⟩, q3⟩
    | next => exact False.elim hq
    | brk => exact False.elim hq
    | cont => exact False.elim hq
theorem call_strOwn (F : FnOk X.prog X.w X.K X.mg X.base CX k f fd ps sp) (hs : PySem.W.findIn X.K (.ref C) "__str__" = some (some (.ref f))) (ht : PySem.W.isFn X.K (.ref f) = true) (hb : Binds X.K fd ps []) (hr : Room (k + 2) X.A) (hx : Passes CX X.nox E) :
    CallR X (.type "str") (rTxtOwn C sp E) := by
  intro pins s σ H xs us Q I r h
  obtain ⟨a, dx, fs, rfl, ea, q⟩ := h
  obtain ⟨u, rfl, ru⟩ := vals1 r
  obtain rfl : u = Value.ref a := ru
  obtain ⟨mA, O, _⟩ := ins_get I.hok ea
  obtain ⟨od, J, _⟩ := O.look
  refine PySem.W.kso_call hr.in1.in1.units0 I.kIn J hs ht ?_
  refine wpAny_mono (run_txt F hb hr.in1.in1 I I.env0.in1.in1 (fun e s' hq => hx pins σ H s e s' (I.wish _) hq) q) (fun r s' z => ?_) fun _ _ y => y
  obtain ⟨z, t, rfl, q⟩ := z
  exact q
theorem call_reprOwn (F : FnOk X.prog X.w X.K X.mg X.base CX k f fd ps sp) (hs : PySem.W.findIn X.K (.ref C) "__repr__" = some (some (.ref f))) (ht : PySem.W.isFn X.K (.ref f) = true) (hb : Binds X.K fd ps []) (hr : Room (k + 1) X.A) (hx : Passes CX X.nox E) :
    CallR X (.builtin "repr") (rTxtOwn C sp E) := by
  intro pins s σ H xs us Q I r h
  obtain ⟨a, dx, fs, rfl, ea, q⟩ := h
  obtain ⟨u, rfl, ru⟩ := vals1 r
  obtain rfl : u = Value.ref a := ru
  obtain ⟨mA, O, _⟩ := ins_get I.hok ea
  obtain ⟨od, J, _⟩ := O.look
  have XK := I.kIn
  have main := run_txt F hb hr.in1 I I.env0.in1 (fun e s' hq => hx pins σ H s e s' (I.wish _) hq) q
  refine Calls.call_function_entry PySem.F.kind_repr PySem.F.plain_repr PySem.F.entry_repr (PySem.F.args_repr1 _) ?_
  unfold Builtin.«repr»
  refine wpAny_bind (m := oneArg "repr" _) (wpAny_pure ?_)
  refine wpAny_bind (wpAny_cRoomFor hr.in1.units0 ?_)
  have sp1 : PySem.W.Looks (model X.prog X.w) s.heap (specialOf (.ref a) "__repr__") (some (.ref f)) := J.type.andThen (PySem.W.looks_findIn XK hs)
  refine wpAny_bind (sp1.here ?_)
  show wpAny _ _ (if (some (Value.ref f)).isNone = true then _ else _) _ _ _
  rw [if_neg (by simp)]
  refine wpAny_bind (m := callSpecialIfBound? (.ref a) (Str.ofString "__repr__") _) (PySem.W.ifBound_K XK J hs ht (wpAny_mono main (fun r s' hr => ?_) fun _ _ y => y))
  obtain ⟨m, tk, rfl, hq⟩ := hr
  refine wpAny_bind (wpAny_isInstance (typeIs_str _ _ _) isSubtype_str_str ?_)
  first
    | exact wpAny_pure ⟨_, rfl, hq⟩
    | (rw [if_pos rfl]; exact wpAny_pure ⟨_, rfl, hq⟩)
    | (simp only [if_true]; exact wpAny_pure ⟨_, rfl, hq⟩)
end
end Gx
namespace Gx
open PySem PySem.Spec PyProof.Rows L2
/-! ### methods with a star parameter -/
/-- the promise of def m(self, *v), told of the object and the arguments -/
def StarSp (sp : Sp) : Sp := fun vs H Q E => ∃ x rest, vs = x :: rest ∧ rest.length ≤ sizeLine ∧ ∀ p, H p = none → sp [x, .ref p] (upd H p (.tup rest)) Q E
structure PrS (P : Program) (w : World) (K : PySem.W.Frag) (mg : Str → Option Value) (base : Heap) (CX : CXT) (k : Nat) (x m : Str) (sp : Sp) : Prop where
  g : mg x = some (.ref (cl mg x))
  c : L2.Cls K (cl mg x)
  ex : FnR P w K mg base CX k (He.ma K (cl mg x) m) (StarSp sp)
section
variable {P : Program} {w : World} {K : PySem.W.Frag} {mg : Str → Option Value} {base : Heap} {k : Nat} {x m qual p1 pv : Str} {st : Stmt} {N : List Str} {sp : Sp}
theorem MetAt.okS (D : MetAt K mg x m qual st []) (S : FnScope N [p1, pv] (defScope st))
    (h0 : ∀ (kV doc pm : Value) (an : Option Addr) (cdv ct a : Value), bindArgs (PySem.W.fnOf m qual (defArgs st) (defBody st) (defScope st) .none kV doc pm an cdv ct) ⟨[a], []⟩ = (newTuple [] >>= fun t => pure [(p1, a), (pv, t)]))
    (h1 : ∀ (kV doc pm : Value) (an : Option Addr) (cdv ct a r : Value) (rs : List Value), bindArgs (PySem.W.fnOf m qual (defArgs st) (defBody st) (defScope st) .none kV doc pm an cdv ct) ⟨a :: r :: rs, []⟩ = (newTuple (r :: rs) >>= fun t => pure [(p1, a), (pv, t)]))
    (body : ∀ (f : Addr) (cdv : Value) (A : Around) (outer : List Env) (s : Shared) (H : Hp) (vs : List V) (Q : VK) (E : XK), Room k (A.deeper (envOfC qual (defScope st) s.heap.objs.size f cdv)) → sp vs H Q E →
      ∃ t, PSs (cxOf (L2.CX P w) P w K mg base N qual (defScope st) f cdv A outer s H E) (defBody st) t ∧ t { nx := fun _ H' => Q .non H', rt := Q } (start N vs) H) : PrS P w K mg base (L2.CX P w) (k + 1) x m sp := by
  obtain ⟨g, c, fd, F⟩ := D
  obtain ⟨oc, od, dV, kV, doc, pm, an, cdv, ct, osl, rfl, lk, hcd, hD, hK⟩ := F.ex
  refine ⟨g, c, ?_⟩
  rcases hD with ⟨_, e⟩ | ⟨e, _⟩
  · subst e
    refine (StX.fn_star (ps := [p1]) (pv := pv) lk hcd S StX.cxUp (StX.bind_star1 (B := fun us => bindArgs (PySem.W.fnOf m qual (defArgs st) (defBody st) (defScope st) .none kV doc pm an cdv ct) ⟨us, []⟩) (fun a => h0 kV doc pm an cdv ct a) fun a r rs => h1 kV doc pm an cdv ct a r rs) (fun A outer s H vs Q E => body _ cdv A outer s H vs Q E)).imp ?_
    rintro vs H Q E ⟨y, rest, rfl, hz, q⟩
    exact ⟨[y], rest, rfl, rfl, hz, q⟩
  · exact absurd rfl e
end
section
variable {X : Cx} {CX : CXT} {k j : Nat} {x m : Str} {sp : Sp} {E : XK} {o e : Expr} {es : List Expr} {ta : TE} {t : TA} {apos pos : Pos} {pl : Sem Bool}
theorem pe_mets (F : PrS X.prog X.w X.K X.mg X.base CX k x m sp) (hm : L2.Meth X.K (cl X.mg x) m (He.ma X.K (cl X.mg x) m)) (hr : Room j X.A) (hk : k ≤ j) (hx : Passes CX X E) (he : PE X o ta) (ha : PA X (e :: es) t)
    (hst : starEach (e :: es) X.env = (false, eval e X.env) :: starEach es X.env := by rfl) (hpl : (backTo pos (starEach es X.env)).any (·.1) = false := by rfl)
    (ht : eval (.Call (.Attribute o m apos) (e :: es) [] pos) X.env = (do
      let ov ← eval o X.env
      standAt apos.atName
      let (f, first) ← holding [ov] (getMethod ov m pl)
      callWith pos f first (backTo pos (starEach (e :: es) X.env)) (backToKw pos (keywordEach [] X.env))) := by rfl) :
    PE X (.Call (.Attribute o m apos) (e :: es) [] pos) (tMethR (cl X.mg x) m (StarSp sp) E ta t) :=
  pe_methR he F.c hm F.ex (hr.mono hk) hx ha hst hpl ht
theorem pe_mets0 (F : PrS X.prog X.w X.K X.mg X.base CX k x m sp) (hm : L2.Meth X.K (cl X.mg x) m (He.ma X.K (cl X.mg x) m)) (hr : Room j X.A) (hk : k ≤ j) (hx : Passes CX X E) (he : PE X o ta)
    (ht : eval (.Call (.Attribute o m apos) [] [] pos) X.env = (do
      let ov ← eval o X.env
      standAt apos.atName
      let (f, first) ← holding [ov] (getMethod ov m pl)
      callWith pos f first (backTo pos (starEach [] X.env)) (backToKw pos (keywordEach [] X.env))) := by rfl) :
    PE X (.Call (.Attribute o m apos) [] [] pos) (tMethR (cl X.mg x) m (StarSp sp) E ta tNil) := by
  refine ⟨fun pins s σ H Q I h => ?_⟩
  refine PySem.W.methodCall_KW (pl := pl) (thn (he.run pins s σ H _ I h) fun u s1 ⟨y, H1, I1, rx, a, dx, fs, ex, ea, l, q⟩ => ?_) ht
  subst ex
  obtain rfl : u = Value.ref a := rx
  refine getmeth_ok I1 ea F.c hm l ?_
  exact PySem.W.callWith_K0 (first := [.ref a]) I1.kIn hm.kp (wpAny_call (run_fnR (us := [.ref a]) (vs := [.ref a]) F.ex (hr.mono hk) hx I1 (.cons rfl .nil) q))
end
end Gx
namespace Gx
open PySem PySem.Spec PyProof.Rows L2
/-! ### methods below which no repr is under way; {x!r} of data -/
structure PrMG (P : Program) (w : World) (K : PySem.W.Frag) (mg : Str → Option Value) (base : Heap) (k : Nat) (x m qual : Str) (st : Stmt) (ps : List Str) (sp : Sp) : Prop where
  g : mg x = some (.ref (cl mg x))
  c : L2.Cls K (cl mg x)
  ex : ∃ fd, FunD K m qual (defArgs st) (defBody st) (defScope st) [] [] (He.ma K (cl mg x) m) fd ∧ GOk P w K mg base CX0 k (He.ma K (cl mg x) m) fd ps sp
section
variable {P : Program} {w : World} {K : PySem.W.Frag} {mg : Str → Option Value} {base : Heap} {k : Nat} {x m qual : Str} {st : Stmt} {ps N : List Str} {sp : Sp}
theorem MetAt.okG (D : MetAt K mg x m qual st []) (S : FnScope N ps (defScope st)) (len : ∀ vs H Q E, sp vs H Q E → vs.length = ps.length)
    (body : ∀ (f : Addr) (cdv : Value) (A : Around) (outer : List Env) (s : Shared) (H : Hp) (vs : List V) (Q : VK) (E : XK), A.guards = some [] → Room k (A.deeper (envOfC qual (defScope st) s.heap.objs.size f cdv)) → sp vs H Q E →
      ∃ t, PSs (cxOf CX0 P w K mg base N qual (defScope st) f cdv A outer s H E).nox (defBody st) t ∧ t { nx := fun _ H' => Q .non H', rt := Q } (start N vs) H) : PrMG P w K mg base (k + 1) x m qual st ps sp := by
  obtain ⟨g, c, fd, F⟩ := D
  have F0 := F
  obtain ⟨oc, od, dV, kV, doc, pm, an, cdv, ct, osl, rfl, lk, hcd, hD, hK⟩ := F.ex
  rcases hD with ⟨_, e⟩ | ⟨e, _⟩
  · subst e
    have Fu : Fun K m qual st (He.ma K (cl mg x) m) (PySem.W.fnOf m qual (defArgs st) (defBody st) (defScope st) .none kV doc pm an cdv ct) := He5.fun_of F0
    refine ⟨g, c, _, F0, gok_body Fu S (fun {vs H Q E} z => len vs H Q E z) fun cdv A outer s H vs Q E hgd hr z => ?_⟩
    obtain ⟨t, h, q⟩ := body _ cdv A outer s H vs Q E hgd hr z
    exact ⟨t, h.nox, q⟩
  · exact absurd rfl e
end
section
variable {X : Cx} {k j : Nat} {x qual : Str} {st : Stmt} {ps : List Str} {sp : Sp}
theorem run_txtG {C f : Addr} {fd : FuncData} {E : XK} (F : GOk X.prog X.w X.K X.mg X.base CX0 k f fd ps sp) (hb : Binds X.K fd ps []) {A : Around} (hgd : A.guards = some []) (hr : Room k A) {pins : List (Addr × Obj)} {σ : L2.St} {H : Hp} {s : Shared} {Q : VK} {a : Addr} (I : Inv X pins σ H s) (e0 : Env0 X.prog X.w X.K X.mg X.base A X.stack s H)
    (q : sp [.ref a] H (fun v H' => ∃ z : Str, v = .str z ∧ Q (.str z) H') E) : wpAny (model X.prog X.w) A (call (.ref f) [.ref a]) (fun r s' => ∃ z t, r = .str z t ∧ EP X pins σ Q (.str z t) s') X.xe s := by
  have hl : ([Value.ref a] ++ ([] : List Value)).length = ps.length := by
    rw [← F.many q]
    rfl
  refine wpAny_call (codeAny_mono (F.go (args := ⟨[.ref a], []⟩) (us := [.ref a]) (vs := [.ref a]) hgd hr e0 (hb s [.ref a] I.kIn hl) (.cons rfl .nil) q) fun r s' hq => ?_)
  cases r with
  | error er => exact False.elim hq
  | ok fl =>
    cases fl with
    | ret u =>
      obtain ⟨v, H', I3, rv, z, rfl, q3⟩ := I.after hq
      obtain ⟨t, rfl⟩ := rv
      exact ⟨z, t, rfl, .str z, H', I3, ⟨t, rfl⟩, q3⟩
    | next => exact False.elim hq
    | brk => exact False.elim hq
    | cont => exact False.elim hq
/-- repr(x), x an instance with its own __repr__ -/
theorem call_reprMG (F : PrMG X.prog X.w X.K X.mg X.base k x "__repr__" qual st ps sp) (hm : L2.Meth X.K (cl X.mg x) "__repr__" (He.ma X.K (cl X.mg x) "__repr__")) (hgd : X.A.guards = some [])
    (hb : ∀ (kV doc pm : Value) (an : Option Addr) (cdv ct : Value) (us : List Value), us.length = ps.length → bindArgs (PySem.W.fnOf "__repr__" qual (defArgs st) (defBody st) (defScope st) .none kV doc pm an cdv ct) ⟨us, []⟩ = pure (ps.zip us))
    (hr : Room j X.A) (hk : k + 1 ≤ j) : CallR X (.builtin "repr") (rTxtOwn (cl X.mg x) sp E0) := by
  obtain ⟨fd, Z, F1⟩ := F.ex
  obtain ⟨oc, od, dV, kV, doc, pm, an, cdv, ct, osl, rfl, lk, hcd, hD, hK⟩ := Z.ex
  rcases hD with ⟨_, e⟩ | ⟨e, _⟩
  · subst e
    intro pins s σ H xs us Q I r h
    obtain ⟨a, dx, fs, rfl, ea, q⟩ := h
    obtain ⟨u, rfl, ru⟩ := vals1 r
    obtain rfl : u = Value.ref a := ru
    obtain ⟨mA, O, _⟩ := ins_get I.hok ea
    obtain ⟨od', J, _⟩ := O.look
    have XK := I.kIn
    have hr' := hr.mono hk
    have main := run_txtG (C := cl X.mg x) F1 (Binds.all fun us l => hb kV doc pm an cdv ct us l) (A := X.A.in1) hgd hr'.in1 I I.env0.in1 q
    refine Calls.call_function_entry PySem.F.kind_repr PySem.F.plain_repr PySem.F.entry_repr (PySem.F.args_repr1 _) ?_
    unfold Builtin.«repr»
    refine wpAny_bind (m := oneArg "repr" _) (wpAny_pure ?_)
    refine wpAny_bind (wpAny_cRoomFor hr'.in1.units0 ?_)
    have sp1 : PySem.W.Looks (model X.prog X.w) s.heap (specialOf (.ref a) "__repr__") (some (.ref (He.ma X.K (cl X.mg x) "__repr__"))) := J.type.andThen (PySem.W.looks_findIn XK hm.at_)
    refine wpAny_bind (sp1.here ?_)
    show wpAny _ _ (if (some (Value.ref (He.ma X.K (cl X.mg x) "__repr__"))).isNone = true then _ else _) _ _ _
    rw [if_neg (by simp)]
    refine wpAny_bind (m := callSpecialIfBound? (.ref a) (Str.ofString "__repr__") _) (PySem.W.ifBound_K XK J hm.at_ hm.fn (wpAny_mono main (fun r s' hr => ?_) fun _ _ y => y))
    obtain ⟨m, tk, rfl, hq⟩ := hr
    refine wpAny_bind (wpAny_isInstance (typeIs_str _ _ _) isSubtype_str_str ?_)
    first
      | exact wpAny_pure ⟨_, rfl, hq⟩
      | (rw [if_pos rfl]; exact wpAny_pure ⟨_, rfl, hq⟩)
      | (simp only [if_true]; exact wpAny_pure ⟨_, rfl, hq⟩)
  · exact absurd rfl e
/-- {x!r}, x data -/
def tFmtRD (K : PySem.W.Frag) (te : TE) : TE := fun σ H Q => te σ H fun y H1 => ∃ a d, y = .ref a ∧ Shows K H1 (.ref a) d ∧ d.showable = true ∧ d.depth ≤ 30 ∧ d.shown.length ≤ sizeLine ∧ Q (.str d.shown) H1
theorem pe_fmtRD {e : Expr} {te : TE} {pos : Pos} {K : PySem.W.Frag} (hK : X.K = K) (S : SysD X.base) (hgd : X.A.guards = some []) (hu : X.A.units + 64 < cLine) (he : PE X e te) : PE X (.FormattedValue e 114 none pos) (tFmtRD K te) := by
  subst hK
  refine ⟨fun pins s σ H Q I h => ?_⟩
  refine wpAny_FormattedValue_repr (thn (he.run pins s σ H _ I h) fun v s1 hv => ?_)
  obtain ⟨y, H1, I1, r1, a, d, rfl, hd, hs, hdep, hsz, q⟩ := hv
  obtain ⟨as, rd, na⟩ := hd X pins σ s1 _ rfl S I1 r1
  obtain rfl : v = Value.ref a := r1
  exact pyReprObj_of_reads rd hs (fun _ => na) hgd (by omega) (fun _ _ e => e) (fun h' u tk k => wpAny_formatField_str ⟨.str d.shown, H1, I1.kept k, ⟨u, rfl⟩, q⟩ ⟨.str d.shown, H1, (I1.kept k).tok _, ⟨_, rfl⟩, q⟩ hsz) hsz
end
/-- beside its own __eq__: object's __ne__ -/
structure NeOf (K : PySem.W.Frag) (C : Addr) : Prop where
  ne : PySem.W.findIn K (.ref C) "__ne__" = some (some (.builtin "object.__ne__"))
  mo : PySem.W.mroIn K C (.type "object") = some true
section
variable {X : Cx} {k j : Nat} {x qual : Str} {st : Stmt} {ps : List Str} {sp : Sp}
theorem op_eqM (F : PrM X.prog X.w X.K X.mg X.base CX0 k x "__eq__" qual st ps [] sp) (hm : L2.Meth X.K (cl X.mg x) "__eq__" (He.ma X.K (cl X.mg x) "__eq__")) (hn : NeOf X.K (cl X.mg x))
    (hb : ∀ (kV doc pm : Value) (an : Option Addr) (cdv ct : Value) (us : List Value), us.length = ps.length → bindArgs (PySem.W.fnOf "__eq__" qual (defArgs st) (defBody st) (defScope st) .none kV doc pm an cdv ct) ⟨us, []⟩ = pure (ps.zip us))
    (hr : Room j X.A) (hk : k + 1 ≤ j) : OpR X (compareOp .Eq) (rEqOwn (cl X.mg x) X.K sp E0 false) := by
  obtain ⟨fd, Z, F1⟩ := F.ex
  obtain ⟨oc, od, dV, kV, doc, pm, an, cdv, ct, osl, rfl, lk, hcd, hD, hK⟩ := Z.ex
  rcases hD with ⟨_, e⟩ | ⟨e, _⟩
  · subst e
    exact op_eqOwn F1 ⟨hm.at_, hm.fn, hn.ne, hn.mo⟩ (Binds.all fun us l => hb kV doc pm an cdv ct us l) (hr.mono (Nat.le_trans (Nat.le_succ k) hk)) pass0
  · exact absurd rfl e
theorem op_neM (F : PrM X.prog X.w X.K X.mg X.base CX0 k x "__eq__" qual st ps [] sp) (hm : L2.Meth X.K (cl X.mg x) "__eq__" (He.ma X.K (cl X.mg x) "__eq__")) (hn : NeOf X.K (cl X.mg x))
    (hb : ∀ (kV doc pm : Value) (an : Option Addr) (cdv ct : Value) (us : List Value), us.length = ps.length → bindArgs (PySem.W.fnOf "__eq__" qual (defArgs st) (defBody st) (defScope st) .none kV doc pm an cdv ct) ⟨us, []⟩ = pure (ps.zip us))
    (hr : Room j X.A) (hk : k + 1 ≤ j) : OpR X (compareOp .NotEq) (rEqOwn (cl X.mg x) X.K sp E0 true) := by
  obtain ⟨fd, Z, F1⟩ := F.ex
  obtain ⟨oc, od, dV, kV, doc, pm, an, cdv, ct, osl, rfl, lk, hcd, hD, hK⟩ := Z.ex
  rcases hD with ⟨_, e⟩ | ⟨e, _⟩
  · subst e
    exact op_neOwn F1 ⟨hm.at_, hm.fn, hn.ne, hn.mo⟩ (Binds.all fun us l => hb kV doc pm an cdv ct us l) (hr.mono hk) pass0
  · exact absurd rfl e
theorem call_strM (F : PrM X.prog X.w X.K X.mg X.base CX0 k x "__str__" qual st ps [] sp) (hm : L2.Meth X.K (cl X.mg x) "__str__" (He.ma X.K (cl X.mg x) "__str__"))
    (hb : ∀ (kV doc pm : Value) (an : Option Addr) (cdv ct : Value) (us : List Value), us.length = ps.length → bindArgs (PySem.W.fnOf "__str__" qual (defArgs st) (defBody st) (defScope st) .none kV doc pm an cdv ct) ⟨us, []⟩ = pure (ps.zip us))
    (hr : Room j X.A) (hk : k + 2 ≤ j) : CallR X (.type "str") (rTxtOwn (cl X.mg x) sp E0) := by
  obtain ⟨fd, Z, F1⟩ := F.ex
  obtain ⟨oc, od, dV, kV, doc, pm, an, cdv, ct, osl, rfl, lk, hcd, hD, hK⟩ := Z.ex
  rcases hD with ⟨_, e⟩ | ⟨e, _⟩
  · subst e
    exact call_strOwn F1 hm.at_ hm.fn (Binds.all fun us l => hb kV doc pm an cdv ct us l) (hr.mono hk) pass0
  · exact absurd rfl e
end
theorem op_isB {X : Cx} : OpR X (compareOp .Is) (fun x y H Q => ∃ a b : Bool, x = .bl a ∧ y = .bl b ∧ Q (.bl (decide (a = b))) H) := by
  intro pins s σ H x y v u Q I rx ry h
  obtain ⟨a, b, rfl, rfl, q⟩ := h
  cases (show v = Value.bool a from rx)
  cases (show u = Value.bool b from ry)
  exact wpAny_is_plain rfl (fin_bl I q (by cases a <;> cases b <;> rfl))
end Gx
namespace Gx
open PySem PySem.Spec PyProof.Rows L2
/-! ### isinstance(x, C), C an own class that is no error; its facts in the head, by looks -/
def datTys : List String := ["NoneType", "bool", "int", "str", "list", "tuple", "dict"]
/-- an own class that isinstance asks for -/
structure IsiC (K : PySem.W.Frag) (mg : Str → Option Value) (x : Str) : Prop where
  g : mg x = some (.ref (cl mg x))
  c : L2.Cls K (cl mg x)
  ty : PySem.W.typeIn K (.ref (cl mg x)) = some (.type "type")
  is : PySem.W.isClsIn K (cl mg x) = true
  no : ∀ t ∈ datTys, PySem.W.subIn K (.type t) (.ref (cl mg x)) = some false
  gc : PySem.W.findIn K (.ref (cl mg x)) "__class__" = some (some (.builtin "object.__class__"))
  gn : PySem.W.specialIn K (.builtin "object.__class__") "__get__" = some (some (.builtin "getset_descriptor.__get__"))
  gt : PySem.W.takesIn K (.builtin "object.__class__") = some true
  gm : PySem.W.mroIn K (cl mg x) (.type "object") = some true
section
variable {K : PySem.W.Frag} {mg : Str → Option Value} {x : Str} {N : Addr → Prop} {H : Hp}
theorem IsiC.known (T : IsiC K mg x) : KnownAt mg x (.ref (cl mg x)) := ⟨_, T.g, rfl⟩
theorem IsiC.tyx (T : IsiC K mg x) {a dx : Addr} {fs : List (Str × V)} (e : H a = some (.ins (cl mg x) dx fs)) : TyX K H (.ref a) (.ref (cl mg x)) := .base (.ins e T.c T.gc T.gn T.gt T.gm)
theorem IsiC.self (_ : IsiC K mg x) : PySem.W.kitOne K (.ref (cl mg x)) (.ref (cl mg x)) = some true := by
  unfold PySem.W.kitOne
  rw [if_pos (by simp)]
theorem IsiC.dat (T : IsiC K mg x) {t : String} (ht : t ∈ datTys) : PySem.W.kitOne K (.type t) (.ref (cl mg x)) = some false := by
  have e : ((PySem.W.clsIn K (cl mg x)).isSome && PySem.W.typeIn K (.ref (cl mg x)) == some (.type "type")) = true := by
    rw [T.ty, show (PySem.W.clsIn K (cl mg x)).isSome = true from T.is]
    rfl
  unfold PySem.W.kitOne
  rw [if_neg (by simp)]
  show (if ((PySem.W.clsIn K (cl mg x)).isSome && PySem.W.typeIn K (.ref (cl mg x)) == some (.type "type")) = true then PySem.W.subIn K (.type t) (.ref (cl mg x)) else none) = some false
  rw [if_pos e]
  exact T.no _ ht
theorem IsiC.first (T : IsiC K mg x) {t : String} (ht : t ∈ datTys) : PySem.W.notFirst K (cl mg x) (.type t) = true := by
  unfold PySem.W.notFirst
  rw [T.no _ ht]
  simp
theorem first_self {C : Addr} : PySem.W.notFirst K C (.ref C) = true := by simp [PySem.W.notFirst]
def isiB (K : PySem.W.Frag) (C : Addr) : Bool := decide (PySem.W.typeIn K (.ref C) = some (.type "type")) && (PySem.W.isClsIn K C && ((datTys.all fun t => decide (PySem.W.subIn K (.type t) (.ref C) = some false)) &&
  (decide (PySem.W.findIn K (.ref C) "__class__" = some (some (.builtin "object.__class__"))) && (decide (PySem.W.specialIn K (.builtin "object.__class__") "__get__" = some (some (.builtin "getset_descriptor.__get__"))) &&
  (decide (PySem.W.takesIn K (.builtin "object.__class__") = some true) && decide (PySem.W.mroIn K C (.type "object") = some true))))))
def neB (K : PySem.W.Frag) (C : Addr) : Bool := decide (PySem.W.findIn K (.ref C) "__ne__" = some (some (.builtin "object.__ne__"))) && decide (PySem.W.mroIn K C (.type "object") = some true)
variable {h : Heap}
theorem isiC_b (X : K.In h) (G : h.Ns mainGlobals mg) (f : (He.Fa.glo x).ok K = true) (c : (He.Fa.cls x).ok K = true) (q : isiB K (He.ga K x) = true) : IsiC K mg x := by
  have e := cl_ga X G f
  obtain ⟨h1, q⟩ := He.ba q
  obtain ⟨h2, q⟩ := He.ba q
  obtain ⟨h3, q⟩ := He.ba q
  obtain ⟨h4, q⟩ := He.ba q
  obtain ⟨h5, q⟩ := He.ba q
  obtain ⟨h6, h7⟩ := He.ba q
  refine ⟨by rw [e]; exact He.glo_ok X G f, by rw [e]; exact He.cls_ok c, by rw [e]; exact of_decide_eq_true h1, by rw [e]; exact h2, fun t ht => ?_, by rw [e]; exact of_decide_eq_true h4, of_decide_eq_true h5, of_decide_eq_true h6, by rw [e]; exact of_decide_eq_true h7⟩
  rw [e]
  exact of_decide_eq_true (List.all_eq_true.mp h3 t ht)
theorem neOf_b (X : K.In h) (G : h.Ns mainGlobals mg) (f : (He.Fa.glo x).ok K = true) (q : neB K (He.ga K x) = true) : NeOf K (cl mg x) := by
  have e := cl_ga X G f
  obtain ⟨h1, h2⟩ := He.ba q
  rw [e]
  exact ⟨of_decide_eq_true h1, of_decide_eq_true h2⟩
end
/-! ### == and != of own classes within a comprehension: K and mg fixed -/
section
variable {X : Cx} {k j : Nat} {x qual : Str} {st : Stmt} {ps : List Str} {sp : Sp}
theorem op_eqMF {K : PySem.W.Frag} {mg : Str → Option Value} (hK : X.K = K) (hM : X.mg = mg) (F : PrM X.prog X.w K mg X.base CX0 k x "__eq__" qual st ps [] sp) (hm : L2.Meth K (cl mg x) "__eq__" (He.ma K (cl mg x) "__eq__")) (hn : NeOf K (cl mg x))
    (hb : ∀ (kV doc pm : Value) (an : Option Addr) (cdv ct : Value) (us : List Value), us.length = ps.length → bindArgs (PySem.W.fnOf "__eq__" qual (defArgs st) (defBody st) (defScope st) .none kV doc pm an cdv ct) ⟨us, []⟩ = pure (ps.zip us))
    (hr : Room j X.A) (hk : k + 1 ≤ j) : OpR X (compareOp .Eq) (rEqOwn (cl mg x) K sp E0 false) := by
  subst hK hM
  exact op_eqM F hm hn hb hr hk
theorem op_neMF {K : PySem.W.Frag} {mg : Str → Option Value} (hK : X.K = K) (hM : X.mg = mg) (F : PrM X.prog X.w K mg X.base CX0 k x "__eq__" qual st ps [] sp) (hm : L2.Meth K (cl mg x) "__eq__" (He.ma K (cl mg x) "__eq__")) (hn : NeOf K (cl mg x))
    (hb : ∀ (kV doc pm : Value) (an : Option Addr) (cdv ct : Value) (us : List Value), us.length = ps.length → bindArgs (PySem.W.fnOf "__eq__" qual (defArgs st) (defBody st) (defScope st) .none kV doc pm an cdv ct) ⟨us, []⟩ = pure (ps.zip us))
    (hr : Room j X.A) (hk : k + 1 ≤ j) : OpR X (compareOp .NotEq) (rEqOwn (cl mg x) K sp E0 true) := by
  subst hK hM
  exact op_neM F hm hn hb hr hk
end
end Gx
namespace Gx
open PySem PySem.Spec PyProof.Rows L2
/-! ### a lambda that was handed over, called within a try -/
theorem takes_len {X : Cx} {W : WX} (t : Takes X W) : Takes X (fun c d σ H => σ.length = X.N.length → W c d σ H) := fun u s' ⟨a, B, sI, pins, σ, H, cls, d, e, I, nb, up, sky, na, os, ag, w⟩ =>
  t u s' ⟨a, B, sI, pins, σ, H, cls, d, e, I, nb, up, sky, na, os, ag, w I.len⟩
/-- a(): a, in the first slot, is the lambda f with the code c; tl: its reading under a wish for errors -/
def tAct (n : Nat) (f c : Addr) (q : Str) (tl : XK → Hp → VK → Prop) (W : WX) : TE := fun σ H Q => σ[0]? = some (some (.ref f)) ∧ H c = some (LamX.CodeO c q) ∧ tl (fun cls d H' => ∀ σ' : L2.St, σ'.length = n → W cls d σ' H') H Q
theorem pe_act9 {Y : Cx} {a q : Str} {f c : Addr} {tl : XK → Hp → VK → Prop}
    (act : ∀ (W : WX) (pn : List (Addr × Obj)) (xe : Value → Shared → Prop) (E : XK) (p1 p2 : Pos), Takes (Y.tr pn xe) W → (∀ cls d σ' H', E cls d H' → W cls d σ' H') →
      PE (Y.tr pn xe) (.Call (.Name a p1) [] [] p2) (fun σZ HZ Q => σZ[0]? = some (some (.ref f)) ∧ HZ c = some (LamX.CodeO c q) ∧ tl E HZ Q))
    (W : WX) (pn : List (Addr × Obj)) (xe : Value → Shared → Prop) {p1 p2 : Pos} (tk : Takes (Y.tr pn xe) W) : PE (Y.tr pn xe) (.Call (.Name a p1) [] [] p2) (tAct Y.N.length f c q tl W) :=
  ⟨fun pins s σ H Q I h => (act _ pn xe (fun cls d H' => ∀ σ' : L2.St, σ'.length = Y.N.length → W cls d σ' H') p1 p2 (takes_len tk) (fun _ _ σ' _ h e => h σ' e)).run pins s σ H Q I h⟩
/-! ### defs that make lambdas: their code object and its table -/
/-- the code object of the def x, and its table -/
def tb (K : PySem.W.Frag) (x : Str) : Addr × Addr := (PySem.W.tabIn K x).getD (0, 0)
/-- the module's def x, its code object known -/
structure LamAt (K : PySem.W.Frag) (mg : Str → Option Value) (x : Str) (st : Stmt) : Prop where
  ex : ∃ f fd, mg x = some (.ref f) ∧ Fun K x x st f fd ∧ fd.code = .ref (tb K x).1
section
variable {P : Program} {w : World} {K : PySem.W.Frag} {mg : Str → Option Value} {base : Heap} {k : Nat} {x : Str} {st : Stmt} {ps N : List Str} {sp : Sp}
theorem gok_bodyC {f : Addr} {fd : FuncData} {CX : CXT} {qual : Str} (F : Fun K x qual st f fd) (S : FnScope N ps (defScope st)) (hm : ∀ {vs H Q E}, sp vs H Q E → vs.length = ps.length)
    (body : ∀ (cdv : Value) (A : Around) (outer : List Env) (s : Shared) (H : Hp) (vs : List V) (Q : VK) (E : XK), fd.code = cdv → A.guards = some [] →
      Room k (A.deeper (envOfC qual (defScope st) s.heap.objs.size f cdv)) → sp vs H Q E →
      ∃ t, PSs (cxOf CX P w K mg base N qual (defScope st) f cdv A outer s H E) (defBody st) t ∧ t { nx := fun _ H' => Q .non H', rt := Q } (start N vs) H) :
    GOk P w K mg base CX (k + 1) f fd ps sp := by
  obtain ⟨oc, od, kV, doc, pm, an, cdv, ct, osl, rfl, lk, hcd⟩ := F.ex
  refine ⟨hm, fun {A outer s H args us vs Q E} hgd hr e0 hb r hsp => ?_⟩
  have up : ∀ b o, base.get? b = some o → s.heap.get? b = some o := fun b o e => (e0.bs b o e).1
  have inK : K.In s.heap := e0.mod.kin.keeps up
  have nl : s.heap.NoLimit := e0.mod.nolimit.keeps up
  refine codeAny_call_function hr.depth (inK _ _ lk) rfl S.co S.gen rfl (PySem.W.codeRec_of inK hcd) (hb _ _ _ _ ?_)
  refine wpAny_newFunctionEnv_cells S.kind (fun y hy => (S.par y.1 (List.of_mem_zip hy).1).imp id fun z => ⟨z, PySem.W.cellsFrom_some _ _ _ (.inl z)⟩) fun env he s1 new => ?_
  cases he
  obtain ⟨t, ht, q⟩ := body cdv A outer s H vs Q E rfl hgd (hr.deeper _) hsp
  have I := inv_start (CX := CX) (P := P) (w := w) (K := K) (mg := mg) (base := base) (E := E) S hr.hd e0 (hm hsp) r new
  refine ⟨nl.keeps new.toInCall.keep, codeAny_func (wpAny_mono (ht.run [] s1 _ H _ I q) (fun fl s' z => ?_) fun _ _ z => z)⟩
  cases fl with
  | next => exact let ⟨_, H', J, z⟩ := z; ⟨V.non, H', J.os, J.bare, J.base, J.hok, rfl, z⟩
  | ret u => exact let ⟨v, _, H', J, rv, z⟩ := z; ⟨v, H', J.os, J.bare, J.base, J.hok, rv, z⟩
  | brk => exact False.elim (let ⟨_, _, _, z⟩ := z; z)
  | cont => exact False.elim (let ⟨_, _, _, z⟩ := z; z)
/-- a def that makes lambdas, where no repr is under way: its frame's code object is known -/
theorem LamAt.okG (D : LamAt K mg x st) (S : FnScope N ps (defScope st)) (len : ∀ vs H Q E, sp vs H Q E → vs.length = ps.length)
    (body : ∀ (f : Addr) (A : Around) (outer : List Env) (s : Shared) (H : Hp) (vs : List V) (Q : VK) (E : XK), A.guards = some [] → Room k (A.deeper (envOfC x (defScope st) s.heap.objs.size f (.ref (tb K x).1))) → sp vs H Q E →
      ∃ t, PSs (cxOf CX0 P w K mg base N x (defScope st) f (.ref (tb K x).1) A outer s H E).nox (defBody st) t ∧ t { nx := fun _ H' => Q .non H', rt := Q } (start N vs) H) : PrG P w K mg base CX0 (k + 1) x st ps sp := by
  obtain ⟨f, fd, m, F, hc⟩ := D.ex
  refine ⟨f, fd, m, F, gok_bodyC F S (fun {vs H Q E} z => len vs H Q E z) fun cdv A outer s H vs Q E e hg hr z => ?_⟩
  rw [hc] at e
  subst e
  obtain ⟨t, h, q⟩ := body f A outer s H vs Q E hg hr z
  exact ⟨t, h.nox, q⟩
end
section
variable {X : Cx} {Tb : List (Addr × Str)} {TT : (XK → Hp → VK → Prop) → Hp → VK → Prop} {x a y qn : Str} {st : Stmt} {k : Nat} {Ng : List Str} {params : Arguments} {body : Expr} {scope : Scope} {t : XK → TE} {p lpos pos : Pos}
/-- x(lambda: body), x a def of the module with the one parameter a, within a def whose code object is known -/
theorem pe_lam (D : DefAt X.K X.mg x st) (hg : Gl X x) (S : FnScope Ng [a] (defScope st)) (hNg : Ng[0]? = some a) (hva : Vis (defScope st) a) (hb : PosB x st [a])
    (hG : ∀ (g : Addr) (cdg : Value), LamX.GivesTo X Ng x (defScope st) g cdg (defBody st) a qn TT) (hq : X.env.qual ++ "<lambda>" = qn)
    (TB : LamX.TabB X.base X.mg (tb X.K y).1 (tb X.K y).2) (hcode : X.env.code = .ref (tb X.K y).1) (hm : ((tb X.K y).2, qn) ∈ Tb) (hu : ∀ z ∈ Tb, z.1 = (tb X.K y).2 → z.2 = qn) (hr : Room (k + 2) X.A) (L : LamX.LamS X.env.scope scope) (hdef : defaultsOf params X.env = ([], []))
    (hbind : ∀ (q : Str) (cl : List (Str × Addr)) (pm cv ctv : Value), bindArgs (PySem.W.kla_fn "<lambda>" q params body scope cl pm cv ctv) ⟨[], []⟩ = pure [])
    (hbody : ∀ (A : Around) (outer : List Env) (s : Shared) (H : Hp) (E : XK) (f c' : Addr), Room k (A.deeper (LamX.lamEnv X scope s.heap.objs.size f c')) → PE (LamX.lamCx X A outer s H E scope f c') body (t E))
    (hdb : (x == ("__debug__" : Str)) = false := by decide) (hd : (a == ("__debug__" : Str)) = false := by decide) (hcd : (a == ("__classdict__" : Str)) = false := by decide) :
    PE X (.Call (.Name x p) [.Lambda params body scope lpos] [] pos) (LamX.tLam Tb TT t) := by
  subst hq
  obtain ⟨g, fd, m, F⟩ := D
  obtain ⟨oc, od, kV, doc, pm, an, cdv, ct, osl, rfl, lk, hcg⟩ := F.ex
  exact LamX.pe_lamcall hg m F.kp lk hcg (.all (hb kV doc pm an cdv ct)) S hNg hva (hG g cdv) TB hcode hm hu hr L hdef hbind hbody hdb hd hcd
end
/-- sorted of texts, K fixed: for comprehensions -/
theorem cr_sortedQF {X : Cx} {K : PySem.W.Frag} (hK : X.K = K) : CallR X (.builtin "sorted") (rSortedQ K) := by
  subst hK
  exact cr_sortedQ
/-- a list that is walked, K fixed: for comprehensions in comprehensions -/
theorem pi_listF {X : Cx} {K : PySem.W.Frag} (hK : X.K = K) {tg e : Expr} {te : TE} (he : PE X e te) : PI X tg e (iList K te) := by
  subst hK
  exact pi_list he
/-- tuple(x) and list(x), K fixed: for lambdas -/
theorem call_tuple_ofF {X : Cx} {K : PySem.W.Frag} (hK : X.K = K) : CallR X (.type "tuple") (fun xs H Q => ∃ p ys, xs = [V.ref p] ∧ ((SqL K H p ys ∧ ∀ l, H l = none → Q (.ref l) (L2.upd H l (.tup ys))) ∨ (SqT K H p ys ∧ Q (.ref p) H))) := by
  subst hK
  exact call_tuple_of
theorem call_list_ofF {X : Cx} {K : PySem.W.Frag} (hK : X.K = K) : CallR X (.type "list") (fun xs H Q => ∃ p ys, xs = [V.ref p] ∧ (SqL K H p ys ∨ SqT K H p ys) ∧ ∀ l, H l = none → Q (.ref l) (L2.upd H l (.lst ys))) := by
  subst hK
  exact call_list_of
theorem op_neDF {X : Cx} {K : PySem.W.Frag} (hK : X.K = K) (hu : X.A.units + 64 < cLine) : OpR X (compareOp .NotEq) (rNeD K) := by
  subst hK
  exact op_neD hu
end Gx
namespace Gx
open PySem PySem.Spec PyProof.Rows L2
/-! ### == and != of data without dicts, whatever its texts -/
mutual
theorem dp_plain {K : PySem.W.Frag} {H : Hp} : ∀ {v : V} {d : PyData}, Dp K H v d → d.plain = true
  | _, _, .non => rfl
  | _, _, .bl _ => rfl
  | _, _, .int _ => rfl
  | _, _, .str _ => rfl
  | _, _, .lst _ r => by simpa only [PyData.plain] using dps_plain r
  | _, _, .tup _ r => by simpa only [PyData.plain] using dps_plain r
theorem dps_plain {K : PySem.W.Frag} {H : Hp} : ∀ {vs : List V} {ds : List PyData}, DpAll K H vs ds → PyData.plainAll ds = true
  | _, _, .nil => rfl
  | _, _, .cons h r => by
    simp only [PyData.plainAll, Bool.and_eq_true]
    exact ⟨dp_plain h, dps_plain r⟩
end
def rEqP (K : PySem.W.Frag) : R2 := fun x y H Q => ∃ d e, Dp K H x d ∧ Dp K H y e ∧ min d.depth e.depth ≤ 60 ∧ Q (.bl (PyData.eqv d e)) H
def rNeP (K : PySem.W.Frag) : R2 := fun x y H Q => ∃ d e, Dp K H x d ∧ Dp K H y e ∧ min d.depth e.depth ≤ 60 ∧ Q (.bl (!PyData.eqv d e)) H
theorem op_eqP {X : Cx} {K : PySem.W.Frag} (hK : X.K = K) (hu : X.A.units + 64 < cLine) : OpR X (compareOp .Eq) (rEqP K) := by
  subst hK
  intro pins s σ H x y v u Q I rx ry h
  obtain ⟨d, e, hd, he, m, q⟩ := h
  obtain ⟨as, r1⟩ := Dp.reads I d x v hd rx
  obtain ⟨bs, r2⟩ := Dp.reads I e y u he ry
  exact SeqAt.eq_plain r1 r2 (dp_plain hd) (dp_plain he) (by omega) ⟨.bl _, H, I, rfl, q⟩
theorem op_neP {X : Cx} {K : PySem.W.Frag} (hK : X.K = K) (hu : X.A.units + 64 < cLine) : OpR X (compareOp .NotEq) (rNeP K) := by
  subst hK
  intro pins s σ H x y v u Q I rx ry h
  obtain ⟨d, e, hd, he, m, q⟩ := h
  obtain ⟨as, r1⟩ := Dp.reads I d x v hd rx
  obtain ⟨bs, r2⟩ := Dp.reads I e y u he ry
  exact SeqAt.ne_plain r1 r2 (dp_plain hd) (dp_plain he) (by omega) ⟨.bl _, H, I, rfl, q⟩
end Gx
namespace Gx
open PySem PySem.Spec PyProof.Rows L2
/-! ### the end of a law whose defs make lambdas: their tables are empty at its start -/
/-- an empty table of code objects -/
abbrev emptyT : Obj := { cls := .none, data := .fields #[] }
section
variable {P : Program} {w : World} {K : PySem.W.Frag} {mg mb : Str → Option Value} {k : Nat} {fa a : Addr} {fd : FuncData} {x : Str} {sp : Sp} {s₁ : Shared} {vs : List Value} {ns : List Int} {cs : List (Addr × Addr)}
/-- what the law's call needs to be told of the tables -/
structure TabG (mg : Str → Option Value) (K : PySem.W.Frag) (h : Heap) (cs : List (Addr × Addr)) : Prop where
  emp : ∀ c ∈ cs, h.get? c.2 = some emptyT
  out : ∀ c ∈ cs, K.lookup c.2 = none
  cod : ∀ c ∈ cs, PySem.W.CodeHd h c.1 c.2
  bm : ∃ (m : Addr) (o : Obj), mg "__builtins__" = some (.ref m) ∧ m ≠ builtinsNs ∧ h.get? m = some o ∧ o.cls = .type "module" ∧ o.dict = some builtinsNs ∧ o.data = .plain
/-- the heap that a law's call starts from: the script, where it is not the program's own, and the tables -/
def scrT (K : PySem.W.Frag) (a : Addr) (o : Obj) (ns : List Int) (cs : List (Addr × Addr)) : Hp := fun b =>
  if b ∈ cs.map Prod.snd then some (.tbl #[]) else if b = a ∧ K.lookup a = none then some (.frz o (.lst (ns.map V.int))) else none
theorem law_goT (KX : K.In s₁.heap) (SX : SysD s₁.heap) (hm : s₁.heap.Ns mainGlobals mg) (hb : s₁.heap.Ns builtinsNs mb) (hbb : ∀ x : Str, x ≠ "__name__" → mb x = bootBuiltins x) (hl : s₁.heap.NoLimit) (hg : s₁.gens = #[]) (TG : TabG mg K s₁.heap cs)
    (ha : s₁.heap.get? a = some { cls := .type "list", data := .seq vs.toArray }) (hi : IntsAre vs ns) (hn : ns.length ≤ sizeLine) (hr : Room k callerA)
    (F : ∀ base : Heap, K.In base → base.Ns mainGlobals mg → SysD base → (∀ c ∈ cs, LamX.TabB base mg c.1 c.2) → GOk P w K mg base CX0 k fa fd [x] sp) (hbind : ∀ (s : Shared) (u : Value), BindsTo s fd ⟨[u], []⟩ [(x, u)])
    (hsp : ∀ H : Hp, (∀ c ∈ cs, H c.2 = some (.tbl #[])) → SqL K H a (ns.map V.int) → sp [.ref a] H (fun v _ => v = .bl true) fun _ _ _ => False) :
    codeAny (model P w) callerA (.call (.ref fa) ⟨[.ref a], []⟩) (fun r s' => r = .ok (.ret (.bool true)) ∧ OldK s₁.heap s'.heap ∧ s'.os = s₁.os ∧ AllBare s'.gens) s₁ := by
  have rv := vals_ints hi
  let o0 : Obj := { cls := .type "list", data := .seq vs.toArray }
  let H : Hp := scrT K a o0 ns cs
  have memT : ∀ b, b ∈ cs.map Prod.snd → ∃ c ∈ cs, c.2 = b := fun b hb => List.mem_map.mp hb
  have isT : ∀ b, b ∈ cs.map Prod.snd → s₁.heap.get? b = some emptyT := fun b hb => by
    obtain ⟨c, hc, e⟩ := memT b hb
    exact e ▸ TG.emp c hc
  have at_ : ∀ c ∈ cs, H c.2 = some (.tbl #[]) := fun c hc => if_pos (List.mem_map_of_mem hc)
  -- what is tracked
  have trk : ∀ b u, H b = some u → (b ∈ cs.map Prod.snd ∧ u = .tbl #[]) ∨ (b = a ∧ K.lookup a = none ∧ u = .frz o0 (.lst (ns.map V.int))) := fun b u e => by
    by_cases c1 : b ∈ cs.map Prod.snd
    · have e' := (if_pos c1).symm.trans e
      exact .inl ⟨c1, (Option.some.inj e').symm⟩
    · have e1 := (if_neg c1).symm.trans e
      by_cases c2 : b = a ∧ K.lookup a = none
      · have e' := (if_pos c2).symm.trans e1
        exact .inr ⟨c2.1, c2.2, (Option.some.inj e').symm⟩
      · have e' := (if_neg c2).symm.trans e1
        cases e'
  have free : ∀ {b : Addr} {o : Obj}, s₁.heap.get? b = some o → o ≠ o0 → o ≠ emptyT → H b = none := fun {b o} e n1 n2 => by
    cases q : H b with
    | none => rfl
    | some u =>
      rcases trk b u q with ⟨z, _⟩ | ⟨rfl, _⟩
      · rw [isT b z] at e
        exact absurd (Option.some.inj e).symm n2
      · rw [ha] at e
        exact absurd (Option.some.inj e).symm n1
  have freeD : ∀ {b : Addr} {o : Obj} {es : Array DictEntry} {ep : Nat}, s₁.heap.get? b = some o → o.data = .dict es ep → H b = none := fun e d => free e (fun z => by rw [z] at d; cases d) fun z => by rw [z] at d; cases d
  have ns1 : ∀ {b : Addr} {m : Str → Option Value}, s₁.heap.Ns b m → (hidT s₁.heap H).Ns b m := fun {b m} z => let ⟨o, es, ep, e, d, r⟩ := z; ⟨o, es, ep, hidT_get e (freeD e d), d, r⟩
  have kb : K.In (hidT s₁.heap H) := fun b o e => hidT_get (KX b o e) (by
    cases q : H b with
    | none => rfl
    | some u =>
      rcases trk b u q with ⟨z, _⟩ | ⟨rfl, n, _⟩
      · obtain ⟨c, hc, rfl⟩ := memT b z
        rw [TG.out c hc] at e
        cases e
      · rw [n] at e
        cases e)
  have sb : SysD (hidT s₁.heap H) := by
    obtain ⟨o, h1, h2⟩ := SX
    refine ⟨o, hidT_get h1 (free h1 (fun z => ?_) fun z => ?_), h2⟩
    · rw [z] at h2
      exact absurd (Value.type.inj h2) (by decide)
    · rw [z] at h2
      cases h2
  have tb : ∀ c ∈ cs, LamX.TabB (hidT s₁.heap H) mg c.1 c.2 := fun c hc => by
    refine ⟨?_, ?_, fun z => ?_⟩
    · rcases TG.cod c hc with ⟨o, x1, x2, x3, x4, x5, x6, x7, x8, e, q1, q2, q3⟩
      refine ⟨o, x1, x2, x3, x4, x5, x6, x7, x8, hidT_get e (free e (fun z => ?_) fun z => ?_), q1, q2, q3⟩
      · rw [z] at q1
        exact absurd (Value.type.inj q1) (by decide)
      · rw [z] at q1
        cases q1
    · obtain ⟨m, o, y1, y2, y3, y4, y5, y6⟩ := TG.bm
      refine ⟨m, o, y1, y2, fun z => ?_, fun z => ?_, hidT_get y3 (free y3 (fun z => ?_) fun z => ?_), y4, y5, y6⟩
      · obtain ⟨o', _, _, e', d', _⟩ := hm
        rw [z, e'] at y3
        cases y3
        rw [d'] at y6
        cases y6
      · rw [z, TG.emp c hc] at y3
        cases y3
        cases y6
      · rw [z] at y6
        cases y6
      · rw [z] at y6
        cases y6
    · obtain ⟨o', _, _, e', d', _⟩ := hm
      rw [z, TG.emp c hc] at e'
      cases e'
      cases d'
  have md : Mod K mg (hidT s₁.heap H) := ⟨kb, ns1 hm, ⟨mb, ns1 hb, hbb⟩, let ⟨mc, h1, h2⟩ := hl; ⟨mc, ns1 h1, h2⟩⟩
  have ok : HOk P w H s₁.heap := fun b u e => by
    rcases trk b u e with ⟨z, rfl⟩ | ⟨rfl, _, rfl⟩
    · exact isT b z
    · exact ⟨ha, by rw [List.length_map]; exact hn, vs, _, rv, ha⟩
  have hS : SqL K H a (ns.map V.int) := by
    cases hk : K.lookup a with
    | some o =>
      have e := KX a o hk
      rw [ha] at e
      cases e
      exact .inr ⟨_, vs.toArray, _, hk, rfl, rfl, rfl, by rw [List.size_toArray, hi.length]; exact hn, by simpa using rv⟩
    | none =>
      refine .inl (.inr ⟨o0, (if_neg fun z => ?_).trans (if_pos ⟨rfl, hk⟩)⟩)
      have e := isT a z
      rw [ha] at e
      cases e
  have e0 : Env0 P w K mg (hidT s₁.heap H) callerA [] s₁ H := ⟨rfl, md, fun b o e => of_hidT e, Nat.le_of_eq (hidT_size _ _), trivial, (fun _ z => nomatch z), ok, .of_eq hg⟩
  refine codeAny_mono ((F _ kb (ns1 hm) sb tb).go (A := callerA) (us := [.ref a]) (vs := [.ref a]) rfl hr e0 (hbind s₁ (.ref a)) (.cons rfl .nil) (hsp H at_ hS)) fun r s' z => ?_
  cases r with
  | error e => exact False.elim z
  | ok fl =>
    cases fl with
    | next => exact False.elim z
    | brk => exact False.elim z
    | cont => exact False.elim z
    | ret u =>
      obtain ⟨v, H', os, bare, un, ok', r', q⟩ := z
      cases q
      cases r'
      have grow : ∀ c ∈ cs, ∃ more : Array Value, s'.heap.get? c.2 = some { cls := .none, data := .fields more } := fun c hc => by
        obtain ⟨more, e⟩ := un.tbls c.2 #[] (at_ c hc)
        exact ⟨_, ok' c.2 _ e⟩
      have kept : ∀ b o, b ∉ cs.map Prod.snd → s₁.heap.get? b = some o → s'.heap.get? b = some o := fun b o nb e => by
        cases q : H b with
        | none => exact un.keep b o e q (fun y => nomatch y) (fun y => nomatch y)
        | some u =>
          rcases trk b u q with ⟨z, _⟩ | ⟨rfl, _, rfl⟩
          · exact absurd z nb
          · have e1 := (ok b _ q).1
            have e2 := (ok' b _ (un.frzs b o0 _ q)).1
            rw [e] at e1
            cases e1
            exact e2
      refine ⟨rfl, ⟨fun b o e => ?_, fun b o e => ?_⟩, os, bare⟩
      · by_cases c1 : b ∈ cs.map Prod.snd
        · obtain ⟨c, hc, rfl⟩ := memT b c1
          obtain ⟨more, e2⟩ := grow c hc
          have e1 := TG.emp c hc
          rw [e1] at e
          cases e
          exact .inr (.inl ⟨((TG.cod c hc).tab e1).isCodeTable, rfl, #[], more, rfl, e2.trans (by rw [Array.empty_append])⟩)
        · exact .inl (kept b o c1 e)
      · by_cases c1 : b ∈ cs.map Prod.snd
        · obtain ⟨c, hc, rfl⟩ := memT b c1
          exact (grow c hc).elim fun m e2 => ⟨_, e2⟩
        · exact ⟨o, kept b o c1 e⟩
end
/-- the end of a law row over a head by one run, where the defs of these names make lambdas -/
theorem walkT {l : PySem.W.OpenLaw} {n k : Nat} {q : Program} {loose : List Str} {XP : (Str → Option Value) → Heap → Prop} {YP : World → Heap → Prop} {d : DefRec} {sp : PySem.W.Frag → (Str → Option Value) → Sp} {x nm : Str} {st : Stmt} {xs : List Str}
    (hn : l.most = some n) (hn2 : n ≤ sizeLine) (hdf : d.params.defaults = []) (hr : Room k callerA) (hnm : d.name = nm) (hb : PosB nm st [x])
    (hrec : xs.all (fun y => ((recsOf q).find? fun e => e.name == y).isSome) = true)
    (F : ∀ (w : World) (mg : Str → Option Value) (h : Heap), YP w h → h.Ns mainGlobals mg → ∃ K : PySem.W.Frag, K.In h ∧ SysD h ∧ (∀ y ∈ xs, PySem.W.tabIn K y = some (tb K y) ∧ K.lookup (tb K y).2 = none) ∧
      ∀ base : Heap, K.In base → base.Ns mainGlobals mg → SysD base → (∀ y ∈ xs, LamX.TabB base mg (tb K y).1 (tb K y).2) → PrG l.prog w K mg base CX0 k nm st [x] (sp K mg))
    (hsp : ∀ (K : PySem.W.Frag) (mg : Str → Option Value) (H : Hp) (a : Addr) (ns : List Int), ns.length ≤ n → (∀ y ∈ xs, H (tb K y).2 = some (.tbl #[])) → SqL K H a (ns.map V.int) → sp K mg [.ref a] H (fun v _ => v = .bl true) fun _ _ _ => False) :
    PySem.W.WalkO q loose XP YP l.row.toRowW d [] (fun f vs => PySem.call f vs) := by
  refine Att.attach_call hn hdf fun w s₀ s₁ mg mb fa o pm cd doc a vs ns G Y ho hd hcd hmg hobj hints hlen hg => ?_
  obtain ⟨K, KX, SX, TX, FX⟩ := F w mg _ Y G.T.g
  have hd2 : ∀ y ∈ xs, PySem.W.CodeHd s₁.heap (tb K y).1 (tb K y).2 ∧ s₁.heap.get? (tb K y).2 = some emptyT := fun y hy => by
    have h1 := List.all_eq_true.mp hrec y hy
    obtain ⟨r, hr1⟩ := Option.isSome_iff_exists.mp h1
    exact PySem.W.tab_of G.T KX hr1 (TX y hy).1
  have TG : TabG mg K s₁.heap (xs.map (tb K)) := by
    refine ⟨fun c hc => ?_, fun c hc => ?_, fun c hc => ?_, G.T.bmain⟩
    all_goals obtain ⟨y, hy, rfl⟩ := List.mem_map.mp hc
    · exact (hd2 y hy).2
    · exact (TX y hy).2
    · exact (hd2 y hy).1
  have tbs : ∀ (Z : Addr → Addr → Prop), (∀ c ∈ xs.map (tb K), Z c.1 c.2) → ∀ y ∈ xs, Z (tb K y).1 (tb K y).2 := fun Z h y hy => h _ (List.mem_map_of_mem hy)
  have here : ∀ y ∈ xs, LamX.TabB s₁.heap mg (tb K y).1 (tb K y).2 := fun y hy => by
    obtain ⟨c1, c2⟩ := hd2 y hy
    obtain ⟨o', _, _, e', d', _⟩ := G.T.g
    refine ⟨c1, ?_, fun z => ?_⟩
    · obtain ⟨m, o, y1, y2, y3, y4, y5, y6⟩ := G.T.bmain
      refine ⟨m, o, y1, y2, fun z => ?_, fun z => ?_, y3, y4, y5, y6⟩
      · rw [z, e'] at y3
        cases y3
        rw [d'] at y6
        cases y6
      · rw [z, c2] at y3
        cases y3
        cases y6
    · rw [z, c2] at e'
      cases e'
      cases d'
  obtain ⟨f, fd, m, Z, _⟩ := (FX _ KX G.T.g SX here).ex
  have FF : ∀ base : Heap, K.In base → base.Ns mainGlobals mg → SysD base → (∀ y ∈ xs, LamX.TabB base mg (tb K y).1 (tb K y).2) → GOk l.prog w K mg base CX0 k f fd [x] (sp K mg) := fun base kb nb sb tt => by
    obtain ⟨f', fd', m', Z', F'⟩ := (FX base kb nb sb tt).ex
    rw [m] at m'
    cases m'
    obtain ⟨_, _, _, _, _, _, _, _, _, rfl, l1, _⟩ := Z.ex
    obtain ⟨_, _, _, _, _, _, _, _, _, rfl, l2, _⟩ := Z'.ex
    rw [l1] at l2
    cases l2
    exact F'
  rw [hnm, m] at hmg
  cases hmg
  refine law_goT (x := x) (fd := fd) KX SX G.T.g G.T.b G.T.builtins G.T.nolimit hg TG hobj hints (Nat.le_trans hlen hn2) hr (fun base kb nb sb t => FF base kb nb sb (tbs _ t)) (fun s u => ?_) fun H hH hS => hsp K mg H a ns hlen (fun y hy => hH _ (List.mem_map_of_mem hy)) hS
  obtain ⟨_, _, kV, doc, pm, an, cdv, ct, _, rfl, _, _⟩ := Z.ex
  exact .of_eq (hb kV doc pm an cdv ct [u] rfl)
/-- a def that makes lambdas, looked at: its code object and its table -/
def lamB (K : PySem.W.Frag) (x : Str) : Bool := (PySem.W.tabIn K x).isSome && ((K.lookup (tb K x).2).isNone && (match K.lookup (He.ga K x) with
  | some ⟨_, _, .func fd, _⟩ => decide (fd.code = .ref (tb K x).1)
  | _ => false))
theorem lamB_tab {K : PySem.W.Frag} {x : Str} (h : lamB K x = true) : PySem.W.tabIn K x = some (tb K x) ∧ K.lookup (tb K x).2 = none := by
  obtain ⟨h1, h⟩ := He.ba h
  obtain ⟨h2, _⟩ := He.ba h
  obtain ⟨z, e⟩ := Option.isSome_iff_exists.mp h1
  refine ⟨?_, Option.isNone_iff_eq_none.mp h2⟩
  unfold tb
  rw [e]
  rfl
theorem lamAt_n {K : PySem.W.Frag} {h : Heap} {mg : Str → Option Value} {x : Str} {st : Stmt} (X : K.In h) (G : h.Ns mainGlobals mg) (f : (He.Fa.glo x).ok K = true) (b : lamB K x = true) (d : ∃ fd, L2.FunD K x x (defArgs st) (defBody st) (defScope st) [] [] (He.ga K x) fd) : LamAt K mg x st := by
  obtain ⟨fd, F⟩ := d
  have Z := He5.fun_of F
  obtain ⟨_, b⟩ := He.ba b
  obtain ⟨_, b⟩ := He.ba b
  obtain ⟨oc, od, kV, doc, pm, an, cdv, ct, osl, rfl, lk, hc⟩ := Z.ex
  refine ⟨_, _, He.glo_ok X G f, Z, ?_⟩
  rw [lk] at b
  exact of_decide_eq_true b
end Gx
namespace My
open PySem PySem.Spec PyProof.Rows L2
def top (i : Nat) : Stmt := PySem.Challenge.pw_coverstore_k33_orders_and_equal_queries.main.body.getD i (.Pass ⟨0, 0, 0, 0⟩)
abbrev s_is_int : Stmt := top 8
abbrev N_is_int : List Str := ["value"]
theorem sc_is_int : FnScope N_is_int ["value"] (defScope s_is_int) := ⟨rfl, rfl, rfl, by decide +kernel, rfl, by decide +kernel, by decide +kernel⟩
theorem b_is_int : Gx.PosB "is_int" s_is_int ["value"] := fun _ _ _ _ _ _ us hl => match us, hl with | [_], _ => rfl
abbrev s_is_place : Stmt := top 9
abbrev N_is_place : List Str := ["value", "length"]
theorem sc_is_place : FnScope N_is_place ["value", "length"] (defScope s_is_place) := ⟨rfl, rfl, rfl, by decide +kernel, rfl, by decide +kernel, by decide +kernel⟩
theorem b_is_place : Gx.PosB "is_place" s_is_place ["value", "length"] := fun _ _ _ _ _ _ us hl => match us, hl with | [_, _], _ => rfl
abbrev s_is_list : Stmt := top 10
abbrev N_is_list : List Str := ["value"]
theorem sc_is_list : FnScope N_is_list ["value"] (defScope s_is_list) := ⟨rfl, rfl, rfl, by decide +kernel, rfl, by decide +kernel, by decide +kernel⟩
theorem b_is_list : Gx.PosB "is_list" s_is_list ["value"] := fun _ _ _ _ _ _ us hl => match us, hl with | [_], _ => rfl
abbrev s_is_name : Stmt := top 11
abbrev N_is_name : List Str := ["value"]
theorem sc_is_name : FnScope N_is_name ["value"] (defScope s_is_name) := ⟨rfl, rfl, rfl, by decide +kernel, rfl, by decide +kernel, by decide +kernel⟩
theorem b_is_name : Gx.PosB "is_name" s_is_name ["value"] := fun _ _ _ _ _ _ us hl => match us, hl with | [_], _ => rfl
abbrev s_is_term : Stmt := top 19
abbrev N_is_term : List Str := ["value"]
theorem sc_is_term : FnScope N_is_term ["value"] (defScope s_is_term) := ⟨rfl, rfl, rfl, by decide +kernel, rfl, by decide +kernel, by decide +kernel⟩
theorem b_is_term : Gx.PosB "is_term" s_is_term ["value"] := fun _ _ _ _ _ _ us hl => match us, hl with | [_], _ => rfl
abbrev s_are_terms : Stmt := top 20
abbrev N_are_terms : List Str := ["value", "element"]
theorem sc_are_terms : FnScope N_are_terms ["value"] (defScope s_are_terms) := ⟨rfl, rfl, rfl, by decide +kernel, rfl, by decide +kernel, by decide +kernel⟩
theorem b_are_terms : Gx.PosB "are_terms" s_are_terms ["value"] := fun _ _ _ _ _ _ us hl => match us, hl with | [_], _ => rfl
abbrev s_is_literal : Stmt := top 21
abbrev N_is_literal : List Str := ["value", "kind", "one", "other"]
theorem sc_is_literal : FnScope N_is_literal ["value"] (defScope s_is_literal) := ⟨rfl, rfl, rfl, by decide +kernel, rfl, by decide +kernel, by decide +kernel⟩
theorem b_is_literal : Gx.PosB "is_literal" s_is_literal ["value"] := fun _ _ _ _ _ _ us hl => match us, hl with | [_], _ => rfl
abbrev s_terms_of : Stmt := top 22
abbrev N_terms_of : List Str := ["literal"]
theorem sc_terms_of : FnScope N_terms_of ["literal"] (defScope s_terms_of) := ⟨rfl, rfl, rfl, by decide +kernel, rfl, by decide +kernel, by decide +kernel⟩
theorem b_terms_of : Gx.PosB "terms_of" s_terms_of ["literal"] := fun _ _ _ _ _ _ us hl => match us, hl with | [_], _ => rfl
abbrev s_variables_of : Stmt := top 23
abbrev N_variables_of : List Str := ["literals", "found", "literal", "term"]
theorem sc_variables_of : FnScope N_variables_of ["literals"] (defScope s_variables_of) := ⟨rfl, rfl, rfl, by decide +kernel, rfl, by decide +kernel, by decide +kernel⟩
theorem b_variables_of : Gx.PosB "variables_of" s_variables_of ["literals"] := fun _ _ _ _ _ _ us hl => match us, hl with | [_], _ => rfl
abbrev s_is_order_of : Stmt := top 24
abbrev N_is_order_of : List Str := ["value", "variables", "element"]
theorem sc_is_order_of : FnScope N_is_order_of ["value", "variables"] (defScope s_is_order_of) := ⟨rfl, rfl, rfl, by decide +kernel, rfl, by decide +kernel, by decide +kernel⟩
theorem b_is_order_of : Gx.PosB "is_order_of" s_is_order_of ["value", "variables"] := fun _ _ _ _ _ _ us hl => match us, hl with | [_, _], _ => rfl
abbrev s_problem_with : Stmt := top 25
abbrev N_problem_with : List Str := ["literals", "order", "position", "literal", "variables"]
theorem sc_problem_with : FnScope N_problem_with ["literals", "order"] (defScope s_problem_with) := ⟨rfl, rfl, rfl, by decide +kernel, rfl, by decide +kernel, by decide +kernel⟩
theorem b_problem_with : Gx.PosB "problem_with" s_problem_with ["literals", "order"] := fun _ _ _ _ _ _ us hl => match us, hl with | [_, _], _ => rfl
abbrev s_text_of : Stmt := top 26
abbrev N_text_of : List Str := ["literal", "kind", "one", "other", "inside", "term", "before"]
theorem sc_text_of : FnScope N_text_of ["literal"] (defScope s_text_of) := ⟨rfl, rfl, rfl, by decide +kernel, rfl, by decide +kernel, by decide +kernel⟩
theorem b_text_of : Gx.PosB "text_of" s_text_of ["literal"] := fun _ _ _ _ _ _ us hl => match us, hl with | [_], _ => rfl
abbrev s_text_of_query : Stmt := top 27
abbrev N_text_of_query : List Str := ["literals", "variables", "text", "literal", "names"]
theorem sc_text_of_query : FnScope N_text_of_query ["literals", "variables"] (defScope s_text_of_query) := ⟨rfl, rfl, rfl, by decide +kernel, rfl, by decide +kernel, by decide +kernel⟩
theorem b_text_of_query : Gx.PosB "text_of_query" s_text_of_query ["literals", "variables"] := fun _ _ _ _ _ _ us hl => match us, hl with | [_, _], _ => rfl
abbrev s_read_literal : Stmt := top 28
abbrev N_read_literal : List Str := ["text", "words"]
theorem sc_read_literal : FnScope N_read_literal ["text"] (defScope s_read_literal) := ⟨rfl, rfl, rfl, by decide +kernel, rfl, by decide +kernel, by decide +kernel⟩
theorem b_read_literal : Gx.PosB "read_literal" s_read_literal ["text"] := fun _ _ _ _ _ _ us hl => match us, hl with | [_], _ => rfl
abbrev s_read_row : Stmt := top 29
abbrev N_read_row : List Str := ["kind", "text", "table", "_", "inside", "word"]
theorem sc_read_row : FnScope N_read_row ["kind", "text"] (defScope s_read_row) := ⟨rfl, rfl, rfl, by decide +kernel, rfl, by decide +kernel, by decide +kernel⟩
theorem b_read_row : Gx.PosB "read_row" s_read_row ["kind", "text"] := fun _ _ _ _ _ _ us hl => match us, hl with | [_, _], _ => rfl
abbrev s_read_term : Stmt := top 30
abbrev N_read_term : List Str := ["word"]
theorem sc_read_term : FnScope N_read_term ["word"] (defScope s_read_term) := ⟨rfl, rfl, rfl, by decide +kernel, rfl, by decide +kernel, by decide +kernel⟩
theorem b_read_term : Gx.PosB "read_term" s_read_term ["word"] := fun _ _ _ _ _ _ us hl => match us, hl with | [_], _ => rfl
abbrev s__law_pot : Stmt := top 33
abbrev N__law_pot : List Str := ["_law_script", "_law_k", "_law_cell", "_law_seed"]
theorem sc__law_pot : FnScope N__law_pot ["_law_script", "_law_k"] (defScope s__law_pot) := ⟨rfl, rfl, rfl, by decide +kernel, rfl, by decide +kernel, by decide +kernel⟩
theorem b__law_pot : Gx.PosB "_law_pot" s__law_pot ["_law_script", "_law_k"] := fun _ _ _ _ _ _ us hl => match us, hl with | [_, _], _ => rfl
abbrev s__law_take : Stmt := top 34
abbrev N__law_take : List Str := ["_law_pot_here", "_law_many", "_law_digit"]
theorem sc__law_take : FnScope N__law_take ["_law_pot_here", "_law_many"] (defScope s__law_take) := ⟨rfl, rfl, rfl, by decide +kernel, rfl, by decide +kernel, by decide +kernel⟩
theorem b__law_take : Gx.PosB "_law_take" s__law_take ["_law_pot_here", "_law_many"] := fun _ _ _ _ _ _ us hl => match us, hl with | [_, _], _ => rfl
abbrev s__law_pick : Stmt := top 35
abbrev N__law_pick : List Str := ["_law_pot_here", "_law_some"]
theorem sc__law_pick : FnScope N__law_pick ["_law_pot_here", "_law_some"] (defScope s__law_pick) := ⟨rfl, rfl, rfl, by decide +kernel, rfl, by decide +kernel, by decide +kernel⟩
theorem b__law_pick : Gx.PosB "_law_pick" s__law_pick ["_law_pot_here", "_law_some"] := fun _ _ _ _ _ _ us hl => match us, hl with | [_, _], _ => rfl
abbrev s__law_word : Stmt := top 36
abbrev N__law_word : List Str := ["_law_pot_here", "_law_first", "_law_more", "_law_at"]
theorem sc__law_word : FnScope N__law_word ["_law_pot_here", "_law_first"] (defScope s__law_word) := ⟨rfl, rfl, rfl, by decide +kernel, rfl, by decide +kernel, by decide +kernel⟩
theorem b__law_word : Gx.PosB "_law_word" s__law_word ["_law_pot_here", "_law_first"] := fun _ _ _ _ _ _ us hl => match us, hl with | [_, _], _ => rfl
abbrev s__law_mixed : Stmt := top 37
abbrev N__law_mixed : List Str := ["_law_pot_here", "_law_some", "_law_rest", "_law_found"]
theorem sc__law_mixed : FnScope N__law_mixed ["_law_pot_here", "_law_some"] (defScope s__law_mixed) := ⟨rfl, rfl, rfl, by decide +kernel, rfl, by decide +kernel, by decide +kernel⟩
theorem b__law_mixed : Gx.PosB "_law_mixed" s__law_mixed ["_law_pot_here", "_law_some"] := fun _ _ _ _ _ _ us hl => match us, hl with | [_, _], _ => rfl
abbrev s__law_terms : Stmt := top 38
abbrev N__law_terms : List Str := ["_law_literal_here"]
theorem sc__law_terms : FnScope N__law_terms ["_law_literal_here"] (defScope s__law_terms) := ⟨rfl, rfl, rfl, by decide +kernel, rfl, by decide +kernel, by decide +kernel⟩
theorem b__law_terms : Gx.PosB "_law_terms" s__law_terms ["_law_literal_here"] := fun _ _ _ _ _ _ us hl => match us, hl with | [_], _ => rfl
abbrev s__law_first_order : Stmt := top 39
abbrev N__law_first_order : List Str := ["_law_parts", "_law_found", "_law_literal_here", "_law_term_here"]
theorem sc__law_first_order : FnScope N__law_first_order ["_law_parts"] (defScope s__law_first_order) := ⟨rfl, rfl, rfl, by decide +kernel, rfl, by decide +kernel, by decide +kernel⟩
theorem b__law_first_order : Gx.PosB "_law_first_order" s__law_first_order ["_law_parts"] := fun _ _ _ _ _ _ us hl => match us, hl with | [_], _ => rfl
abbrev s__law_term : Stmt := top 40
abbrev N__law_term : List Str := ["_law_pot_here", "_law_names"]
theorem sc__law_term : FnScope N__law_term ["_law_pot_here", "_law_names"] (defScope s__law_term) := ⟨rfl, rfl, rfl, by decide +kernel, rfl, by decide +kernel, by decide +kernel⟩
theorem b__law_term : Gx.PosB "_law_term" s__law_term ["_law_pot_here", "_law_names"] := fun _ _ _ _ _ _ us hl => match us, hl with | [_, _], _ => rfl
abbrev s__law_literal : Stmt := top 41
abbrev N__law_literal : List Str := ["_law_pot_here", "_law_names", "_law_way", "_law_terms_here", "_law_at"]
theorem sc__law_literal : FnScope N__law_literal ["_law_pot_here", "_law_names"] (defScope s__law_literal) := ⟨rfl, rfl, rfl, by decide +kernel, rfl, by decide +kernel, by decide +kernel⟩
theorem b__law_literal : Gx.PosB "_law_literal" s__law_literal ["_law_pot_here", "_law_names"] := fun _ _ _ _ _ _ us hl => match us, hl with | [_, _], _ => rfl
abbrev s__law_in_order : Stmt := top 42
abbrev N__law_in_order : List Str := ["_law_query", "_law_names"]
theorem sc__law_in_order : FnScope N__law_in_order ["_law_query", "_law_names"] (defScope s__law_in_order) := ⟨rfl, rfl, rfl, by decide +kernel, rfl, by decide +kernel, by decide +kernel⟩
theorem b__law_in_order : Gx.PosB "_law_in_order" s__law_in_order ["_law_query", "_law_names"] := fun _ _ _ _ _ _ us hl => match us, hl with | [_, _], _ => rfl
abbrev s__law_told : Stmt := top 43
abbrev N__law_told : List Str := ["_law_call", "_law_told_here", "e"]
theorem sc__law_told : FnScope N__law_told ["_law_call"] (defScope s__law_told) := ⟨rfl, rfl, rfl, by decide +kernel, rfl, by decide +kernel, by decide +kernel⟩
theorem b__law_told : Gx.PosB "_law_told" s__law_told ["_law_call"] := fun _ _ _ _ _ _ us hl => match us, hl with | [_], _ => rfl
abbrev s__law_is_refused : Stmt := top 44
abbrev N__law_is_refused : List Str := ["_law_asked", "_law_names", "_law_due"]
theorem sc__law_is_refused : FnScope N__law_is_refused ["_law_asked", "_law_names"] (defScope s__law_is_refused) := ⟨rfl, rfl, rfl, by decide +kernel, rfl, by decide +kernel, by decide +kernel⟩
theorem b__law_is_refused : Gx.PosB "_law_is_refused" s__law_is_refused ["_law_asked", "_law_names"] := fun _ _ _ _ _ _ us hl => match us, hl with | [_, _], _ => rfl
abbrev s__law_orders_right : Stmt := top 45
abbrev N__law_orders_right : List Str := ["_law_pot_here", "_law_parts", "_law_asked", "_law_sequence", "_law_others", "_law_turned", "_law_odd", "_law_wrong", "_law_some", "_law_names", "_law_one"]
theorem sc__law_orders_right : FnScope N__law_orders_right ["_law_pot_here", "_law_parts", "_law_asked", "_law_sequence"] (defScope s__law_orders_right) := ⟨rfl, rfl, rfl, by decide +kernel, rfl, by decide +kernel, by decide +kernel⟩
theorem b__law_orders_right : Gx.PosB "_law_orders_right" s__law_orders_right ["_law_pot_here", "_law_parts", "_law_asked", "_law_sequence"] := fun _ _ _ _ _ _ us hl => match us, hl with | [_, _, _, _], _ => rfl
abbrev s__law_others_right : Stmt := top 46
abbrev N__law_others_right : List Str := ["_law_pot_here", "_law_parts", "_law_asked", "_law_sequence", "_law_odd", "_law_thing", "_law_at", "_law_more", "_law_twin"]
theorem sc__law_others_right : FnScope N__law_others_right ["_law_pot_here", "_law_parts", "_law_asked", "_law_sequence"] (defScope s__law_others_right) := ⟨rfl, rfl, rfl, by decide +kernel, rfl, by decide +kernel, by decide +kernel⟩
theorem b__law_others_right : Gx.PosB "_law_others_right" s__law_others_right ["_law_pot_here", "_law_parts", "_law_asked", "_law_sequence"] := fun _ _ _ _ _ _ us hl => match us, hl with | [_, _, _, _], _ => rfl
abbrev s__law_right : Stmt := top 47
abbrev N__law_right : List Str := ["_law_pot_here", "_law_names", "_law_at", "_law_parts", "_law_sequence", "_law_handed", "_law_asked", "_law_told_here", "_law_same", "_law_one"]
theorem sc__law_right : FnScope N__law_right ["_law_pot_here"] (defScope s__law_right) := ⟨rfl, rfl, rfl, by decide +kernel, rfl, by decide +kernel, by decide +kernel⟩
theorem b__law_right : Gx.PosB "_law_right" s__law_right ["_law_pot_here"] := fun _ _ _ _ _ _ us hl => match us, hl with | [_], _ => rfl
abbrev s_law : Stmt := top 48
abbrev N_law : List Str := ["_law_script", "_law_k"]
theorem sc_law : FnScope N_law ["_law_script"] (defScope s_law) := ⟨rfl, rfl, rfl, by decide +kernel, rfl, by decide +kernel, by decide +kernel⟩
theorem b_law : Gx.PosB "law" s_law ["_law_script"] := fun _ _ _ _ _ _ us hl => match us, hl with | [_], _ => rfl
abbrev s_Query___init__ : Stmt := Gx.meth (top 31) 3
abbrev N_Query___init__ : List Str := ["self", "literals", "order", "found", "problem", "position"]
theorem sc_Query___init__ : FnScope N_Query___init__ ["self", "literals", "order"] (defScope s_Query___init__) := ⟨rfl, rfl, rfl, by decide +kernel, rfl, by decide +kernel, by decide +kernel⟩
abbrev s_Query_variables : Stmt := Gx.meth (top 31) 5
abbrev N_Query_variables : List Str := ["self"]
theorem sc_Query_variables : FnScope N_Query_variables ["self"] (defScope s_Query_variables) := ⟨rfl, rfl, rfl, by decide +kernel, rfl, by decide +kernel, by decide +kernel⟩
theorem bq_Query_variables : Gx.PosQ "variables" "Query.variables" s_Query_variables ["self"] := fun _ _ _ _ _ _ us hl => match us, hl with | [_], _ => rfl
abbrev s_Query_literals : Stmt := Gx.meth (top 31) 6
abbrev N_Query_literals : List Str := ["self"]
theorem sc_Query_literals : FnScope N_Query_literals ["self"] (defScope s_Query_literals) := ⟨rfl, rfl, rfl, by decide +kernel, rfl, by decide +kernel, by decide +kernel⟩
theorem bm_Query_literals : ∀ (kV doc pm : Value) (an : Option Addr) (cdv ct : Value) (us : List Value), us.length = 1 → bindArgs (PySem.W.fnOf "literals" "Query.literals" (defArgs s_Query_literals) (defBody s_Query_literals) (defScope s_Query_literals) .none kV doc pm an cdv ct) ⟨us, []⟩ = pure ((["self"] : List Str).zip us) := fun _ _ _ _ _ _ us hl => match us, hl with | [_], _ => rfl
abbrev s_Query___len__ : Stmt := Gx.meth (top 31) 8
abbrev N_Query___len__ : List Str := ["self"]
theorem sc_Query___len__ : FnScope N_Query___len__ ["self"] (defScope s_Query___len__) := ⟨rfl, rfl, rfl, by decide +kernel, rfl, by decide +kernel, by decide +kernel⟩
theorem bm_Query___len__ : ∀ (kV doc pm : Value) (an : Option Addr) (cdv ct : Value) (us : List Value), us.length = 1 → bindArgs (PySem.W.fnOf "__len__" "Query.__len__" (defArgs s_Query___len__) (defBody s_Query___len__) (defScope s_Query___len__) .none kV doc pm an cdv ct) ⟨us, []⟩ = pure ((["self"] : List Str).zip us) := fun _ _ _ _ _ _ us hl => match us, hl with | [_], _ => rfl
abbrev s_Query_in_order : Stmt := Gx.meth (top 31) 7
abbrev N_Query_in_order : List Str := ["self", "variables"]
theorem sc_Query_in_order : FnScope N_Query_in_order ["self", "variables"] (defScope s_Query_in_order) := ⟨rfl, rfl, rfl, by decide +kernel, rfl, by decide +kernel, by decide +kernel⟩
theorem bs0_Query_in_order : ∀ (kV doc pm : Value) (an : Option Addr) (cdv ct a : Value), bindArgs (PySem.W.fnOf "in_order" "Query.in_order" (defArgs s_Query_in_order) (defBody s_Query_in_order) (defScope s_Query_in_order) .none kV doc pm an cdv ct) ⟨[a], []⟩ = (newTuple [] >>= fun t => pure [(("self" : Str), a), (("variables" : Str), t)]) := fun _ _ _ _ _ _ _ => rfl
theorem bs1_Query_in_order : ∀ (kV doc pm : Value) (an : Option Addr) (cdv ct a r : Value) (rs : List Value), bindArgs (PySem.W.fnOf "in_order" "Query.in_order" (defArgs s_Query_in_order) (defBody s_Query_in_order) (defScope s_Query_in_order) .none kV doc pm an cdv ct) ⟨a :: r :: rs, []⟩ = (newTuple (r :: rs) >>= fun t => pure [(("self" : Str), a), (("variables" : Str), t)]) := fun _ _ _ _ _ _ _ _ _ => rfl
abbrev s_Query___eq__ : Stmt := Gx.meth (top 31) 9
abbrev N_Query___eq__ : List Str := ["self", "other"]
theorem sc_Query___eq__ : FnScope N_Query___eq__ ["self", "other"] (defScope s_Query___eq__) := ⟨rfl, rfl, rfl, by decide +kernel, rfl, by decide +kernel, by decide +kernel⟩
theorem bm_Query___eq__ : ∀ (kV doc pm : Value) (an : Option Addr) (cdv ct : Value) (us : List Value), us.length = 2 → bindArgs (PySem.W.fnOf "__eq__" "Query.__eq__" (defArgs s_Query___eq__) (defBody s_Query___eq__) (defScope s_Query___eq__) .none kV doc pm an cdv ct) ⟨us, []⟩ = pure ((["self", "other"] : List Str).zip us) := fun _ _ _ _ _ _ us hl => match us, hl with | [_, _], _ => rfl
abbrev s_Query___str__ : Stmt := Gx.meth (top 31) 10
abbrev N_Query___str__ : List Str := ["self"]
theorem sc_Query___str__ : FnScope N_Query___str__ ["self"] (defScope s_Query___str__) := ⟨rfl, rfl, rfl, by decide +kernel, rfl, by decide +kernel, by decide +kernel⟩
theorem bm_Query___str__ : ∀ (kV doc pm : Value) (an : Option Addr) (cdv ct : Value) (us : List Value), us.length = 1 → bindArgs (PySem.W.fnOf "__str__" "Query.__str__" (defArgs s_Query___str__) (defBody s_Query___str__) (defScope s_Query___str__) .none kV doc pm an cdv ct) ⟨us, []⟩ = pure ((["self"] : List Str).zip us) := fun _ _ _ _ _ _ us hl => match us, hl with | [_], _ => rfl
abbrev s_Query___repr__ : Stmt := Gx.meth (top 31) 11
abbrev N_Query___repr__ : List Str := ["self"]
theorem sc_Query___repr__ : FnScope N_Query___repr__ ["self"] (defScope s_Query___repr__) := ⟨rfl, rfl, rfl, by decide +kernel, rfl, by decide +kernel, by decide +kernel⟩
theorem bm_Query___repr__ : ∀ (kV doc pm : Value) (an : Option Addr) (cdv ct : Value) (us : List Value), us.length = 1 → bindArgs (PySem.W.fnOf "__repr__" "Query.__repr__" (defArgs s_Query___repr__) (defBody s_Query___repr__) (defScope s_Query___repr__) .none kV doc pm an cdv ct) ⟨us, []⟩ = pure ((["self"] : List Str).zip us) := fun _ _ _ _ _ _ us hl => match us, hl with | [_], _ => rfl
theorem mb_Query_0_order_literals : Gx.MetB "__init__" "Query.__init__" s_Query___init__ ["self", "literals", "order"] 1 1 ["order", "literals"] (fun vs ds zs => vs ++ ((match zs with | [y0, y1] => [y1, y0] | z => z) ++ ds.drop 1)) := ⟨fun _ _ _ _ _ _ _ us its ws hu hi hw => match us, its, ws, hu, hi, hw with | [_], [_], [_, _], _, _, _ => ⟨_, rfl, rfl⟩, fun a d r => a.append (L2.Vals.append (match r with | .nil => .nil | .cons h0 .nil => .cons h0 .nil | .cons h0 (.cons h1 .nil) => .cons h1 (.cons h0 .nil) | .cons h0 (.cons h1 (.cons h2 (z))) => .cons h0 (.cons h1 (.cons h2 (z)))) (d.drop 1))⟩
theorem mb_Query_1 : Gx.MetB "__init__" "Query.__init__" s_Query___init__ ["self", "literals", "order"] 1 2 [] (fun vs ds zs => vs ++ (zs ++ ds.drop 0)) := ⟨fun _ _ _ _ _ _ _ us its ws hu hi hw => match us, its, ws, hu, hi, hw with | [_, _], [_], [], _, _, _ => ⟨_, rfl, rfl⟩, fun a d r => a.append (L2.Vals.append (r) (d.drop 0))⟩
theorem mb_Query_2 : Gx.MetB "__init__" "Query.__init__" s_Query___init__ ["self", "literals", "order"] 1 3 [] (fun vs ds zs => vs ++ (zs ++ ds.drop 1)) := ⟨fun _ _ _ _ _ _ _ us its ws hu hi hw => match us, its, ws, hu, hi, hw with | [_, _, _], [_], [], _, _, _ => ⟨_, rfl, rfl⟩, fun a d r => a.append (L2.Vals.append (r) (d.drop 1))⟩
abbrev i_InvalidQuery : Stmt := Gx.meth (top 2) 0
theorem sci_InvalidQuery : FnScope ["self", "problem", "position"] ["self", "problem", "position"] (defScope i_InvalidQuery) := ⟨rfl, rfl, rfl, by decide +kernel, rfl, by decide +kernel, by decide +kernel⟩
theorem bi_InvalidQuery : Gx.PosQ "__init__" "InvalidQuery.__init__" i_InvalidQuery ["self", "problem", "position"] := fun _ _ _ _ _ _ us hl => match us, hl with | [_, _, _], _ => rfl
theorem bodyi_InvalidQuery {P : Program} {w : World} {K : PySem.W.Frag} {mg : Str → Option Value} {base : Heap} : ∀ (f : Addr) (cdv : Value) (A : Around) (outer : List Env) (s : Shared) (H : Hp) (E : XK), PSs (cxOf CX0 P w K mg base ["self", "problem", "position"] "InvalidQuery.__init__" (defScope i_InvalidQuery) f cdv A outer s H E).nox (defBody i_InvalidQuery) (fun D σ H => tOst K "problem" (tVar 0) (tVar 1) { D with nx := fun σ1 H1 => tOst K "position" (tVar 0) (tVar 2) D σ1 H1 } σ H) :=
  fun _ _ _ _ _ _ _ => pss_cons (ps_ost (pv 0) (pv 1)) (pss_one (ps_ost (pv 0) (pv 2)))
abbrev i_InvalidText : Stmt := Gx.meth (top 3) 0
theorem sci_InvalidText : FnScope ["self", "value"] ["self", "value"] (defScope i_InvalidText) := ⟨rfl, rfl, rfl, by decide +kernel, rfl, by decide +kernel, by decide +kernel⟩
theorem bi_InvalidText : Gx.PosQ "__init__" "InvalidText.__init__" i_InvalidText ["self", "value"] := fun _ _ _ _ _ _ us hl => match us, hl with | [_, _], _ => rfl
theorem bodyi_InvalidText {P : Program} {w : World} {K : PySem.W.Frag} {mg : Str → Option Value} {base : Heap} : ∀ (f : Addr) (cdv : Value) (A : Around) (outer : List Env) (s : Shared) (H : Hp) (E : XK), PSs (cxOf CX0 P w K mg base ["self", "value"] "InvalidText.__init__" (defScope i_InvalidText) f cdv A outer s H E).nox (defBody i_InvalidText) (fun D σ H => tOst K "value" (tVar 0) (tVar 1) D σ H) :=
  fun _ _ _ _ _ _ _ => pss_one (ps_ost (pv 0) (pv 1))
/-- what the module's names stand for -/
structure Mo (K : PySem.W.Frag) (mg : Str → Option Value) : Prop where
  d_is_int : Gx.DefAt K mg "is_int" s_is_int
  d_is_place : Gx.DefAt K mg "is_place" s_is_place
  d_is_list : Gx.DefAt K mg "is_list" s_is_list
  d_is_name : Gx.DefAt K mg "is_name" s_is_name
  d_is_term : Gx.DefAt K mg "is_term" s_is_term
  d_are_terms : Gx.DefAt K mg "are_terms" s_are_terms
  d_is_literal : Gx.DefAt K mg "is_literal" s_is_literal
  d_terms_of : Gx.DefAt K mg "terms_of" s_terms_of
  d_variables_of : Gx.DefAt K mg "variables_of" s_variables_of
  d_is_order_of : Gx.DefAt K mg "is_order_of" s_is_order_of
  d_problem_with : Gx.DefAt K mg "problem_with" s_problem_with
  d_text_of : Gx.DefAt K mg "text_of" s_text_of
  d_text_of_query : Gx.DefAt K mg "text_of_query" s_text_of_query
  d__law_pot : Gx.DefAt K mg "_law_pot" s__law_pot
  d__law_take : Gx.DefAt K mg "_law_take" s__law_take
  d__law_pick : Gx.DefAt K mg "_law_pick" s__law_pick
  d__law_word : Gx.DefAt K mg "_law_word" s__law_word
  d__law_mixed : Gx.DefAt K mg "_law_mixed" s__law_mixed
  d__law_terms : Gx.DefAt K mg "_law_terms" s__law_terms
  d__law_first_order : Gx.DefAt K mg "_law_first_order" s__law_first_order
  d__law_term : Gx.DefAt K mg "_law_term" s__law_term
  d__law_literal : Gx.DefAt K mg "_law_literal" s__law_literal
  d__law_in_order : Gx.DefAt K mg "_law_in_order" s__law_in_order
  d__law_told : Gx.DefAt K mg "_law_told" s__law_told
  d__law_is_refused : Gx.LamAt K mg "_law_is_refused" s__law_is_refused
  d__law_orders_right : Gx.LamAt K mg "_law_orders_right" s__law_orders_right
  d__law_others_right : Gx.DefAt K mg "_law_others_right" s__law_others_right
  d__law_right : Gx.DefAt K mg "_law_right" s__law_right
  d_law : Gx.DefAt K mg "law" s_law
  b_ValueError : mg "ValueError" = none
  b_abs : mg "abs" = none
  b_all : mg "all" = none
  b_any : mg "any" = none
  b_bool : mg "bool" = none
  b_enumerate : mg "enumerate" = none
  b_int : mg "int" = none
  b_isinstance : mg "isinstance" = none
  b_len : mg "len" = none
  b_list : mg "list" = none
  b_max : mg "max" = none
  b_min : mg "min" = none
  b_range : mg "range" = none
  b_repr : mg "repr" = none
  b_sorted : mg "sorted" = none
  b_str : mg "str" = none
  b_tuple : mg "tuple" = none
  g_BEFORE_DENIED : Gx.KnownAt mg "BEFORE_DENIED" (.str "not ")
  g_BEFORE_ORDER : Gx.KnownAt mg "BEFORE_ORDER" (.str " by ")
  g_LETTERS : Gx.KnownAt mg "LETTERS" (.str "abcdefghijklmnopqrstuvwxyz")
  g_MAX_NAME : Gx.KnownAt mg "MAX_NAME" (.int 8)
  g_MAX_TERMS : Gx.KnownAt mg "MAX_TERMS" (.int 4)
  g_RESERVED_WORDS : Gx.TupAt K mg "RESERVED_WORDS" [.str "not", .str "by"]
  g_ROW_KINDS : Gx.TupAt K mg "ROW_KINDS" [.str "row", .str "none"]
  g_SIGNS : Gx.TupAt K mg "SIGNS" [.str "<", .str "<=", .str "=", .str "!="]
  d_Query___init__ : Gx.MetAt K mg "Query" "__init__" "Query.__init__" s_Query___init__ [.non]
  mk_Query : L2.Mk K (Gx.cl mg "Query") (He.ma K (Gx.cl mg "Query") "__init__")
  d_Query_variables : Gx.GetAt K mg "Query" "variables" "Query.variables" s_Query_variables
  d_Query_literals : Gx.MetAt K mg "Query" "literals" "Query.literals" s_Query_literals []
  m_Query_literals : L2.Meth K (Gx.cl mg "Query") "literals" (He.ma K (Gx.cl mg "Query") "literals")
  d_Query___len__ : Gx.MetAt K mg "Query" "__len__" "Query.__len__" s_Query___len__ []
  m_Query___len__ : L2.Meth K (Gx.cl mg "Query") "__len__" (He.ma K (Gx.cl mg "Query") "__len__")
  d_Query_in_order : Gx.MetAt K mg "Query" "in_order" "Query.in_order" s_Query_in_order []
  m_Query_in_order : L2.Meth K (Gx.cl mg "Query") "in_order" (He.ma K (Gx.cl mg "Query") "in_order")
  d_Query___eq__ : Gx.MetAt K mg "Query" "__eq__" "Query.__eq__" s_Query___eq__ []
  m_Query___eq__ : L2.Meth K (Gx.cl mg "Query") "__eq__" (He.ma K (Gx.cl mg "Query") "__eq__")
  ne_Query : Gx.NeOf K (Gx.cl mg "Query")
  o_Query : Gx.IsiC K mg "Query"
  d_Query___str__ : Gx.MetAt K mg "Query" "__str__" "Query.__str__" s_Query___str__ []
  m_Query___str__ : L2.Meth K (Gx.cl mg "Query") "__str__" (He.ma K (Gx.cl mg "Query") "__str__")
  d_Query___repr__ : Gx.MetAt K mg "Query" "__repr__" "Query.__repr__" s_Query___repr__ []
  m_Query___repr__ : L2.Meth K (Gx.cl mg "Query") "__repr__" (He.ma K (Gx.cl mg "Query") "__repr__")
  n_Query__literals : L2.NoAttr K (Gx.cl mg "Query") "_literals"
  n_Query__variables : L2.NoAttr K (Gx.cl mg "Query") "_variables"
  k_Query_MAX_INTEGER : Gx.CInt K mg "Query" "MAX_INTEGER" (1023)
  k_Query_MAX_LITERALS : Gx.CInt K mg "Query" "MAX_LITERALS" (8)
  k_Query_MAX_VARIABLES : Gx.CInt K mg "Query" "MAX_VARIABLES" (5)
  c_CoverError : Gx.ClsAt K mg "CoverError"
  c_InvalidQuery : Gx.ClsAt K mg "InvalidQuery"
  e_InvalidQuery : Gx.ErrAt K mg "InvalidQuery" "InvalidQuery.__init__" i_InvalidQuery
  f_InvalidQuery_problem : PySem.W.findIn K (.ref (Gx.cl mg "InvalidQuery")) "problem" = some none
  f_InvalidQuery_position : PySem.W.findIn K (.ref (Gx.cl mg "InvalidQuery")) "position" = some none
  u_InvalidQuery_InvalidQuery : Gx.SubAt K mg "InvalidQuery" "InvalidQuery" true
  u_InvalidQuery_CoverError : Gx.SubAt K mg "InvalidQuery" "CoverError" true
  v_InvalidQuery_ValueError : PySem.W.subIn K (.ref (Gx.cl mg "InvalidQuery")) (.type "ValueError") = some true
end My
namespace My
open PySem PySem.Spec PySem.Builtin PySem.Builtin.Str PyProof.Rows L2
/-! ### texts -/
theorem strip_nil (z y : Str) : (Txt.stripChars z y = Str.empty) ↔ ∀ c ∈ z.cps.toList, y.cps.contains c = true := by
  unfold Txt.stripChars
  rw [PyProof.Rows.stripBy_eq]
  generalize y.cps.contains = g
  obtain ⟨l1, l2, l3⟩ := lo_facts g z
  obtain ⟨h1, h2, h3, h4⟩ := hi_facts g z (stripLo g true z) l1
  have sz : ∀ i : Nat, i < z.length → z.cps.toList[i]? = some (z.cps.getD i 0) := fun i hi => by
    have hi' : i < z.cps.size := hi
    simp [Array.getD, hi']
  constructor
  · intro e c hc
    have e0 : (strSub z (stripLo g true z) (stripHi g true z (stripLo g true z))).length = 0 := by rw [e]; rfl
    rw [size_strSub _ _ _ h2] at e0
    obtain ⟨i, hi, rfl⟩ := List.mem_iff_getElem.mp hc
    have hi' : i < z.length := by simpa [Str.length] using hi
    have q := sz i hi'
    rw [List.getElem?_eq_getElem hi] at q
    rw [Option.some.inj q]
    by_cases c1 : i < stripLo g true z
    · exact l2 i c1
    · exact h3 i (by omega) hi'
  · intro h
    have all : ∀ i, i < z.length → g (z.cps.getD i 0) = true := fun i hi => h _ (List.mem_of_getElem? (sz i hi))
    have e1 : stripLo g true z = z.length := by
      rcases l3 with e | e
      · exact e
      · by_cases c : stripLo g true z < z.length
        · rw [all _ c] at e
          cases e
        · omega
    have e0 : (strSub z (stripLo g true z) (stripHi g true z (stripLo g true z))).length = 0 := by
      rw [size_strSub _ _ _ h2]
      omega
    revert e0
    generalize strSub z (stripLo g true z) (stripHi g true z (stripLo g true z)) = u
    intro e0
    obtain ⟨a⟩ := u
    have : a = #[] := Array.eq_empty_of_size_eq_zero e0
    rw [this]
    rfl
/-! ### what names, terms and literals are -/
def isLw (c : Nat) : Bool := decide (97 ≤ c) && decide (c ≤ 122)
theorem lw_in (c : Nat) : ((("abcdefghijklmnopqrstuvwxyz" : String) : Str)).cps.contains c = isLw c := by
  have e : ((("abcdefghijklmnopqrstuvwxyz" : String) : Str)).cps = #[97, 98, 99, 100, 101, 102, 103, 104, 105, 106, 107, 108, 109, 110, 111, 112, 113, 114, 115, 116, 117, 118, 119, 120, 121, 122] := by decide +kernel
  rw [e, Bool.eq_iff_iff]
  simp only [isLw, Bool.and_eq_true, decide_eq_true_eq, Array.contains_eq_any_beq, Array.any_eq_true', List.mem_toArray, List.mem_cons, List.not_mem_nil, or_false, beq_iff_eq]
  constructor
  · rintro ⟨x, h, rfl⟩
    omega
  · intro h
    exact ⟨c, by omega, rfl⟩
theorem stripLw (z : Str) : decide (V.str (Txt.stripChars z "abcdefghijklmnopqrstuvwxyz") = V.str "") = z.cps.toList.all isLw := by
  have e : (V.str (Txt.stripChars z "abcdefghijklmnopqrstuvwxyz") = V.str "") ↔ z.cps.toList.all isLw = true := by
    rw [V.str.injEq, show (("" : String) : Str) = Str.empty from rfl, strip_nil, List.all_eq_true]
    constructor
    · intro h c hc
      rw [← lw_in]; exact h c hc
    · intro h c hc
      rw [lw_in]; exact h c hc
  by_cases c : z.cps.toList.all isLw = true
  · rw [c, decide_eq_true (e.mpr c)]
  · rw [Bool.not_eq_true] at c
    rw [c, decide_eq_false (fun h => by rw [e.mp h] at c; cases c)]
theorem in_strs (l : List Str) {z : Str} : inV (.str z) (l.map V.str) = l.any fun y => decide (z = y) := by
  induction l with
  | nil => rfl
  | cons a l ih =>
    show ((a == z) || inV (.str z) (l.map V.str)) = _
    rw [ih, List.any_cons]
    congr 1
    rw [Bool.eq_iff_iff, beq_iff_eq, decide_eq_true_eq]
    exact ⟨fun h => h.symm, fun h => h.symm⟩
/-- a name -/
def nameZ (z : Str) : Bool := decide (1 ≤ z.length) && (decide (z.length ≤ 8) && (z.cps.toList.all isLw && !(decide (z = "not") || decide (z = "by"))))
def nameD : PyData → Bool
  | .str z => nameZ z
  | _ => false
def isIntD : PyData → Bool
  | .int _ => true
  | _ => false
def placeD (n : Int) : PyData → Bool
  | .int i => decide (0 ≤ i) && decide (i < n)
  | _ => false
def termD (d : PyData) : Bool := nameD d || placeD 1024 d
def termsD : PyData → Bool
  | .tuple ds => decide (1 ≤ ds.length) && (decide (ds.length ≤ 4) && ds.all termD)
  | _ => false
def strD : PyData → Bool
  | .str _ => true
  | _ => false
def rowW (d : PyData) : Bool := match d with
  | .str z => decide (z = "row") || decide (z = "none")
  | _ => false
def signW (d : PyData) : Bool := match d with
  | .str z => decide (z = "<") || (decide (z = "<=") || (decide (z = "=") || decide (z = "!=")))
  | _ => false
def litD : PyData → Bool
  | .tuple [k, a, b] => if rowW k then nameD a && termsD b else signW k && (termD a && (termD b && (strD a || strD b)))
  | _ => false
section
variable {P : Program} {w : World} {K : PySem.W.Frag} {mg : Str → Option Value} {base : Heap}
/-- a question about one thing -/
def sp1D (f : PyData → Bool) : Sp := fun vs H Q _ => ∃ p x d, vs = [x] ∧ Gx.Dat p H x d ∧ Q (.bl (f d)) H
def spPl : Sp := fun vs H Q _ => ∃ p x d n, vs = [x, .int n] ∧ Gx.Dat p H x d ∧ Q (.bl (placeD n d)) H
theorem p_is_int (T : Mo K mg) : Gx.Pr P w K mg base CX0 1 "is_int" s_is_int ["value"] (sp1D isIntD) := by
  refine T.d_is_int.ok sc_is_int (fun vs H Q E h => ?_) (fun f cdv A outer s H vs Q E hr h => ?_)
  · obtain ⟨p, x, d, rfl, _⟩ := h
    rfl
  · obtain ⟨p, x, d, rfl, t, q⟩ := h
    refine ⟨_, (pss_one (ps_ret (pe_and (pe_callB call_isi (by rfl) T.b_isinstance (by decide +kernel) (pa_cons (pv 0) (pa_cons (pe_bltn (v := .ty "int") rfl T.b_int (by decide +kernel) rfl) pa_nil))) (pe_one (pe_not (pe_callB call_isi (by rfl) T.b_isinstance (by decide +kernel) (pa_cons (pv 0) (pa_cons (pe_bltn (v := .ty "bool") rfl T.b_bool (by decide +kernel) rfl) pa_nil)))))))), ?_⟩
    refine ⟨x, rfl, x, .ty "int", _, _, _, rfl, .ty _, t.ty, Gx.kit_D (by simp), _, rfl, ?_⟩
    have go : ∀ Q' : V → Hp → Prop, Q' (.bl (!Gx.isD "bool" d)) H → Q' (.bl (!Gx.isD "bool" d)) H := fun _ h => h
    cases d with
    | int i => exact ⟨_, rfl, _, .ty "bool", _, _, _, rfl, .ty _, t.ty, Gx.kit_D (by simp), _, rfl, q⟩
    | bool i => exact ⟨_, rfl, _, .ty "bool", _, _, _, rfl, .ty _, t.ty, Gx.kit_D (by simp), _, rfl, q⟩
    | none => exact q
    | str => exact q
    | list => exact q
    | tuple => exact q
    | dict => exact q
theorem p_is_place (T : Mo K mg) : Gx.Pr P w K mg base CX0 2 "is_place" s_is_place ["value", "length"] spPl := by
  refine T.d_is_place.ok sc_is_place (fun vs H Q E h => ?_) (fun f cdv A outer s H vs Q E hr h => ?_)
  · obtain ⟨p, x, d, n, rfl, _⟩ := h
    rfl
  · obtain ⟨p, x, d, n, rfl, t, q⟩ := h
    refine ⟨_, (pss_one (ps_ret (pe_and (Gx.pe_pos (p_is_int T) hr (by decide) (by rfl) b_is_int pass0 (pa_cons (pv 0) pa_nil)) (pe_one (pe_chain op_le op_lt pe_int (pv 0) (pv 1)))))), ?_⟩
    refine ⟨x, rfl, p, x, d, rfl, t, _, rfl, ?_⟩
    cases t with
    | int i =>
      refine ⟨_, rfl, _, _, rfl, rfl, _, rfl, ?_⟩
      show if decide (0 ≤ i) = true then _ else _
      have q : Q (.bl (decide (0 ≤ i) && decide (i < n))) H := q
      by_cases c : 0 ≤ i
      · rw [decide_eq_true c] at q ⊢
        exact ⟨_, rfl, _, _, rfl, rfl, q⟩
      · rw [decide_eq_false c] at q ⊢
        exact q
    | bl i => exact q
    | non => exact q
    | str => exact q
    | lst => exact q
    | tup => exact q
    | nil => exact q
    | one => exact q
def spLT : Sp := fun vs H Q _ => ∃ p x d, vs = [x] ∧ Gx.Dat p H x d ∧ ∀ H', Same H H' → Q (.bl (Gx.isD "list" d || Gx.isD "tuple" d)) H'
theorem p_is_list (T : Mo K mg) : Gx.Pr P w K mg base CX0 1 "is_list" s_is_list ["value"] spLT := by
  refine T.d_is_list.ok sc_is_list (fun vs H Q E h => ?_) (fun f cdv A outer s H vs Q E hr h => ?_)
  · obtain ⟨p, x, d, rfl, _⟩ := h
    rfl
  · obtain ⟨p, x, d, rfl, t, q⟩ := h
    refine ⟨_, (pss_one (ps_ret (pe_callB call_isiT (by rfl) T.b_isinstance (by decide +kernel) (pa_cons (pv 0) (pa_cons (pe_tup (pa_cons (pe_bltn (v := .ty "list") rfl T.b_list (by decide +kernel) rfl) (pa_cons (pe_bltn (v := .ty "tuple") rfl T.b_tuple (by decide +kernel) rfl) pa_nil))) pa_nil))))), ?_⟩
    refine ⟨x, rfl, by show 2 ≤ sizeLine; decide, fun e ne => ?_⟩
    exact ⟨x, e, _, _, _, _, rfl, upd_same, .cons (.ty _) (.cons (.ty _) .nil), (t.kp (Gx.Kp.of (Gx.sameU ne))).ty, Gx.kit_D2 (by simp) (by simp), q _ (Gx.sameU ne)⟩
theorem p_is_name (T : Mo K mg) : Gx.Pr P w K mg base CX0 1 "is_name" s_is_name ["value"] (sp1D nameD) := by
  refine T.d_is_name.ok sc_is_name (fun vs H Q E h => ?_) (fun f cdv A outer s H vs Q E hr h => ?_)
  · obtain ⟨p, x, d, rfl, _⟩ := h
    rfl
  · obtain ⟨p, x, d, rfl, t, q⟩ := h
    refine ⟨_, (pss_cons (ps_if (PW.pt (pw_or (pt_not (pt_val (pe_callB call_isi (by rfl) T.b_isinstance (by decide +kernel) (pa_cons (pv 0) (pa_cons (pe_bltn (v := .ty "str") rfl T.b_str (by decide +kernel) rfl) pa_nil))))) (pw_or1 (pt_not (pt_chain op_le op_le pe_int (pe_callB call_len_str (by rfl) T.b_len (by decide +kernel) (pa_cons (pv 0) pa_nil)) (Gx.pe_k rfl T.g_MAX_NAME)))))) (pss_one (ps_ret pe_bl)) pss_nil)
      (pss_one (ps_ret (pe_and (pe_cmpR op_eq (pe_bm PySem.F.plainAttrs_str PySem.F.slot_str_strip PySem.F.type_str_strip mt_stripChars (pv 0) (pa_cons (Gx.pe_k rfl T.g_LETTERS) pa_nil)) pe_str (nomark _)) (pe_one (pe_cmpR op_notIn_seq (pv 0) (Gx.pe_k rfl T.g_RESERVED_WORDS.known) (by rfl))))))), ?_⟩
    refine ⟨x, rfl, x, .ty "str", _, _, _, rfl, .ty _, t.ty, Gx.kit_D (by simp), _, rfl, ?_⟩
    cases t with
    | str z hz ha =>
      refine iteF ?_
      have hz' : z.length ≤ sizeLine := Nat.le_trans hz (by decide)
      refine ⟨_, rfl, z, rfl, hz', _, _, rfl, rfl, _, rfl, ?_⟩
      show if decide ((1 : Int) ≤ (z.length : Int)) = true then _ else _
      have q : Q (.bl (nameZ z)) H := q
      by_cases c : 1 ≤ z.length
      · rw [decide_eq_true (show (1 : Int) ≤ (z.length : Int) by omega)]
        refine ⟨_, _, rfl, rfl, _, rfl, ?_⟩
        show if (!decide ((z.length : Int) ≤ 8)) = true then _ else _
        by_cases c2 : z.length ≤ 8
        · rw [decide_eq_true (show (z.length : Int) ≤ 8 by omega)]
          refine iteF ?_
          refine ⟨_, rfl, rfl, z, _, rfl, rfl, hz', rfl, ?_⟩
          rw [stripLw]
          have e1 : nameZ z = (z.cps.toList.all isLw && !(decide (z = "not") || decide (z = "by"))) := by simp [nameZ, c, c2]
          rw [e1] at q
          cases hl : z.cps.toList.all isLw with
          | false =>
            rw [hl] at q
            exact ⟨_, rfl, q⟩
          | true =>
            rw [hl, Bool.true_and] at q
            refine ⟨_, rfl, _, rfl, _, _, rfl, .inr (T.g_RESERVED_WORDS.t H), rfl, rfl, ?_⟩
            show Q (.bl (!inV (.str z) ([("not" : Str), "by"].map V.str))) H
            rw [in_strs [("not" : Str), "by"]]
            simpa using q
        · rw [decide_eq_false (show ¬ (z.length : Int) ≤ 8 by omega)]
          have e1 : nameZ z = false := by simp [nameZ, c2]
          rw [e1] at q
          exact iteT q
      · rw [decide_eq_false (show ¬ (1 : Int) ≤ (z.length : Int) by omega)]
        have e1 : nameZ z = false := by simp [nameZ, c]
        rw [e1] at q
        exact ⟨_, rfl, iteT q⟩
    | int i => exact iteT q
    | bl i => exact iteT q
    | non => exact iteT q
    | lst => exact iteT q
    | tup => exact iteT q
    | nil => exact iteT q
    | one => exact iteT q
theorem p_is_term (T : Mo K mg) : Gx.Pr P w K mg base CX0 3 "is_term" s_is_term ["value"] (sp1D termD) := by
  refine T.d_is_term.ok sc_is_term (fun vs H Q E h => ?_) (fun f cdv A outer s H vs Q E hr h => ?_)
  · obtain ⟨p, x, d, rfl, _⟩ := h
    rfl
  · obtain ⟨p, x, d, rfl, t, q⟩ := h
    refine ⟨_, (pss_one (ps_ret (pe_or (Gx.pe_pos (p_is_name T) hr (by decide) (by rfl) b_is_name pass0 (pa_cons (pv 0) pa_nil)) (pe_one (Gx.pe_pos (p_is_place T) hr (by decide) (by rfl) b_is_place pass0 (pa_cons (pv 0) (pa_cons (pe_op op_add (Gx.pe_cint T.k_Query_MAX_INTEGER rfl) pe_int) pa_nil))))))), ?_⟩
    refine ⟨x, rfl, p, x, d, rfl, t, _, rfl, ?_⟩
    have q : Q (.bl (nameD d || placeD 1024 d)) H := q
    cases c : nameD d with
    | true =>
      rw [c] at q
      exact q
    | false =>
      rw [c, Bool.false_or] at q
      exact ⟨x, rfl, _, _, rfl, rfl, p, x, d, _, rfl, t, q⟩
/-- the same, the heap may grow -/
def sp1G (f : PyData → Bool) : Sp := fun vs H Q _ => ∃ p x d, vs = [x] ∧ Gx.Dat p H x d ∧ ∀ H', Same H H' → Q (.bl (f d)) H'
theorem p_are_terms (T : Mo K mg) : Gx.Pr P w K mg base CX0 4 "are_terms" s_are_terms ["value"] (sp1G termsD) := by
  refine T.d_are_terms.ok sc_are_terms (fun vs H Q E h => ?_) (fun f cdv A outer s H vs Q E hr h => ?_)
  · obtain ⟨p, x, d, rfl, _⟩ := h
    rfl
  · obtain ⟨p, x, d, rfl, t, q⟩ := h
    refine ⟨_, (pss_cons (ps_if (PW.pt (pw_or (pt_not (pt_val (pe_callB call_isi (by rfl) T.b_isinstance (by decide +kernel) (pa_cons (pv 0) (pa_cons (pe_bltn (v := .ty "tuple") rfl T.b_tuple (by decide +kernel) rfl) pa_nil))))) (pw_or1 (pt_not (pt_chain op_le op_le pe_int (pe_callB call_len_seq (by rfl) T.b_len (by decide +kernel) (pa_cons (pv 0) pa_nil)) (Gx.pe_k rfl T.g_MAX_TERMS)))))) (pss_one (ps_ret pe_bl)) pss_nil)
      (pss_one (ps_ret (pe_callB (cr_all rfl) (by rfl) T.b_all (by decide +kernel) (pa_cons (pe_lc (own := [("element", 1)]) (g := gName 1) (tt := tYes) rfl sc_are_terms.nd (pi_tup (pv 0)) (blkOk_by (N := N_are_terms) (sc := defScope s_are_terms) (by decide +kernel)) (fun _ _ _ _ _ => (pg_name (i := 1) sc_are_terms.nd rfl (Or.inl rfl))) (fun _ _ _ _ _ => pts_nil) (fun _ _ _ _ _ => (Gx.pe_pos (p_is_term T) hr (by decide) (by rfl) b_is_term pass0 (pa_cons (pv 1) pa_nil)))) pa_nil))))), ?_⟩
    refine ⟨x, rfl, x, .ty "tuple", _, _, _, rfl, .ty _, t.ty, Gx.kit_D (by simp), _, rfl, ?_⟩
    cases t with
    | @tup a xs ds n h r =>
      refine iteF ?_
      have q : ∀ H', Same H H' → Q (.bl (decide (1 ≤ ds.length) && (decide (ds.length ≤ 4) && ds.all termD))) H' := q
      refine ⟨_, rfl, a, xs, rfl, .inr (SqT.of h), _, _, rfl, rfl, _, rfl, ?_⟩
      show if decide ((1 : Int) ≤ (xs.length : Int)) = true then _ else _
      rw [r.len]
      by_cases c : 1 ≤ ds.length
      · rw [decide_eq_true (show (1 : Int) ≤ (ds.length : Int) by omega)]
        refine ⟨_, _, rfl, rfl, _, rfl, ?_⟩
        show if (!decide ((ds.length : Int) ≤ 4)) = true then _ else _
        by_cases c2 : ds.length ≤ 4
        · rw [decide_eq_true (show (ds.length : Int) ≤ 4 by omega)]
          refine iteF ?_
          rw [decide_eq_true c, decide_eq_true c2] at q
          refine ⟨_, rfl, a, rfl, ⟨xs, SqT.of h⟩, fun D hD => ?_⟩
          refine lc_it (walk_tup (K := K) (a := a) (xs := xs)) (fun i H' => Same H H' ∧ H' D = some (.lst (((ds.take i).map termD).map V.bl))) ⟨Gx.sameU hD, upd_same⟩ (fun i H' _ h' => .inl (.inl (h'.1 _ _ h))) (fun i v H1 H2 hi h' Y => ?_) fun H1 h' => ?_
          · obtain ⟨s3, hl3⟩ := h'
            obtain ⟨rfl, he⟩ := Y
            obtain ⟨d, hd, t⟩ := r.get he
            refine ⟨rfl, _, rfl, p, v, d, rfl, t.kp (Gx.Kp.of s3), _, hl3, ?_, ?_, ?_⟩
            · rw [List.length_map, List.length_map, List.length_take]
              exact Nat.lt_of_le_of_lt (show _ ≤ 100 by omega) (by decide)
            · intro b o e
              by_cases cb : b = D
              · subst cb
                rw [hD] at e
                cases e
              · rw [upd_ne cb]
                exact s3 b o e
            · rw [upd_same, List.take_add_one, hd]
              simp
          · obtain ⟨s3, hl3⟩ := h'
            refine ⟨D, ds.map termD, rfl, SqL.of ?_, ?_⟩
            · rw [hl3, r.len, List.take_length]
            · rw [List.all_map]
              exact q _ s3
        · rw [decide_eq_false (show ¬ (ds.length : Int) ≤ 4 by omega)]
          rw [decide_eq_false c2, Bool.false_and, Bool.and_false] at q
          exact iteT (q H (Same.refl H))
      · rw [decide_eq_false (show ¬ (1 : Int) ≤ (ds.length : Int) by omega)]
        rw [decide_eq_false c, Bool.false_and] at q
        exact ⟨_, rfl, iteT (q H (Same.refl H))⟩
    | int i => exact iteT (q H (Same.refl H))
    | bl i => exact iteT (q H (Same.refl H))
    | non => exact iteT (q H (Same.refl H))
    | lst => exact iteT (q H (Same.refl H))
    | str => exact iteT (q H (Same.refl H))
    | nil => exact iteT (q H (Same.refl H))
    | one => exact iteT (q H (Same.refl H))
end
end My
namespace My
open PySem PySem.Spec PyProof.Rows L2
section
variable {P : Program} {w : World} {K : PySem.W.Frag} {mg : Str → Option Value} {base : Heap}
theorem strD_isD (d : PyData) : Gx.isD "str" d = strD d := by cases d <;> rfl
theorem litD_len {ds : List PyData} (h : ds.length ≠ 3) : litD (.tuple ds) = false := by
  match ds, h with
  | [], _ => rfl
  | [_], _ => rfl
  | [_, _], _ => rfl
  | [_, _, _], h => exact absurd rfl h
  | _ :: _ :: _ :: _ :: _, _ => rfl
theorem p_is_literal (T : Mo K mg) : Gx.Pr P w K mg base CX0 5 "is_literal" s_is_literal ["value"] (sp1G litD) := by
  refine T.d_is_literal.ok sc_is_literal (fun vs H Q E h => ?_) (fun f cdv A outer s H vs Q E hr h => ?_)
  · obtain ⟨p, x, d, rfl, _⟩ := h
    rfl
  · obtain ⟨p, x, d, rfl, t, q⟩ := h
    refine ⟨_, (pss_cons (ps_if (PW.pt (pw_or (pt_not (pt_val (pe_callB call_isi (by rfl) T.b_isinstance (by decide +kernel) (pa_cons (pv 0) (pa_cons (pe_bltn (v := .ty "tuple") rfl T.b_tuple (by decide +kernel) rfl) pa_nil))))) (pw_or1 (pt_cmpR op_ne (pe_callB call_len_seq (by rfl) T.b_len (by decide +kernel) (pa_cons (pv 0) pa_nil)) pe_int (nomark _))))) (pss_one (ps_ret pe_bl)) pss_nil)
      (pss_cons (ps_asg (pv 0) (pg_tup rfl (pgs_cons (pg_name (i := 1) sc_is_literal.nd rfl (Or.inl rfl)) (pgs_cons (pg_name (i := 2) sc_is_literal.nd rfl (Or.inl rfl)) (pgs_cons (pg_name (i := 3) sc_is_literal.nd rfl (Or.inl rfl)) pgs_nil)))))
      (pss_cons (ps_if (pt_not (pt_val (pe_callB call_isi (by rfl) T.b_isinstance (by decide +kernel) (pa_cons (pv 1) (pa_cons (pe_bltn (v := .ty "str") rfl T.b_str (by decide +kernel) rfl) pa_nil))))) (pss_one (ps_ret pe_bl)) pss_nil)
      (pss_cons (ps_if (pt_cmpR op_in_seq (pv 1) (Gx.pe_k rfl T.g_ROW_KINDS.known) (by rfl)) (pss_one (ps_ret (pe_and (Gx.pe_pos (p_is_name T) hr (by decide) (by rfl) b_is_name pass0 (pa_cons (pv 2) pa_nil)) (pe_one (Gx.pe_pos (p_are_terms T) hr (by decide) (by rfl) b_are_terms pass0 (pa_cons (pv 3) pa_nil)))))) pss_nil)
      (pss_cons (ps_if (PW.pt (pw_or (pt_cmpR op_notIn_seq (pv 1) (Gx.pe_k rfl T.g_SIGNS.known) (by rfl)) (pw_or (pt_not (pt_val (Gx.pe_pos (p_is_term T) hr (by decide) (by rfl) b_is_term pass0 (pa_cons (pv 2) pa_nil)))) (pw_or1 (pt_not (pt_val (Gx.pe_pos (p_is_term T) hr (by decide) (by rfl) b_is_term pass0 (pa_cons (pv 3) pa_nil)))))))) (pss_one (ps_ret pe_bl)) pss_nil)
      (pss_one (ps_ret (pe_or (pe_callB call_isi (by rfl) T.b_isinstance (by decide +kernel) (pa_cons (pv 2) (pa_cons (pe_bltn (v := .ty "str") rfl T.b_str (by decide +kernel) rfl) pa_nil))) (pe_one (pe_callB call_isi (by rfl) T.b_isinstance (by decide +kernel) (pa_cons (pv 3) (pa_cons (pe_bltn (v := .ty "str") rfl T.b_str (by decide +kernel) rfl) pa_nil)))))))))))), ?_⟩
    refine ⟨x, rfl, x, .ty "tuple", _, _, _, rfl, .ty _, t.ty, Gx.kit_D (by simp), _, rfl, ?_⟩
    cases t with
    | @tup a xs ds n h r =>
      refine iteF ?_
      refine ⟨_, rfl, a, xs, rfl, .inr (SqT.of h), rfl, _, rfl, ?_⟩
      by_cases c : ds.length = 3
      · have cx : xs.length = 3 := by rw [r.len, c]
        match ds, xs, r with
        | [k, b, o], [vk, vb, vo], .cons tk (.cons tb (.cons to_ .nil)) =>
        refine iteF ?_
        have q : ∀ H', Same H H' → Q (.bl (if rowW k then nameD b && termsD o else signW k && (termD b && (termD o && (strD b || strD o))))) H' := q
        refine ⟨_, rfl, a, [vk, vb, vo], rfl, SqT.of h, rfl, vk, _, rfl, vb, _, rfl, vo, _, rfl, rfl, ?_⟩
        refine ⟨vk, rfl, vk, .ty "str", _, _, _, rfl, .ty _, tk.ty, Gx.kit_D (by simp), _, rfl, ?_⟩
        cases tk with
        | str z hz ha =>
          refine iteF ?_
          refine ⟨_, rfl, _, _, rfl, .inr (T.g_ROW_KINDS.t H), rfl, rfl, _, rfl, ?_⟩
          have e1 : rowW (.str z) = inV (.str z) ([("row" : Str), "none"].map V.str) := by
            rw [in_strs]
            simp [rowW]
          show if inV (.str z) ([("row" : Str), "none"].map V.str) = true then _ else _
          rw [← e1]
          cases c1 : rowW (.str z) with
          | true =>
            rw [c1] at q
            have q : ∀ H', Same H H' → Q (.bl (nameD b && termsD o)) H' := q
            refine ⟨vb, rfl, p, vb, b, rfl, tb, _, rfl, ?_⟩
            cases c2 : nameD b with
            | false =>
              rw [c2] at q
              exact q H (Same.refl H)
            | true =>
              rw [c2] at q
              exact ⟨vo, rfl, p, vo, o, rfl, to_, q⟩
          | false =>
            rw [c1] at q
            have q : ∀ H', Same H H' → Q (.bl (signW (.str z) && (termD b && (termD o && (strD b || strD o))))) H' := q
            refine ⟨_, rfl, _, _, rfl, .inr (T.g_SIGNS.t H), rfl, rfl, _, rfl, ?_⟩
            have e2 : signW (.str z) = inV (.str z) ([("<" : Str), "<=", "=", "!="].map V.str) := by
              rw [in_strs]
              simp [signW]
            show if (!inV (.str z) ([("<" : Str), "<=", "=", "!="].map V.str)) = true then _ else _
            rw [← e2]
            cases c2 : signW (.str z) with
            | false =>
              rw [c2] at q
              exact iteT (iteT (q H (Same.refl H)))
            | true =>
              rw [c2] at q
              refine iteF ⟨vb, rfl, p, vb, b, rfl, tb, _, rfl, ?_⟩
              show if (!termD b) = true then _ else _
              cases c3 : termD b with
              | false =>
                rw [c3] at q
                exact iteT (iteT (q H (Same.refl H)))
              | true =>
                rw [c3] at q
                refine iteF ⟨vo, rfl, p, vo, o, rfl, to_, _, rfl, ?_⟩
                show if (!termD o) = true then _ else _
                cases c4 : termD o with
                | false =>
                  rw [c4] at q
                  exact iteT (q H (Same.refl H))
                | true =>
                  rw [c4] at q
                  have q : ∀ H', Same H H' → Q (.bl (strD b || strD o)) H' := q
                  refine iteF ?_
                  refine ⟨vb, rfl, vb, .ty "str", _, _, _, rfl, .ty _, tb.ty, Gx.kit_D (by simp), _, rfl, ?_⟩
                  rw [strD_isD]
                  cases c5 : strD b with
                  | true =>
                    rw [c5] at q
                    exact q H (Same.refl H)
                  | false =>
                    rw [c5] at q
                    refine ⟨vo, rfl, vo, .ty "str", _, _, _, rfl, .ty _, to_.ty, Gx.kit_D (by simp), ?_⟩
                    rw [strD_isD]
                    exact q H (Same.refl H)
        | int i => exact iteT (q H (Same.refl H))
        | bl i => exact iteT (q H (Same.refl H))
        | non => exact iteT (q H (Same.refl H))
        | lst => exact iteT (q H (Same.refl H))
        | tup => exact iteT (q H (Same.refl H))
        | nil => exact iteT (q H (Same.refl H))
        | one => exact iteT (q H (Same.refl H))
      · rw [r.len, decide_eq_false (show ¬ V.int (ds.length : Int) = V.int 3 from fun e => c (by injection e; omega))]
        rw [litD_len c] at q
        exact iteT (q H (Same.refl H))
    | int i => exact iteT (q H (Same.refl H))
    | bl i => exact iteT (q H (Same.refl H))
    | non => exact iteT (q H (Same.refl H))
    | lst => exact iteT (q H (Same.refl H))
    | str => exact iteT (q H (Same.refl H))
    | nil => exact iteT (q H (Same.refl H))
    | one => exact iteT (q H (Same.refl H))
end
end My
namespace My
open PySem PySem.Spec PyProof.Rows L2
/-! ### the variables of literals -/
def termsOf : PyData → List PyData
  | .tuple [k, b, o] => if rowW k then (match o with
    | .tuple es => es
    | _ => []) else [b, o]
  | _ => []
def addS (acc : List Str) : PyData → List Str
  | .str z => if z ∈ acc then acc else acc ++ [z]
  | _ => acc
def foS (acc : List Str) (ts : List PyData) : List Str := ts.foldl addS acc
def varsD (ds : List PyData) : List Str := ds.foldl (fun acc d => foS acc (termsOf d)) []
theorem addS_len (acc : List Str) (t : PyData) : (addS acc t).length ≤ acc.length + 1 := by
  cases t with
  | str z =>
    simp only [addS]
    split
    · omega
    · simp
  | _ => simp [addS]
theorem foS_len : ∀ (ts : List PyData) (acc : List Str), (foS acc ts).length ≤ acc.length + ts.length
  | [], acc => by simp [foS]
  | t :: r, acc => by
    have h := foS_len r (addS acc t)
    have h2 := addS_len acc t
    show (foS (addS acc t) r).length ≤ _
    simp only [List.length_cons]
    omega
theorem foS_take {ts : List PyData} {i : Nat} {t : PyData} (acc : List Str) (h : ts[i]? = some t) : foS acc (ts.take (i + 1)) = addS (foS acc (ts.take i)) t := by
  rw [List.take_add_one, h]
  simp [foS]
theorem lit_inv {d : PyData} (h : litD d = true) : ∃ k b o, d = .tuple [k, b, o] ∧ strD k = true ∧ (termsOf d).length ≤ 4 ∧ (∀ t ∈ termsOf d, termD t = true) ∧ (rowW k = true → ∃ es, o = .tuple es ∧ termsOf d = es) ∧ (rowW k = false → termsOf d = [b, o]) := by
  match d, h with
  | .tuple [k, b, o], h =>
    refine ⟨k, b, o, rfl, ?_⟩
    simp only [litD] at h
    cases c : rowW k with
    | true =>
      rw [c, if_pos rfl, Bool.and_eq_true] at h
      have hk : strD k = true := by
        cases k <;> first | rfl | cases c
      obtain ⟨_, h2⟩ := h
      cases o with
      | tuple es =>
        simp only [termsD, Bool.and_eq_true, decide_eq_true_eq, List.all_eq_true] at h2
        refine ⟨hk, ?_, ?_, fun _ => ⟨es, rfl, ?_⟩, (fun e => by cases e)⟩
        · simp only [termsOf, c, if_true]
          exact h2.2.1
        · simp only [termsOf, c, if_true]
          exact h2.2.2
        · simp only [termsOf, c, if_true]
      | _ => cases h2
    | false =>
      rw [c, if_neg (by simp)] at h
      simp only [Bool.and_eq_true] at h
      obtain ⟨h1, h2, h3, _⟩ := h
      have hk : strD k = true := by
        cases k <;> first | rfl | cases h1
      refine ⟨hk, ?_, ?_, (fun e => by cases e), fun _ => ?_⟩
      · simp [termsOf, c]
      · simp only [termsOf, c]
        intro t ht
        have : t = b ∨ t = o := by simpa using ht
        rcases this with e | e
        · rw [e]; exact h2
        · rw [e]; exact h3
      · simp [termsOf, c]
section
variable {P : Program} {w : World} {K : PySem.W.Frag} {mg : Str → Option Value} {base : Heap}
def spTO : Sp := fun vs H Q _ => ∃ p x d, vs = [x] ∧ Gx.Dat p H x d ∧ litD d = true ∧ ∀ t us H', Same H H' → H' t = some (.tup us) → Gx.DatL p H' us (termsOf d) → Q (.ref t) H'
theorem p_terms_of (T : Mo K mg) : Gx.Pr P w K mg base CX0 1 "terms_of" s_terms_of ["literal"] spTO := by
  refine T.d_terms_of.ok sc_terms_of (fun vs H Q E h => ?_) (fun f cdv A outer s H vs Q E hr h => ?_)
  · obtain ⟨p, x, d, rfl, _⟩ := h
    rfl
  · obtain ⟨p, x, d, rfl, t, hl, q⟩ := h
    obtain ⟨k, b, o, rfl, hk, _, _, h1, h2⟩ := lit_inv hl
    refine ⟨_, (pss_one (ps_ret (pe_ifExp (pt_cmpR op_in_seq (pe_ix ix_tup (pv 0) pe_int (fun _ _ => rfl)) (Gx.pe_k rfl T.g_ROW_KINDS.known) (by rfl)) (pe_ix ix_tup (pv 0) pe_int (fun _ _ => rfl)) (pe_slice sl_tup (pv 0) (po_some pe_int) po_none)))), ?_⟩
    cases t with
    | @tup a xs _ n h r =>
      match xs, r with
      | [vk, vb, vo], .cons tk (.cons tb (.cons to_ .nil)) =>
      cases tk with
      | str z hz ha =>
        refine ⟨_, rfl, a, _, 0, _, rfl, rfl, SqT.of h, rfl, _, _, rfl, .inr (T.g_ROW_KINDS.t H), rfl, rfl, _, rfl, ?_⟩
        have e1 : rowW (.str z) = inV (.str z) ([("row" : Str), "none"].map V.str) := by
          rw [in_strs]
          simp [rowW]
        show if inV (.str z) ([("row" : Str), "none"].map V.str) = true then _ else _
        rw [← e1]
        cases c1 : rowW (.str z) with
        | true =>
          obtain ⟨es, rfl, e2⟩ := h1 c1
          rw [e2] at q
          cases to_ with
          | @tup t us _ n2 h2' r2 => exact ⟨_, rfl, a, _, 2, _, rfl, rfl, SqT.of h, rfl, q t us H (Same.refl H) h2' r2⟩
        | false =>
          rw [h2 c1] at q
          refine ⟨_, rfl, _, rfl, a, _, rfl, SqT.of h, (fun e => absurd (show HT.sIx 3 0 (some 1) = 0 from e.1) (by decide)), fun t ht => ?_⟩
          have s1 : Same H (L2.upd H t (.tup [vb, vo])) := Gx.sameU ht
          exact q t [vb, vo] _ s1 upd_same (.cons (tb.kp (Gx.Kp.of s1)) (.cons (to_.kp (Gx.Kp.of s1)) .nil))
      | _ => cases hk
/-- the variables of right literals: a new tuple -/
def spVO : Sp := fun vs H Q _ => ∃ p a xs ds, vs = [.ref a] ∧ (H a = some (.lst xs) ∨ H a = some (.tup xs)) ∧ Gx.DatL p H xs ds ∧ ds.length ≤ 8 ∧ (∀ d ∈ ds, litD d = true) ∧ ∀ t H', Same H H' → H t = none → H' t = some (.tup ((varsD ds).map V.str)) → Q (.ref t) H'
theorem vars_take {ds : List PyData} {i : Nat} {d : PyData} (h : ds[i]? = some d) : varsD (ds.take (i + 1)) = foS (varsD (ds.take i)) (termsOf d) := by
  rw [List.take_add_one, h]
  simp [varsD]
theorem vars_len0 : ∀ (ds : List PyData) (acc : List Str), (∀ d ∈ ds, litD d = true) → (ds.foldl (fun acc d => foS acc (termsOf d)) acc).length ≤ acc.length + 4 * ds.length
  | [], acc, _ => by simp
  | d :: r, acc, h => by
    obtain ⟨_, _, _, _, _, h2, _⟩ := lit_inv (h d (by simp))
    have h3 := foS_len (termsOf d) acc
    have h4 := vars_len0 r (foS acc (termsOf d)) fun e he => h e (List.mem_cons_of_mem _ he)
    simp only [List.foldl_cons, List.length_cons]
    omega
theorem vars_len {ds : List PyData} (h : ∀ d ∈ ds, litD d = true) : (varsD ds).length ≤ 4 * ds.length := by
  have := vars_len0 ds [] h
  simpa [varsD] using this
/-- a list or tuple that is walked, with a new object beside it -/
theorem wk_upd {K : PySem.W.Frag} {a D : Addr} {xs : List V} {H : Hp} {o : HO} {J : It} (h : Gx.Wk K a xs (L2.upd H D o) J) (ne : a ≠ D) : ∃ G, Walk J xs.length G (YAt xs) ∧ ∀ H', Same H H' → G H' := by
  rcases h with ⟨rfl, hs⟩ | ⟨rfl, hs⟩
  · refine ⟨_, walk_list (K := K) (a := a) (xs := xs), fun H' s => ?_⟩
    rcases hs with (hs | ⟨o, hs⟩) | hs
    · rw [upd_ne ne] at hs
      exact .inl (.inl (s _ _ hs))
    · rw [upd_ne ne] at hs
      exact .inl (.inr ⟨o, s _ _ hs⟩)
    · exact .inr hs
  · refine ⟨_, walk_tup (K := K) (a := a) (xs := xs), fun H' s => ?_⟩
    rcases hs with (hs | ⟨o, hs⟩) | hs
    · rw [upd_ne ne] at hs
      exact .inl (.inl (s _ _ hs))
    · rw [upd_ne ne] at hs
      exact .inl (.inr ⟨o, s _ _ hs⟩)
    · exact .inr hs
theorem flat_strs (l : List Str) : (l.map V.str).all flatV = true := by
  rw [List.all_map, List.all_eq_true]
  intro x _
  rfl
theorem p_variables_of (T : Mo K mg) : Gx.Pr P w K mg base CX0 2 "variables_of" s_variables_of ["literals"] spVO := by
  refine T.d_variables_of.ok sc_variables_of (fun vs H Q E h => ?_) (fun f cdv A outer s H vs Q E hr h => ?_)
  · obtain ⟨p, a, xs, ds, rfl, _⟩ := h
    rfl
  · obtain ⟨p, a, xs, ds, rfl, hs, r, hn, good, q⟩ := h
    refine ⟨_, (pss_cons (ps_set (i := 1) sc_variables_of.nd rfl (Or.inl rfl) (pe_lst pa_nil))
      (pss_cons (ps_for PassesOwn.never rfl (Gx.pi_seq (pv 0)) (pg_name (i := 2) sc_variables_of.nd rfl (Or.inl rfl)) (pss_one (ps_for PassesOwn.never rfl (pi_tup (Gx.pe_pos (p_terms_of T) hr (by decide) (by rfl) b_terms_of pass0 (pa_cons (pv 2) pa_nil))) (pg_name (i := 3) sc_variables_of.nd rfl (Or.inl rfl)) (pss_one (ps_if (PW.pt (pw_and (pt_val (pe_callB call_isi (by rfl) T.b_isinstance (by decide +kernel) (pa_cons (pv 3) (pa_cons (pe_bltn (v := .ty "str") rfl T.b_str (by decide +kernel) rfl) pa_nil)))) (pw_and1 (pt_cmpR op_notIn_seq (pv 3) (pv 1) (by rfl))))) (pss_one (ps_expr (pe_bm PySem.F.plainAttrs_list PySem.F.slot_list_append PySem.F.type_list_append mt_append (pv 1) (pa_cons (pv 3) pa_nil)))) pss_nil)))))
      (pss_one (ps_ret (pe_callTy call_tuple_of (by rfl) T.b_tuple (by decide +kernel) (pa_cons (pv 1) pa_nil)))))), ?_⟩
    refine ⟨by show 0 ≤ sizeLine; decide, fun D hD => ?_⟩
    have s0 : Same H (L2.upd H D (.lst [])) := Gx.sameU hD
    have ne : a ≠ D := fun e => by
      rw [e, hD] at hs
      rcases hs with e | e <;> cases e
    have hs1 : SqL K (L2.upd H D (.lst [])) a xs ∨ SqT K (L2.upd H D (.lst [])) a xs := by
      rcases hs with e | e
      · exact .inl (SqL.of (s0 _ _ e))
      · exact .inr (SqT.of (s0 _ _ e))
    refine ⟨_, rfl, a, xs, rfl, hs1, fun J hJ => ?_⟩
    obtain ⟨G, wk, mono⟩ := wk_upd hJ ne
    refine for_it wk (fun i σ H' => Same H H' ∧ H' D = some (.lst ((varsD (ds.take i)).map V.str)) ∧ ∃ l t, σ = [some (.ref a), some (.ref D), l, t]) ⟨s0, upd_same, _, _, rfl⟩ (fun i σ H' _ h => mono H' h.1) (fun i v σ H1 H2 hi h Y => ?_) fun σ H1 h => ?_
    · obtain ⟨s1, hD1, l, t, rfl⟩ := h
      obtain ⟨rfl, hv⟩ := Y
      obtain ⟨d, hd, tv⟩ := r.get hv
      have gd := good d (List.mem_of_getElem? hd)
      obtain ⟨_, _, _, _, _, l4, tms, _⟩ := lit_inv gd
      have vl := vars_len (ds := ds.take i) fun e he => good e (List.mem_of_mem_take he)
      refine ⟨_, rfl, p, v, d, rfl, tv.kp (Gx.Kp.of s1), gd, fun q1 us H3 s3 h3 r3 => ?_⟩
      have hD3 := s3 _ _ hD1
      have neD : q1 ≠ D := fun e => by
        rw [e, hD3] at h3
        cases h3
      refine ⟨q1, rfl, ⟨us, SqT.of h3⟩, ?_⟩
      refine for_it (walk_tup (K := K) (a := q1) (xs := us)) (fun j σ H' => Same H H' ∧ H' q1 = some (.tup us) ∧ H' D = some (.lst ((foS (varsD (ds.take i)) ((termsOf d).take j)).map V.str)) ∧ ∃ u, σ = [some (.ref a), some (.ref D), some v, u]) ⟨s1.trans s3, h3, hD3, _, rfl⟩ (fun j σ H' _ h => SqT.of h.2.1) (fun j y σ H4 H5 hj h Y => ?_) fun σ H4 h => ?_
      · obtain ⟨s4, h4, hD4, u, rfl⟩ := h
        obtain ⟨rfl, hy⟩ := Y
        obtain ⟨e, he, te⟩ := r3.get hy
        have ge := tms e (List.mem_of_getElem? he)
        have ft := foS_take (varsD (ds.take i)) he
        have bl : (foS (varsD (ds.take i)) ((termsOf d).take j)).length < sizeLine := by
          have := foS_len ((termsOf d).take j) (varsD (ds.take i))
          rw [List.length_take] at *
          exact Nat.lt_of_le_of_lt (show _ ≤ 100 by omega) (by decide)
        cases te with
        | str z hz ha =>
          refine ⟨_, rfl, .str z, .ty "str", _, _, _, rfl, .ty _, (Gx.DatN.str (N := fun a => a ≠ p) z hz ha).ty, Gx.kit_D (by simp), _, rfl, ?_⟩
          refine ⟨_, rfl, _, rfl, D, _, rfl, .inl (SqL.of hD4), rfl, flat_strs _, _, rfl, ?_⟩
          show if (!inV (.str z) ((foS (varsD (ds.take i)) ((termsOf d).take j)).map V.str)) = true then _ else _
          rw [in_strs]
          by_cases c : z ∈ foS (varsD (ds.take i)) ((termsOf d).take j)
          · rw [show ((foS (varsD (ds.take i)) ((termsOf d).take j)).any fun y => decide (z = y)) = true from List.any_eq_true.mpr ⟨z, c, by simp⟩]
            refine iteF ⟨s4, h4, ?_, _, rfl⟩
            rw [hD4, ft]
            simp [addS, c]
          · rw [show ((foS (varsD (ds.take i)) ((termsOf d).take j)).any fun y => decide (z = y)) = false from List.any_eq_false.mpr fun y hy => by
              simp only [decide_eq_true_eq]
              exact fun e => c (e ▸ hy)]
            refine iteT ⟨_, rfl, .inl ⟨rfl, _, SqL.of hD4⟩, _, rfl, D, _, _, rfl, rfl, hD4, by rw [List.length_map]; exact bl, ?_⟩
            refine ⟨fun b o e => ?_, ?_, ?_, _, rfl⟩
            · rw [upd_ne (ne_of_none e hD)]
              exact s4 b o e
            · rw [upd_ne neD]
              exact h4
            · rw [upd_same, ft]
              simp [addS, c]
        | int n hn =>
          refine ⟨_, rfl, .int n, .ty "str", _, _, _, rfl, .ty _, (Gx.DatN.int (N := fun a => a ≠ p) n hn).ty, Gx.kit_D (by simp), _, rfl, ?_⟩
          refine iteF (iteF ⟨s4, h4, ?_, _, rfl⟩)
          rw [hD4, ft]
          rfl
        | _ => cases ge
      · obtain ⟨s4, h4, hD4, u, rfl⟩ := h
        refine ⟨s4, ?_, _, _, rfl⟩
        rw [hD4, vars_take hd, r3.len, List.take_length]
    · obtain ⟨s1, hD1, l, t, rfl⟩ := h
      rw [r.len, List.take_length] at hD1
      refine ⟨_, rfl, D, _, rfl, .inl ⟨SqL.of hD1, fun t ht => ?_⟩⟩
      have s2 : Same H1 (L2.upd H1 t (.tup ((varsD ds).map V.str))) := Gx.sameU ht
      exact q t _ (s1.trans s2) (by
        cases e : H t with
        | none => rfl
        | some o => rw [s1 _ _ e] at ht; cases ht) upd_same
end
end My
namespace My
open PySem PySem.Spec PyProof.Rows L2
/-! ### sorted texts -/
theorem rising_all : ∀ (l : List Str) (p : Str), PyProof.Rows.risingS p l = true → (∀ x ∈ l, p.cps.toList ≤ x.cps.toList) ∧ PyProof.Rows.sortedS l = true
  | [], p, _ => ⟨fun _ h => (by cases h), rfl⟩
  | x :: r, p, h => by
    have h1 : (!ltCps x.cps.toList p.cps.toList && PyProof.Rows.risingS x r) = true := h
    rw [Bool.and_eq_true, Bool.not_eq_true', ltCps_eq, decide_eq_false_iff_not] at h1
    obtain ⟨h2, h3⟩ := rising_all r x h1.2
    have hp : p.cps.toList ≤ x.cps.toList := h1.1
    refine ⟨fun y hy => ?_, h1.2⟩
    rcases List.mem_cons.mp hy with rfl | hy
    · exact hp
    · exact List.le_trans hp (h2 y hy)
theorem sorted_head {a : Str} {r : List Str} (h : PyProof.Rows.sortedS (a :: r) = true) : (∀ x ∈ r, a.cps.toList ≤ x.cps.toList) ∧ PyProof.Rows.sortedS r = true := rising_all r a h
theorem str_ext {a b : Str} (h : a.cps.toList = b.cps.toList) : a = b := by
  obtain ⟨a⟩ := a
  obtain ⟨b⟩ := b
  exact congrArg Str.mk (Array.toList_inj.mp h)
theorem sorted_one : ∀ {a b : List Str}, a.Perm b → PyProof.Rows.sortedS a = true → PyProof.Rows.sortedS b = true → a = b
  | [], b, p, _, _ => (List.nil_perm.mp p).symm ▸ rfl
  | x :: r, [], p, _, _ => absurd (List.perm_nil.mp p) (by simp)
  | x :: r, y :: t, p, ha, hb => by
    obtain ⟨a1, a2⟩ := sorted_head ha
    obtain ⟨b1, b2⟩ := sorted_head hb
    have e : x = y := by
      have hx : x ∈ y :: t := p.mem_iff.mp (by simp)
      have hy : y ∈ x :: r := p.mem_iff.mpr (by simp)
      rcases List.mem_cons.mp hx with h | h
      · exact h
      · rcases List.mem_cons.mp hy with h' | h'
        · exact h'.symm
        · exact str_ext (List.le_antisymm (a1 y h') (b1 x h))
    subst e
    rw [sorted_one (List.Perm.cons_inv p) a2 b2]
/-! ### orders -/
def isS (z : Str) : PyData → Bool
  | .str y => decide (y = z)
  | _ => false
/-- d is an order of these names -/
def orderD (d : PyData) (names : List Str) : Bool := match d with
  | .tuple ds => decide (ds.length = names.length) && names.all fun z => ds.any (isS z)
  | _ => false
theorem isS_iff {z : Str} {d : PyData} : isS z d = true ↔ d = .str z := by
  cases d with
  | str y => simp [isS]
  | _ => simp [isS]
theorem perm_all {α : Type} [DecidableEq α] : ∀ {names l : List α}, names.Nodup → l.length = names.length → (∀ z ∈ names, z ∈ l) → l.Perm names
  | [], l, _, hl, _ => by
    rw [List.length_nil] at hl
    rw [List.eq_nil_of_length_eq_zero hl]
  | z :: r, l, nd, hl, h => by
    have hz := h z (by simp)
    have p := List.perm_cons_erase hz
    have nd' := List.nodup_cons.mp nd
    refine p.trans (List.Perm.cons z (perm_all nd'.2 ?_ fun y hy => ?_))
    · rw [List.length_erase_of_mem hz, hl]
      rfl
    · exact (List.mem_erase_of_ne (fun e : y = z => nd'.1 (by rw [← e]; exact hy))).mpr (h y (List.mem_cons_of_mem _ hy))
theorem order_strs {ws names : List Str} (nd : names.Nodup) : orderD (.tuple (ws.map .str)) names = decide (ws.Perm names) := by
  rw [Bool.eq_iff_iff, decide_eq_true_eq]
  simp only [orderD, Bool.and_eq_true, decide_eq_true_eq, List.all_eq_true, List.any_eq_true, List.length_map]
  constructor
  · rintro ⟨h1, h2⟩
    refine perm_all nd h1 fun z hz => ?_
    obtain ⟨d, hd, e⟩ := h2 z hz
    obtain ⟨y, hy, rfl⟩ := List.mem_map.mp hd
    have := isS_iff.mp e
    injection this with this
    exact this ▸ hy
  · intro p
    exact ⟨p.length_eq, fun z hz => ⟨.str z, List.mem_map.mpr ⟨z, p.mem_iff.mpr hz, rfl⟩, isS_iff.mpr rfl⟩⟩
theorem order_perm {ds : List PyData} {names : List Str} (nd : names.Nodup) (h : orderD (.tuple ds) names = true) : ds.Perm (names.map .str) := by
  simp only [orderD, Bool.and_eq_true, decide_eq_true_eq, List.all_eq_true, List.any_eq_true] at h
  obtain ⟨h1, h2⟩ := h
  haveI : DecidableEq PyData := fun a b => Classical.propDecidable (a = b)
  refine perm_all ?_ (by rw [h1, List.length_map]) fun d hd => ?_
  · exact List.Pairwise.map _ (fun a b e z => e (by injection z)) nd
  · obtain ⟨z, hz, rfl⟩ := List.mem_map.mp hd
    obtain ⟨d, hd, e⟩ := h2 z hz
    rw [isS_iff.mp e] at hd
    exact hd
theorem order_not {ds : List PyData} {names : List Str} (nd : names.Nodup) (h : ds.all strD = false) : orderD (.tuple ds) names = false := by
  cases c : orderD (.tuple ds) names with
  | false => rfl
  | true =>
    have p := order_perm nd c
    have : ds.all strD = true := List.all_eq_true.mpr fun d hd => by
      obtain ⟨z, _, rfl⟩ := List.mem_map.mp (p.mem_iff.mp hd)
      rfl
    rw [this] at h
    cases h
theorem addS_nodup {acc : List Str} (nd : acc.Nodup) (t : PyData) : (addS acc t).Nodup := by
  cases t with
  | str z =>
    simp only [addS]
    split
    · exact nd
    · rename_i c
      rw [List.nodup_append]
      refine ⟨nd, by simp, fun a ha b hb => ?_⟩
      rw [List.mem_singleton.mp hb]
      exact fun e => c (e ▸ ha)
  | _ => exact nd
theorem foS_nodup : ∀ (ts : List PyData) {acc : List Str}, acc.Nodup → (foS acc ts).Nodup
  | [], _, nd => nd
  | t :: r, _, nd => foS_nodup r (addS_nodup nd t)
theorem vars_nodup0 : ∀ (ds : List PyData) (acc : List Str), acc.Nodup → (ds.foldl (fun acc d => foS acc (termsOf d)) acc).Nodup
  | [], _, nd => nd
  | d :: r, acc, nd => vars_nodup0 r _ (foS_nodup (termsOf d) nd)
theorem vars_nodup (ds : List PyData) : (varsD ds).Nodup := vars_nodup0 ds [] List.nodup_nil
theorem eqv_strs : ∀ (a b : List Str), PyData.eqvAll (a.map .str) (b.map .str) = decide (a = b)
  | [], [] => by simp [PyData.eqvAll]
  | [], _ :: _ => by simp [PyData.eqvAll]
  | _ :: _, [] => by simp [PyData.eqvAll]
  | x :: r, y :: t => by
    simp only [List.map_cons, PyData.eqvAll, PyData.eqv, eqv_strs r t]
    rw [Bool.eq_iff_iff]
    simp
/-- two sorted lists of texts are equal just if one is the other's permutation -/
theorem sorted_eq {a b ys zs : List Str} (pa : ys.Perm a) (pb : zs.Perm b) (sa : PyProof.Rows.sortedS ys = true) (sb : PyProof.Rows.sortedS zs = true) : decide (ys = zs) = decide (a.Perm b) := by
  rw [Bool.eq_iff_iff, decide_eq_true_eq, decide_eq_true_eq]
  constructor
  · rintro rfl
    exact pa.symm.trans pb
  · intro p
    exact sorted_one (pa.trans (p.trans pb.symm)) sa sb
/-- a text of a few signs below 128 -/
def okZ (z : Str) : Prop := z.length ≤ 100 ∧ ∀ c ∈ z.cps.toList, c < 128
theorem okZ.ok {z : Str} (h : okZ z) : PyData.strOk z = true := by
  unfold PyData.strOk
  rw [← Array.all_toList, List.all_eq_true]
  exact fun c hc => decide_eq_true (Nat.lt_trans (h.2 c hc) (by decide))
theorem dpStrs {K : PySem.W.Frag} {H : Hp} : ∀ l : List Str, DpAll K H (l.map V.str) (l.map PyData.str)
  | [] => .nil
  | x :: l => .cons (.str x) (dpStrs l)
theorem strs_ok : ∀ l : List Str, (∀ x ∈ l, PyData.strOk x = true) → PyData.canLayAll0 (l.map PyData.str) = true
  | [], _ => by simp [PyData.canLayAll0]
  | x :: l, h => by
    simp only [List.map_cons, PyData.canLayAll0, PyData.canLay0, Bool.and_eq_true]
    exact ⟨h x List.mem_cons_self, strs_ok l fun y hy => h y (List.mem_cons_of_mem _ hy)⟩
theorem strs_depth : ∀ l : List Str, PyData.depthAll (l.map PyData.str) = 0
  | [] => by simp [PyData.depthAll]
  | x :: l => by simp [PyData.depthAll, PyData.depth, strs_depth l]
theorem strs_shaped (l : List Str) (h : ∀ x ∈ l, PyData.strOk x = true) : SeqAt.shaped (.list (l.map PyData.str)) = true := by
  unfold SeqAt.shaped
  simp only [PyData.canLay0, PyData.depth, strs_ok l h, strs_depth, Bool.true_and]
  decide
section
variable {P : Program} {w : World} {K : PySem.W.Frag} {mg : Str → Option Value} {base : Heap}
theorem dat_strs {p : Addr} {H : Hp} : ∀ {xs : List V} {ds : List PyData}, Gx.DatL p H xs ds → ds.all strD = true → ∃ ws : List Str, xs = ws.map V.str ∧ ds = ws.map .str ∧ ∀ z ∈ ws, okZ z
  | _, _, .nil, _ => ⟨[], rfl, rfl, fun _ h => (by cases h)⟩
  | _, _, .cons h r, e => by
    rw [List.all_cons, Bool.and_eq_true] at e
    obtain ⟨ws, e1, e2, e3⟩ := dat_strs r e.2
    cases h with
    | str z hz ha =>
      refine ⟨z :: ws, by rw [e1]; rfl, by rw [e2]; rfl, fun y hy => ?_⟩
      rcases List.mem_cons.mp hy with rfl | hy
      · exact ⟨hz, ha⟩
      · exact e3 y hy
    | _ => cases e.1
def spOr : Sp := fun vs H Q _ => ∃ p x d t names, vs = [x, .ref t] ∧ Gx.Dat p H x d ∧ (∀ ds, d = .tuple ds → ds.length < 64) ∧ H t = some (.tup (names.map V.str)) ∧ names.length < 64 ∧ names.Nodup ∧ (∀ z ∈ names, okZ z) ∧ ∀ H', Same H H' → Q (.bl (orderD d names)) H'
theorem p_is_order_of (T : Mo K mg) : Gx.Pr P w K mg base CX0 1 "is_order_of" s_is_order_of ["value", "variables"] spOr := by
  refine T.d_is_order_of.ok sc_is_order_of (fun vs H Q E h => ?_) (fun f cdv A outer s H vs Q E hr h => ?_)
  · obtain ⟨p, x, d, t, names, rfl, _⟩ := h
    rfl
  · obtain ⟨p, x, d, t, names, rfl, tx, hl, ht, hn, nd, hz, q⟩ := h
    have hu64 := hr.units
    refine ⟨_, (pss_cons (ps_if (PW.pt (pw_or (pt_not (pt_val (pe_callB call_isi (by rfl) T.b_isinstance (by decide +kernel) (pa_cons (pv 0) (pa_cons (pe_bltn (v := .ty "tuple") rfl T.b_tuple (by decide +kernel) rfl) pa_nil))))) (pw_or1 (pt_not (pt_val (pe_callB (cr_all rfl) (by rfl) T.b_all (by decide +kernel) (pa_cons (pe_lc (own := [("element", 2)]) (g := gName 2) (tt := tYes) rfl sc_is_order_of.nd (pi_tup (pv 0)) (blkOk_by (N := N_is_order_of) (sc := defScope s_is_order_of) (by decide +kernel)) (fun _ _ _ _ _ => (pg_name (i := 2) sc_is_order_of.nd rfl (Or.inl rfl))) (fun _ _ _ _ _ => pts_nil) (fun _ _ _ _ _ => (pe_callB (Gx.call_isiK (K := K) rfl) (by rfl) T.b_isinstance (show bootBuiltins "isinstance" = some (.builtin "isinstance") by decide +kernel) (pa_cons (pv 2) (pa_cons (pe_bltn (v := .ty "str") rfl T.b_str (by decide +kernel) rfl) pa_nil))))) pa_nil))))))) (pss_one (ps_ret pe_bl)) pss_nil)
      (pss_one (ps_ret (pe_cmpR (op_eqD hu64) (pe_callB Gx.cr_sortedQ (by rfl) T.b_sorted (by decide +kernel) (pa_cons (pv 0) pa_nil)) (pe_callB Gx.cr_sortedQ (by rfl) T.b_sorted (by decide +kernel) (pa_cons (pv 1) pa_nil)) (nomark _))))), ?_⟩
    refine ⟨x, rfl, x, .ty "tuple", _, _, _, rfl, .ty _, tx.ty, Gx.kit_D (by simp), _, rfl, ?_⟩
    cases tx with
    | @tup a xs ds n h r =>
      refine iteF ?_
      refine ⟨_, rfl, a, rfl, ⟨xs, SqT.of h⟩, fun D hD => ?_⟩
      refine lc_it (walk_tup (K := K) (a := a) (xs := xs)) (fun i H' => Same H H' ∧ H' D = some (.lst (((ds.take i).map strD).map V.bl))) ⟨Gx.sameU hD, upd_same⟩ (fun i H' _ h' => .inl (.inl (h'.1 _ _ h))) (fun i v H1 H2 hi h' Y => ?_) fun H1 h' => ?_
      · obtain ⟨s3, hl3⟩ := h'
        obtain ⟨rfl, he⟩ := Y
        obtain ⟨d, hd, t⟩ := r.get he
        refine ⟨rfl, _, rfl, v, .ty "str", _, _, _, rfl, .ty _, (t.kp (Gx.Kp.of s3)).ty, Gx.kit_D (by simp), _, hl3, ?_, ?_, ?_⟩
        · rw [List.length_map, List.length_map, List.length_take]
          exact Nat.lt_of_le_of_lt (show _ ≤ 100 by have := hl ds rfl; omega) (by decide)
        · intro b o e
          by_cases cb : b = D
          · subst cb
            rw [hD] at e
            cases e
          · rw [upd_ne cb]
            exact s3 b o e
        · rw [upd_same, List.take_add_one, hd, strD_isD]
          simp
      · obtain ⟨s3, hl3⟩ := h'
        refine ⟨D, ds.map strD, rfl, SqL.of ?_, _, rfl, ?_⟩
        · rw [hl3, r.len, List.take_length]
        · rw [List.all_map]
          show if (!ds.all strD) = true then _ else _
          cases c : ds.all strD with
          | false =>
            rw [order_not nd c] at q
            exact iteT (q H1 s3)
          | true =>
            obtain ⟨ws, rfl, rfl, hw⟩ := dat_strs r c
            rw [order_strs nd] at q
            refine iteF ?_
            have hws : ws.length < 64 := by simpa using hl _ rfl
            refine ⟨_, rfl, a, ws, rfl, .inr (SqT.of (s3 _ _ h)), hws, fun ys b1 p1 o1 n1 => ?_⟩
            have s4 := s3.trans (Gx.sameU n1 (o := .lst (ys.map V.str)))
            refine ⟨_, rfl, t, names, rfl, .inr (SqT.of (s4 _ _ ht)), hn, fun zs b2 p2 o2 n2 => ?_⟩
            have s5 := s4.trans (Gx.sameU n2 (o := .lst (zs.map V.str)))
            refine ⟨.list (ys.map .str), .list (zs.map .str), .lst (SqL.of (by rw [upd_ne (fun e => by rw [e, upd_same] at n2; cases n2)]; exact upd_same)) (dpStrs _), .lst (SqL.of upd_same) (dpStrs _),
              strs_shaped _ (fun x hx => (hw x (p1.mem_iff.mp hx)).ok), strs_shaped _ (fun x hx => (hz x (p2.mem_iff.mp hx)).ok), ?_⟩
            have q := q _ s5
            rw [← sorted_eq p1 p2 o1 o2] at q
            show Q (.bl (PyData.eqvAll (ys.map .str) (zs.map .str))) _
            rw [eqv_strs]
            exact q
    | int i => exact iteT (q H (Same.refl H))
    | bl i => exact iteT (q H (Same.refl H))
    | non => exact iteT (q H (Same.refl H))
    | lst => exact iteT (q H (Same.refl H))
    | str => exact iteT (q H (Same.refl H))
    | nil => exact iteT (q H (Same.refl H))
    | one => exact iteT (q H (Same.refl H))
end
end My
namespace My
open PySem PySem.Spec PyProof.Rows L2
/-! ### what is wrong with literals and an order -/
def itemsD : PyData → Option (List PyData)
  | .list ds => some ds
  | .tuple ds => some ds
  | _ => none
def badD (ds : List PyData) : Option Nat := ds.findIdx? fun d => !litD d
def nonD : PyData → Bool
  | .none => true
  | _ => false
def probD (dl dor : PyData) : Option (Str × Int) := match itemsD dl with
  | none => some ("literals", -1)
  | some ds => if ds.length = 0 ∨ 8 < ds.length then some ("literals", -1) else match badD ds with
    | some i => some ("literal", (i : Int))
    | none => if 5 < (varsD ds).length then some ("variables", -1) else if nonD dor || orderD dor (varsD ds) then none else some ("order", -1)
theorem bad_none {ds : List PyData} (h : badD ds = none) : ∀ d ∈ ds, litD d = true := fun d hd => by
  have := List.findIdx?_eq_none_iff.mp h d hd
  simpa using this
theorem dat_items {p : Addr} {H : Hp} {v : V} {d : PyData} (t : Gx.Dat p H v d) : (itemsD d = none ∧ (Gx.isD "list" d || Gx.isD "tuple" d) = false) ∨ ∃ a xs ds, v = .ref a ∧ (H a = some (.lst xs) ∨ H a = some (.tup xs)) ∧ Gx.DatL p H xs ds ∧ itemsD d = some ds ∧ (Gx.isD "list" d || Gx.isD "tuple" d) = true := by
  cases t with
  | lst n h r => exact .inr ⟨_, _, _, rfl, .inl h, r, rfl, rfl⟩
  | tup n h r => exact .inr ⟨_, _, _, rfl, .inr h, r, rfl, rfl⟩
  | _ => exact .inl ⟨rfl, rfl⟩
theorem lw_ok {z : Str} (h : nameZ z = true) : okZ z := by
  simp only [nameZ, Bool.and_eq_true, decide_eq_true_eq, List.all_eq_true] at h
  refine ⟨by omega, fun c hc => ?_⟩
  have := h.2.2.1 c hc
  simp only [isLw, Bool.and_eq_true, decide_eq_true_eq] at this
  omega
theorem addS_ok {acc : List Str} {t : PyData} (h : ∀ z ∈ acc, okZ z) (ht : termD t = true) : ∀ z ∈ addS acc t, okZ z := by
  cases t with
  | str y =>
    simp only [addS]
    split
    · exact h
    · intro z hz
      rcases List.mem_append.mp hz with hz | hz
      · exact h z hz
      · rw [List.mem_singleton.mp hz]
        have : (nameZ y || false) = true := ht
        rw [Bool.or_false] at this
        exact lw_ok this
  | _ => exact h
theorem foS_ok : ∀ (ts : List PyData) {acc : List Str}, (∀ z ∈ acc, okZ z) → (∀ t ∈ ts, termD t = true) → ∀ z ∈ foS acc ts, okZ z
  | [], _, h, _ => h
  | t :: r, _, h, ht => foS_ok r (addS_ok h (ht t (by simp))) fun y hy => ht y (List.mem_cons_of_mem _ hy)
theorem vars_ok0 : ∀ (ds : List PyData) (acc : List Str), (∀ z ∈ acc, okZ z) → (∀ d ∈ ds, litD d = true) → ∀ z ∈ ds.foldl (fun acc d => foS acc (termsOf d)) acc, okZ z
  | [], _, h, _ => h
  | d :: r, acc, h, hd => by
    obtain ⟨_, _, _, _, _, _, tms, _⟩ := lit_inv (hd d (by simp))
    exact vars_ok0 r _ (foS_ok (termsOf d) h tms) fun y hy => hd y (List.mem_cons_of_mem _ hy)
theorem vars_ok {ds : List PyData} (h : ∀ d ∈ ds, litD d = true) : ∀ z ∈ varsD ds, okZ z := vars_ok0 ds [] (fun _ h => by cases h) h
/-- the answer of problem_with -/
def IsProb (H : Hp) (v : V) : Option (Str × Int) → Prop
  | none => v = .non
  | some (z, i) => ∃ t, v = .ref t ∧ H t = some (.tup [.str z, .int i])
section
variable {P : Program} {w : World} {K : PySem.W.Frag} {mg : Str → Option Value} {base : Heap}
def spPW : Sp := fun vs H Q _ => ∃ p x y dx dy, vs = [x, y] ∧ Gx.Dat p H x dx ∧ Gx.Dat p H y dy ∧ (∀ ds, dy = .tuple ds → ds.length < 64) ∧ ∀ v H', Same H H' → IsProb H' v (probD dx dy) → Q v H'
theorem p_problem_with (T : Mo K mg) : Gx.Pr P w K mg base CX0 6 "problem_with" s_problem_with ["literals", "order"] spPW := by
  refine T.d_problem_with.ok sc_problem_with (fun vs H Q E h => ?_) (fun f cdv A outer s H vs Q E hr h => ?_)
  · obtain ⟨p, x, y, dx, dy, rfl, _⟩ := h
    rfl
  · obtain ⟨p, x, y, dx, dy, rfl, tx, ty, hy, q⟩ := h
    refine ⟨_, (pss_cons (ps_if (PW.pt (pw_or (pt_not (pt_val (Gx.pe_pos (p_is_list T) hr (by decide) (by rfl) b_is_list pass0 (pa_cons (pv 0) pa_nil)))) (pw_or1 (pt_not (pt_chain op_le op_le pe_int (pe_callB call_len_seq (by rfl) T.b_len (by decide +kernel) (pa_cons (pv 0) pa_nil)) (Gx.pe_cint T.k_Query_MAX_LITERALS rfl)))))) (pss_one (ps_ret (pe_tup (pa_cons pe_str (pa_cons (pe_un un_neg pe_int) pa_nil))))) pss_nil)
      (pss_cons (ps_for PassesOwn.never rfl (Gx.pi_enumS (by rfl) T.b_enumerate (pa_cons (pv 0) pa_nil)) (pg_tup rfl (pgs_cons (pg_name (i := 2) sc_problem_with.nd rfl (Or.inl rfl)) (pgs_cons (pg_name (i := 3) sc_problem_with.nd rfl (Or.inl rfl)) pgs_nil))) (pss_one (ps_if (pt_not (pt_val (Gx.pe_pos (p_is_literal T) hr (by decide) (by rfl) b_is_literal pass0 (pa_cons (pv 3) pa_nil)))) (pss_one (ps_ret (pe_tup (pa_cons pe_str (pa_cons (pv 2) pa_nil))))) pss_nil)))
      (pss_cons (ps_set (i := 4) sc_problem_with.nd rfl (Or.inl rfl) (Gx.pe_pos (p_variables_of T) hr (by decide) (by rfl) b_variables_of pass0 (pa_cons (pv 0) pa_nil)))
      (pss_cons (ps_if (pt_cmpR op_gt (pe_callB call_len_seq (by rfl) T.b_len (by decide +kernel) (pa_cons (pv 4) pa_nil)) (Gx.pe_cint T.k_Query_MAX_VARIABLES rfl) (nomark _)) (pss_one (ps_ret (pe_tup (pa_cons pe_str (pa_cons (pe_un un_neg pe_int) pa_nil))))) pss_nil)
      (pss_cons (ps_if (PW.pt (pw_and (pt_cmpR op_notN (pv 1) pe_non (nomark _)) (pw_and1 (pt_not (pt_val (Gx.pe_pos (p_is_order_of T) hr (by decide) (by rfl) b_is_order_of pass0 (pa_cons (pv 1) (pa_cons (pv 4) pa_nil)))))))) (pss_one (ps_ret (pe_tup (pa_cons pe_str (pa_cons (pe_un un_neg pe_int) pa_nil))))) pss_nil)
      (pss_one (ps_ret pe_non))))))), ?_⟩
    refine ⟨x, rfl, p, x, dx, rfl, tx, fun H1 s1 => ⟨_, rfl, ?_⟩⟩
    have give : ∀ (z : Str) (i : Int), probD dx dy = some (z, i) → ∀ H1, Same H H1 → ∀ t, H1 t = none → Q (.ref t) (L2.upd H1 t (.tup [.str z, .int i])) := fun z i e H1 s1 t ht => q _ _ (s1.trans (Gx.sameU ht)) (by
      rw [e]
      exact ⟨t, rfl, upd_same⟩)
    rcases dat_items tx with ⟨e1, e2⟩ | ⟨a, xs, ds, rfl, hs, r, e1, e2⟩
    · rw [e2]
      exact iteT (iteT ⟨_, rfl, by show 2 ≤ sizeLine; decide, fun t nt => give "literals" (-1) (by simp [probD, e1]) H1 s1 t nt⟩)
    · rw [e2]
      refine iteF ?_
      have hs1 : H1 a = some (.lst xs) ∨ H1 a = some (.tup xs) := hs.elim (fun e => .inl (s1 _ _ e)) fun e => .inr (s1 _ _ e)
      have sq1 : SqL K H1 a xs ∨ SqT K H1 a xs := hs1.elim (fun e => .inl (SqL.of e)) fun e => .inr (SqT.of e)
      refine ⟨_, rfl, a, xs, rfl, sq1, _, _, rfl, rfl, _, rfl, ?_⟩
      show if decide ((1 : Int) ≤ (xs.length : Int)) = true then _ else _
      rw [r.len]
      by_cases c1 : 1 ≤ ds.length
      · rw [decide_eq_true (show (1 : Int) ≤ (ds.length : Int) by omega)]
        refine ⟨_, _, rfl, rfl, _, rfl, ?_⟩
        show if (!decide ((ds.length : Int) ≤ 8)) = true then _ else _
        by_cases c2 : ds.length ≤ 8
        · rw [decide_eq_true (show (ds.length : Int) ≤ 8 by omega)]
          refine iteF ?_
          have pe : probD dx dy = match badD ds with
              | some i => some (("literal" : Str), (i : Int))
              | none => if 5 < (varsD ds).length then some ("variables", -1) else if nonD dy || orderD dy (varsD ds) then none else some ("order", -1) := by
            simp only [probD, e1]
            rw [if_neg (by omega)]
          refine ⟨_, rfl, a, xs, rfl, sq1, fun J hJ => ?_⟩
          obtain ⟨G, wk, _, mono⟩ := hJ.walk
          refine for_it wk (fun i σ H' => Same H1 H' ∧ (∀ j d, j < i → ds[j]? = some d → litD d = true) ∧ ∃ t2 t3, σ = [some (.ref a), some y, t2, t3, none]) ⟨Same.refl _, fun j d hj => absurd hj (by omega), _, _, rfl⟩ (fun i σ H' _ h => mono H' h.1) (fun i v σ H2 H3 hi h Y => ?_) fun σ H2 h => ?_
          · obtain ⟨s2, ok, t2, t3, rfl⟩ := h
            obtain ⟨t, v1, v2, rfl, nt, rfl, e3, e4⟩ := Y
            cases e3
            have s3 := s2.trans (Gx.sameU nt (o := .tup [.int (i : Nat), v2]))
            obtain ⟨d, hd, tv⟩ := r.get e4
            refine ⟨t, _, rfl, SqT.of upd_same, rfl, _, _, rfl, _, _, rfl, rfl, ?_⟩
            refine ⟨_, rfl, p, v2, d, rfl, tv.kp (Gx.Kp.of (s1.trans s3)), fun H4 s4 => ⟨_, rfl, ?_⟩⟩
            show if (!litD d) = true then _ else _
            cases c3 : litD d with
            | false =>
              have eb : badD ds = some i := by
                have hi' : i < ds.length := by rw [← r.len]; exact hi
                refine List.findIdx?_eq_some_iff_getElem.mpr ⟨hi', ?_, fun j hj => ?_⟩
                · rw [List.getElem?_eq_getElem hi'] at hd
                  rw [Option.some.inj hd, c3]
                  rfl
                · rw [ok j _ hj (List.getElem?_eq_getElem (by omega))]
                  simp
              rw [eb] at pe
              exact iteT ⟨_, rfl, by show 2 ≤ sizeLine; decide, fun t nt => give "literal" i pe _ (s1.trans (s3.trans s4)) t nt⟩
            | true =>
              refine iteF ⟨s3.trans s4, fun j e hj he => ?_, _, _, rfl⟩
              by_cases cj : j = i
              · rw [cj, hd] at he
                rw [← Option.some.inj he]
                exact c3
              · exact ok j e (by omega) he
          · obtain ⟨s2, ok, t2, t3, rfl⟩ := h
            have good : ∀ d ∈ ds, litD d = true := fun d hd => by
              obtain ⟨j, hj, rfl⟩ := List.mem_iff_getElem.mp hd
              exact ok j _ (by rw [r.len]; exact hj) (List.getElem?_eq_getElem hj)
            have eb : badD ds = none := List.findIdx?_eq_none_iff.mpr fun d hd => by rw [good d hd]; rfl
            rw [eb] at pe
            have s12 := s1.trans s2
            have hs2 : H2 a = some (.lst xs) ∨ H2 a = some (.tup xs) := hs.elim (fun e => .inl (s12 _ _ e)) fun e => .inr (s12 _ _ e)
            refine ⟨_, rfl, p, a, xs, ds, rfl, hs2, r.kp (Gx.Kp.of s12), c2, good, fun t H3 s3 nt hv => ?_⟩
            refine ⟨_, rfl, t, _, rfl, .inr (SqT.of hv), _, _, rfl, rfl, _, rfl, ?_⟩
            rw [List.length_map]
            show if decide ((5 : Int) < ((varsD ds).length : Int)) = true then _ else _
            have s13 := s12.trans s3
            have vl := vars_len good
            by_cases c5 : 5 < (varsD ds).length
            · rw [decide_eq_true (show (5 : Int) < ((varsD ds).length : Int) by omega)]
              rw [if_pos c5] at pe
              exact iteT ⟨_, rfl, by show 2 ≤ sizeLine; decide, fun t nt => give "variables" (-1) pe _ s13 t nt⟩
            · rw [decide_eq_false (show ¬ (5 : Int) < ((varsD ds).length : Int) by omega)]
              rw [if_neg c5] at pe
              refine iteF ?_
              refine ⟨_, rfl, rfl, _, rfl, ?_⟩
              show if (!decide (y = V.non)) = true then _ else _
              have en : decide (y = V.non) = nonD dy := by
                cases ty <;> rfl
              rw [en]
              cases c6 : nonD dy with
              | true =>
                rw [c6] at pe
                exact iteF (iteF (q _ _ s13 (by rw [pe]; rfl)))
              | false =>
                rw [c6] at pe
                refine iteT ⟨_, rfl, _, rfl, p, y, dy, t, varsD ds, rfl, ty.kp (Gx.Kp.of s13), hy, hv, by omega, vars_nodup ds, vars_ok good, fun H5 s5 => ⟨_, rfl, ?_⟩⟩
                show if (!orderD dy (varsD ds)) = true then _ else _
                cases c7 : orderD dy (varsD ds) with
                | true =>
                  rw [c7] at pe
                  exact iteF (q _ _ (s13.trans s5) (by rw [pe]; rfl))
                | false =>
                  rw [c7] at pe
                  exact iteT ⟨_, rfl, by show 2 ≤ sizeLine; decide, fun t nt => give "order" (-1) pe _ (s13.trans s5) t nt⟩
        · rw [decide_eq_false (show ¬ (ds.length : Int) ≤ 8 by omega)]
          exact iteT ⟨_, rfl, by show 2 ≤ sizeLine; decide, fun t nt => give "literals" (-1) (by simp only [probD, e1]; rw [if_pos (by omega)]) _ s1 t nt⟩
      · rw [decide_eq_false (show ¬ (1 : Int) ≤ (ds.length : Int) by omega)]
        exact ⟨_, rfl, iteT ⟨_, rfl, by show 2 ≤ sizeLine; decide, fun t nt => give "literals" (-1) (by simp only [probD, e1]; rw [if_pos (by omega)]) _ s1 t nt⟩⟩
end
end My
namespace My
open PySem PySem.Spec PyProof.Rows L2
/-! ### a query -/
/-- lists, tuples and dicts -/
def isDt : HO → Bool
  | .lst _ => true
  | .tup _ => true
  | .dK _ => true
  | _ => false
/-- all lists, tuples and dicts but the one at p are as they were -/
def Kd (p : Addr) (H H' : Hp) : Prop := ∀ b o, b ≠ p → isDt o = true → H b = some o → H' b = some o
theorem Kd.of {p : Addr} {H H' : Hp} (k : Same H H') : Kd p H H' := fun b o _ _ e => k b o e
theorem Kd.trans {p : Addr} {H H1 H2 : Hp} (a : Kd p H H1) (b : Kd p H1 H2) : Kd p H H2 := fun c o n i e => b c o n i (a c o n i e)
theorem Kd.ins {p q C d : Addr} {fs : List (Str × V)} {H : Hp} {o : HO} (h : H q = some (.ins C d fs)) : Kd p H (L2.upd H q o) := fun b x _ i e => by
  rw [upd_ne fun z => ?_]
  · exact e
  · rw [z, h] at e
    cases e
    cases i
mutual
theorem dat_kd {p : Addr} {H H' : Hp} (k : Kd p H H') : ∀ {v : V} {d : PyData}, Gx.Dat p H v d → Gx.Dat p H' v d
  | _, _, .non => .non
  | _, _, .bl b => .bl b
  | _, _, .int i h => .int i h
  | _, _, .str z h a => .str z h a
  | _, _, .lst n h r => .lst n (k _ _ n rfl h) (datL_kd k r)
  | _, _, .tup n h r => .tup n (k _ _ n rfl h) (datL_kd k r)
  | _, _, .nil n h => .nil n (k _ _ n rfl h)
  | _, _, .one i n h r => .one i n (k _ _ n rfl h) (dat_kd k r)
theorem datL_kd {p : Addr} {H H' : Hp} (k : Kd p H H') : ∀ {vs : List V} {ds : List PyData}, Gx.DatL p H vs ds → Gx.DatL p H' vs ds
  | _, _, .nil => .nil
  | _, _, .cons h r => .cons (dat_kd k h) (datL_kd k r)
end
theorem datL_strs {p : Addr} {H : Hp} : ∀ (ws : List Str), (∀ z ∈ ws, okZ z) → Gx.DatL p H (ws.map V.str) (ws.map .str)
  | [], _ => .nil
  | z :: r, h => .cons (.str z (h z (by simp)).1 (h z (by simp)).2) (datL_strs r fun y hy => h y (List.mem_cons_of_mem _ hy))
theorem prob_none {dx dy : PyData} {ds : List PyData} (e : itemsD dx = some ds) (h : probD dx dy = none) : ds.length ≤ 8 ∧ (∀ d ∈ ds, litD d = true) ∧ (nonD dy = true ∨ orderD dy (varsD ds) = true) := by
  simp only [probD, e] at h
  by_cases c : ds.length = 0 ∨ 8 < ds.length
  · rw [if_pos c] at h
    cases h
  · rw [if_neg c] at h
    cases b : badD ds with
    | some i =>
      rw [b] at h
      cases h
    | none =>
      rw [b] at h
      by_cases c5 : 5 < (varsD ds).length
      · simp only [if_pos c5] at h
        cases h
      · simp only [if_neg c5] at h
        refine ⟨by omega, bad_none b, ?_⟩
        by_cases c6 : (nonD dy || orderD dy (varsD ds)) = true
        · simpa using c6
        · rw [if_neg c6] at h
          cases h
/-- the variables that a query shows -/
def varD (ds : List PyData) (dy : PyData) : PyData := if nonD dy then .tuple ((varsD ds).map .str) else dy
/-- the query at q holds these literals and variables -/
def QryAt (mg : Str → Option Value) (p : Addr) (H : Hp) (q : Addr) (ds : List PyData) (dv : PyData) : Prop :=
  ∃ dx l v xs, H q = some (.ins (Gx.cl mg "Query") dx [("_literals", .ref l), ("_variables", v)]) ∧ H l = some (.tup xs) ∧ l ≠ p ∧ Gx.DatL p H xs ds ∧ Gx.Dat p H v dv
theorem QryAt.kp {mg : Str → Option Value} {p : Addr} {H H' : Hp} {q : Addr} {ds : List PyData} {dv : PyData} (h : QryAt mg p H q ds dv) (n : q ≠ p) (k : Gx.Kp p H H') : QryAt mg p H' q ds dv := by
  obtain ⟨dx, l, v, xs, h1, h2, h3, h4, h5⟩ := h
  exact ⟨dx, l, v, xs, k _ _ n h1, k _ _ h3 h2, h3, h4.kp k, h5.kp k⟩
section
variable {P : Program} {w : World} {K : PySem.W.Frag} {mg : Str → Option Value} {base : Heap}
def spQI (mg : Str → Option Value) : Sp := fun vs H Q E => ∃ p q dd x y dx dy, vs = [.ref q, x, y] ∧ H q = some (.ins (Gx.cl mg "Query") dd []) ∧ (∃ o, H p = some o) ∧ q ≠ p ∧ Gx.Dat p H x dx ∧ Gx.Dat p H y dy ∧ (∀ ds, dy = .tuple ds → ds.length < 64) ∧
  (∀ H' ds, (∀ b o, b ≠ q → H b = some o → H' b = some o) → itemsD dx = some ds → probD dx dy = none → QryAt mg p H' q ds (varD ds dy) → Q .non H') ∧
  (∀ z i H' d, Same H H' → probD dx dy = some (z, i) → H' d = none → E (.ref (Gx.cl mg "InvalidQuery")) (some d) (L2.upd H' d (.xd [("position", .int i), ("problem", .str z)])))
theorem p_Query___init__ (T : Mo K mg) : Gx.PrM P w K mg base (L2.CX P w) 7 "Query" "__init__" "Query.__init__" s_Query___init__ ["self", "literals", "order"] [.non] (spQI mg) := by
  refine T.d_Query___init__.okX sc_Query___init__ (fun vs H Q E h => ?_) (fun f cdv A outer s H vs Q E hr h => ?_)
  · obtain ⟨p, q, dd, x, y, dx, dy, rfl, _⟩ := h
    rfl
  · obtain ⟨p, q, dd, x, y, dx, dy, rfl, hq, ⟨op, hp⟩, nqp, tx, ty, hy, qn, qe⟩ := h
    refine ⟨_, (pss_cons (ps_set (i := 3) sc_Query___init__.nd rfl (Or.inl rfl) (Gx.pe_pos (p_problem_with T) hr (by decide) (by rfl) b_problem_with pass0 (pa_cons (pv 1) (pa_cons (pv 2) pa_nil))))
      (pss_cons (ps_if (pt_cmpR op_notN (pv 3) pe_non (nomark _)) (pss_cons (ps_asg (pv 3) (pg_tup rfl (pgs_cons (pg_name (i := 4) sc_Query___init__.nd rfl (Or.inl rfl)) (pgs_cons (pg_name (i := 5) sc_Query___init__.nd rfl (Or.inl rfl)) pgs_nil))))
      (pss_one (ps_raise rfl (takes_of rfl rfl rfl rfl) (Gx.pmk_err2 T.e_InvalidQuery T.c_InvalidQuery T.f_InvalidQuery_problem T.f_InvalidQuery_position hr (by decide) sci_InvalidQuery bi_InvalidQuery bodyi_InvalidQuery (by rfl) (pv 4) (pv 5))))) pss_nil)
      (pss_cons (ps_fld (pv 0) (pe_callTy call_tuple_of (by rfl) T.b_tuple (by decide +kernel) (pa_cons (pv 1) pa_nil)) rfl)
      (pss_one (ps_fld (pv 0) (pe_ifExp (pt_cmpR op_isN (pv 2) pe_non (nomark _)) (Gx.pe_pos (p_variables_of T) hr (by decide) (by rfl) b_variables_of pass0 (pa_cons (pv 1) pa_nil)) (pv 2)) rfl))))), ?_⟩
    refine ⟨_, rfl, _, rfl, p, x, y, dx, dy, rfl, tx, ty, hy, fun v H1 s1 hv => ?_⟩
    cases c : probD dx dy with
    | some zi =>
      obtain ⟨z, i⟩ := zi
      rw [c] at hv
      obtain ⟨t, rfl, ht⟩ := hv
      refine ⟨_, rfl, rfl, _, rfl, iteT ?_⟩
      refine ⟨_, rfl, t, _, rfl, SqT.of ht, rfl, _, _, rfl, _, _, rfl, rfl, ?_⟩
      refine ⟨_, rfl, fun v2 H2 => v2 = .int i ∧ H2 = H1, ⟨_, rfl, rfl, rfl⟩, fun v2 H2 e d hd => ?_⟩
      obtain ⟨rfl, rfl⟩ := e
      exact qe z i _ d s1 c hd
    | none =>
      rw [c] at hv
      cases (show v = .non from hv)
      refine ⟨_, rfl, rfl, _, rfl, iteF ?_⟩
      rcases dat_items tx with ⟨e1, _⟩ | ⟨a, xs, ds, rfl, hs, r, e1, _⟩
      · simp [probD, e1] at c
      · obtain ⟨l8, good, od⟩ := prob_none e1 c
        have rest : ∀ l H2, Same H1 H2 → H2 l = some (.tup xs) → l ≠ p → ∀ D : Ends, D.nx = (fun _ H' => Q .non H') → (sFld K (tVar 0) (tIf (tTest (tOp (fun x y H Q => y = V.non ∧ Q (V.bl (decide (x = V.non))) H) (tVar 2) (tC V.non))) (tCall spVO [] E0 (tCons (tVar 1) tNil)) (tVar 2)) "_variables") D [some (.ref q), some (.ref a), some y, some .non, none, none] (L2.upd H2 q (.ins (Gx.cl mg "Query") dd [("_literals", .ref l)])) := by
          intro l H2 s12 hl nlp D hD
          have s2 : Same H H2 := s1.trans s12
          have hq2 := s2 _ _ hq
          have nlq : l ≠ q := fun e => by
            rw [e, hq2] at hl
            cases hl
          have nop : p ≠ q := fun e => nqp e.symm
          have hp3 : (L2.upd H2 q (.ins (Gx.cl mg "Query") dd [("_literals", .ref l)])) p = some op := by
            rw [upd_ne nop]
            exact s2 _ _ hp
          have k3 : Kd p H (L2.upd H2 q (.ins (Gx.cl mg "Query") dd [("_literals", .ref l)])) := (Kd.of s2).trans (Kd.ins hq2)
          have fin : ∀ v H4, Same (L2.upd H2 q (.ins (Gx.cl mg "Query") dd [("_literals", .ref l)])) H4 → Gx.Dat p H4 v (varD ds dy) → ∃ b C dx fs, V.ref q = .ref b ∧ H4 b = some (.ins C dx fs) ∧ L2.Cls K C ∧ NoAttr K C "_variables" ∧ fs.length < 1000 ∧ D.nx [some (.ref q), some (.ref a), some y, some .non, none, none] (L2.upd H4 b (.ins C dx (putF "_variables" v fs))) := by
            intro v H4 s4 tv
            have hq4 := s4 _ _ upd_same
            refine ⟨q, _, dd, _, rfl, hq4, T.d_Query___init__.c, T.n_Query__variables, (by show 1 < 1000; decide), ?_⟩
            rw [hD]
            refine qn _ ds (fun b o n e => ?_) e1 c ⟨dd, l, v, xs, upd_same, ?_, nlp, ?_, ?_⟩
            · rw [upd_ne n]
              exact s4 _ _ (by rw [upd_ne n]; exact s2 _ _ e)
            · rw [upd_ne nlq]
              exact s4 _ _ (by rw [upd_ne nlq]; exact hl)
            · exact datL_kd ((k3.trans (Kd.of s4)).trans (Kd.ins hq4)) r
            · exact dat_kd (Kd.ins hq4) tv
          refine ⟨_, rfl, rfl, _, rfl, ?_⟩
          show if decide (y = V.non) = true then _ else _
          have en : decide (y = V.non) = nonD dy := by
            cases ty <;> rfl
          rw [en]
          cases c6 : nonD dy with
          | true =>
            refine iteT ⟨_, rfl, p, a, xs, ds, rfl, ?_, datL_kd k3 r, l8, good, fun t H4 s4 nt hv => ?_⟩
            · have naq : a ≠ q := fun e => by
                rw [e, hq] at hs
                rcases hs with e | e <;> cases e
              rw [upd_ne naq]
              exact hs.elim (fun e => .inl (s2 _ _ e)) fun e => .inr (s2 _ _ e)
            · refine ⟨_, rfl, fin (.ref t) H4 s4 ?_⟩
              unfold varD
              rw [c6, if_pos rfl]
              exact .tup (fun e => by rw [e, hp3] at nt; cases nt) hv (datL_strs _ (vars_ok good))
          | false =>
            refine iteF ⟨_, rfl, _, rfl, fin y _ (Same.refl _) ?_⟩
            unfold varD
            rw [c6, if_neg (by simp)]
            exact dat_kd k3 ty
        have hq1 := s1 _ _ hq
        rcases hs with hs | hs
        · refine ⟨_, rfl, a, xs, rfl, .inl ⟨SqL.of (s1 _ _ hs), fun l hl => ?_⟩⟩
          have s2 : Same H1 (L2.upd H1 l (.tup xs)) := Gx.sameU hl
          refine ⟨_, rfl, q, _, dd, [], rfl, s2 _ _ hq1, T.d_Query___init__.c, T.n_Query__literals, (by show 0 < 1000; decide), ?_⟩
          exact rest l _ s2 upd_same (fun e => by rw [e, s1 _ _ hp] at hl; cases hl) _ rfl
        · have nap : a ≠ p := by
            cases tx with
            | lst n _ _ => exact n
            | tup n _ _ => exact n
            | nil n _ => exact n
            | one _ n _ _ => exact n
          refine ⟨_, rfl, a, xs, rfl, .inr ⟨SqT.of (s1 _ _ hs), ?_⟩⟩
          refine ⟨_, rfl, q, _, dd, [], rfl, hq1, T.d_Query___init__.c, T.n_Query__literals, (by show 0 < 1000; decide), ?_⟩
          exact rest a _ (Same.refl _) (s1 _ _ hs) nap _ rfl
end
end My
namespace My
open PySem PySem.Spec PyProof.Rows L2
section
variable {P : Program} {w : World} {K : PySem.W.Frag} {mg : Str → Option Value} {base : Heap}
def spVars (mg : Str → Option Value) : Sp := fun vs H Q _ => ∃ p q ds dv, vs = [.ref q] ∧ QryAt mg p H q ds dv ∧ ∀ v, Gx.Dat p H v dv → Q v H
theorem p_Query_variables (T : Mo K mg) : Gx.PrQ P w K mg base 1 "Query" "variables" (spVars mg) := by
  refine T.d_Query_variables.ok sc_Query_variables bq_Query_variables (fun vs H Q E h => ?_) (fun f cdv A outer s H vs Q E hr h => ?_)
  · obtain ⟨p, q, ds, dv, rfl, _⟩ := h
    rfl
  · obtain ⟨p, q, ds, dv, rfl, ⟨dx, l, v, xs, h1, h2, h3, h4, h5⟩, qq⟩ := h
    refine ⟨_, (pss_one (ps_ret (pe_fld (pv 0) rfl))), ?_⟩
    exact ⟨_, rfl, q, _, dx, _, v, rfl, h1, T.d_Query_variables.c, T.n_Query__variables, rfl, qq v h5⟩
def spLits (mg : Str → Option Value) : Sp := fun vs H Q _ => ∃ p q ds dv, vs = [.ref q] ∧ QryAt mg p H q ds dv ∧ ∀ l xs, Gx.DatL p H xs ds → H l = none → Q (.ref l) (L2.upd H l (.lst xs))
theorem p_Query_literals (T : Mo K mg) : Gx.PrM P w K mg base CX0 1 "Query" "literals" "Query.literals" s_Query_literals ["self"] [] (spLits mg) := by
  refine T.d_Query_literals.ok sc_Query_literals (fun vs H Q E h => ?_) (fun f cdv A outer s H vs Q E hr h => ?_)
  · obtain ⟨p, q, ds, dv, rfl, _⟩ := h
    rfl
  · obtain ⟨p, q, ds, dv, rfl, ⟨dx, l, v, xs, h1, h2, h3, h4, h5⟩, qq⟩ := h
    refine ⟨_, (pss_one (ps_ret (pe_callTy call_list_of (by rfl) T.b_list (by decide +kernel) (pa_cons (pe_fld (pv 0) rfl) pa_nil)))), ?_⟩
    exact ⟨_, rfl, q, _, dx, _, _, rfl, h1, T.d_Query_literals.c, T.n_Query__literals, rfl, l, xs, rfl, .inr (SqT.of h2), fun b hb => qq b xs h4 hb⟩
def spLen (mg : Str → Option Value) : Sp := fun vs H Q _ => ∃ p q ds dv, vs = [.ref q] ∧ QryAt mg p H q ds dv ∧ Q (.int (ds.length : Nat)) H
theorem p_Query___len__ (T : Mo K mg) : Gx.PrM P w K mg base CX0 1 "Query" "__len__" "Query.__len__" s_Query___len__ ["self"] [] (spLen mg) := by
  refine T.d_Query___len__.ok sc_Query___len__ (fun vs H Q E h => ?_) (fun f cdv A outer s H vs Q E hr h => ?_)
  · obtain ⟨p, q, ds, dv, rfl, _⟩ := h
    rfl
  · obtain ⟨p, q, ds, dv, rfl, ⟨dx, l, v, xs, h1, h2, h3, h4, h5⟩, qq⟩ := h
    refine ⟨_, (pss_one (ps_ret (pe_callB call_len_seq (by rfl) T.b_len (by decide +kernel) (pa_cons (pe_fld (pv 0) rfl) pa_nil)))), ?_⟩
    refine ⟨_, rfl, q, _, dx, _, _, rfl, h1, T.d_Query___len__.c, T.n_Query__literals, rfl, l, xs, rfl, .inr (SqT.of h2), ?_⟩
    rw [h4.len]
    exact qq
end
end My
namespace My
open PySem PySem.Spec PyProof.Rows L2
/-! ### the draws -/
/-- the pot at p: a great number for digits, a seed -/
def Pot (p : Addr) (H : Hp) : Prop := ∃ a b : Int, H p = some (.lst [.int a, .int b]) ∧ 0 ≤ a ∧ 0 ≤ b ∧ b < 2147483629
section
variable {P : Program} {w : World} {K : PySem.W.Frag} {mg : Str → Option Value} {base : Heap}
def spTake : Sp := fun vs H Q _ => ∃ (p : Addr) (m : Int), vs = [.ref p, .int m] ∧ Pot p H ∧ 0 < m ∧ m < 1000000 ∧ ∀ (r : Int) H', 0 ≤ r → r < m → Pot p H' → Gx.Kp p H H' → Q (.int r) H'
theorem p__law_take (T : Mo K mg) : Gx.Pr P w K mg base CX0 1 "_law_take" s__law_take ["_law_pot_here", "_law_many"] spTake := by
  refine T.d__law_take.ok sc__law_take (fun vs H Q E h => ?_) (fun f cdv A outer s H vs Q E hr h => ?_)
  · obtain ⟨p, m, rfl, _⟩ := h
    rfl
  · obtain ⟨p, m, rfl, ⟨a, b, hp, ha, hb, hb2⟩, m0, m1, q⟩ := h
    refine ⟨_, (pss_cons (ps_if (pt_cmpR op_gt (pe_ix ix_list (pv 0) pe_int (fun _ _ => rfl)) pe_int (nomark _)) (pss_cons (ps_set (i := 2) sc__law_take.nd rfl (Or.inl rfl) (pe_op op_mod (pe_callTy call_int1 (by rfl) T.b_int (by decide +kernel) (pa_cons (pe_ix ix_list (pv 0) pe_int (fun _ _ => rfl)) pa_nil)) (pv 1)))
      (pss_cons (ps_asg (pe_op op_fdiv (pe_ix ix_list (pv 0) pe_int (fun _ _ => rfl)) (pv 1)) (pg_sub (pv 0) pe_int set_list))
      (pss_one (ps_ret (pv 2))))) pss_nil)
      (pss_cons (ps_asg (pe_op op_mod (pe_callTy call_int1 (by rfl) T.b_int (by decide +kernel) (pa_cons (pe_op op_add (pe_op op_mul (pe_ix ix_list (pv 0) pe_int (fun _ _ => rfl)) pe_int) pe_int) pa_nil)) pe_int) (pg_sub (pv 0) pe_int set_list))
      (pss_one (ps_ret (pe_op op_mod (pe_callTy call_int1 (by rfl) T.b_int (by decide +kernel) (pa_cons (pe_op op_fdiv (pe_op op_mod (pe_callTy call_int1 (by rfl) T.b_int (by decide +kernel) (pa_cons (pe_op op_mul (pe_ix ix_list (pv 0) pe_int (fun _ _ => rfl)) (pe_ix ix_list (pv 0) pe_int (fun _ _ => rfl))) pa_nil)) pe_int) pe_int) pa_nil)) (pv 1)))))), ?_⟩
    refine ⟨_, rfl, p, _, 0, _, rfl, rfl, SqL.of hp, rfl, _, _, rfl, rfl, _, rfl, ?_⟩
    by_cases c : 0 < a
    · rw [decide_eq_true c]
      refine iteT ⟨_, rfl, p, _, 0, _, rfl, rfl, SqL.of hp, rfl, .inl ⟨_, rfl, _, rfl, _, _, rfl, rfl, m0, ?_⟩⟩
      refine ⟨_, rfl, p, _, 0, _, rfl, rfl, SqL.of hp, rfl, _, rfl, _, _, rfl, rfl, ?_, ?_⟩
      · exact ⟨m0, by omega⟩
      · refine ⟨_, rfl, p, _, 0, 0, rfl, rfl, hp, rfl, _, rfl, ?_⟩
        refine q _ _ (Int.emod_nonneg _ (by omega)) (Int.emod_lt_of_pos _ m0) ⟨_, b, upd_same, Int.ediv_nonneg ha (by omega), hb, hb2⟩ fun x o n e => ?_
        rw [upd_ne n]
        exact e
    · rw [decide_eq_false c]
      refine iteF ?_
      refine ⟨_, rfl, p, _, 0 + 1, _, rfl, rfl, SqL.of hp, rfl, _, _, rfl, rfl, .inl ⟨by omega, by omega⟩, ?_⟩
      have n0 := Int.emod_nonneg (b * 48271 + 30011) (show (2147483629 : Int) ≠ 0 by decide)
      have n1 := Int.emod_lt_of_pos (b * 48271 + 30011) (show (0 : Int) < 2147483629 by decide)
      refine ⟨_, _, rfl, rfl, .inl ⟨_, rfl, _, _, rfl, rfl, (by show (0 : Int) < 2147483629; decide), _, rfl, p, _, 1, 1, rfl, rfl, hp, rfl, ?_⟩⟩
      refine ⟨_, rfl, p, _, 0 + 1, _, rfl, rfl, SqL.of upd_same, rfl, _, rfl, p, _, 0 + 1, _, rfl, rfl, SqL.of upd_same, rfl, _, _, rfl, rfl, .inl ⟨by omega, by omega⟩, .inl ⟨_, rfl, _, _, rfl, rfl, (by show (0 : Int) < 2147483587; decide), _, _, rfl, rfl, ⟨by decide, by decide⟩, ?_⟩⟩
      exact .inl ⟨_, rfl, _, rfl, _, _, rfl, rfl, m0, q _ _ (Int.emod_nonneg _ (by omega)) (Int.emod_lt_of_pos _ m0) ⟨a, _, upd_same, ha, n0, n1⟩ fun x o z e => by rw [upd_ne z]; exact e⟩
def spPot (K : PySem.W.Frag) : Sp := fun vs H Q _ => ∃ (a : Addr) (ns : List Int) (k : Nat), vs = [.ref a, .int k] ∧ SqL K H a (ns.map V.int) ∧ k ≤ 100 ∧ ∀ p H', H p = none → Pot p H' → Same H H' → Q (.ref p) H'
theorem p__law_pot (T : Mo K mg) : Gx.Pr P w K mg base CX0 1 "_law_pot" s__law_pot ["_law_script", "_law_k"] (spPot K) := by
  refine T.d__law_pot.ok sc__law_pot (fun vs H Q E h => ?_) (fun f cdv A outer s H vs Q E hr h => ?_)
  · obtain ⟨a, ns, k, rfl, _⟩ := h
    rfl
  · obtain ⟨a, ns, k, rfl, hS, hk, q⟩ := h
    refine ⟨_, (Evl.pss_cut (ps_set (i := 2) sc__law_pot.nd rfl (Or.inl rfl) (pe_ifExp (pt_cmpR op_lt (pv 1) (pe_callB call_len_seq (by rfl) T.b_len (by decide +kernel) (pa_cons (pv 0) pa_nil)) (nomark _)) (pe_callB call_abs (by rfl) T.b_abs (by decide +kernel) (pa_cons (pe_ix ix_list (pv 0) (pv 1) (fun _ _ => rfl)) pa_nil)) pe_int))
      (pss_cons (ps_set (i := 3) sc__law_pot.nd rfl (Or.inl rfl) (pe_op op_add (pe_op op_mod (pe_callTy call_int1 (by rfl) T.b_int (by decide +kernel) (pa_cons (pe_op op_pow (pe_op op_add (pe_op op_add (pe_op op_mod (pe_callTy call_int1 (by rfl) T.b_int (by decide +kernel) (pa_cons (pv 2) pa_nil)) pe_int) (pe_op op_mul pe_int (pv 1))) pe_int) pe_int) pa_nil)) pe_int) pe_int))
      (pss_one (ps_ret (pe_lst (pa_cons (pe_callB (call_max2 rfl) (by rfl) T.b_max (by decide +kernel) (pa_cons pe_int (pa_cons (pe_op op_sub (pv 2) (pe_op op_pow pe_int pe_int)) pa_nil))) (pa_cons (pv 3) pa_nil))))))), ?_⟩
    refine ⟨fun σ H' => H' = H ∧ ∃ c : Int, σ = [some (.ref a), some (.int k), some (.int c), none], ?_, fun σ H' h => ?_⟩
    · refine ⟨_, rfl, _, rfl, a, _, rfl, .inl hS, _, _, rfl, rfl, _, rfl, ?_⟩
      rw [List.length_map]
      by_cases c : (k : Int) < (ns.length : Int)
      · rw [decide_eq_true c]
        have hk' : k < ns.length := by omega
        exact iteT ⟨_, rfl, _, rfl, a, _, _, .int ns[k], rfl, rfl, hS, atI_nat (by rw [List.getElem?_map, List.getElem?_eq_getElem hk']; rfl), _, rfl, rfl, _, rfl⟩
      · rw [decide_eq_false c]
        exact iteF ⟨rfl, _, rfl⟩
    · obtain ⟨rfl, c, rfl⟩ := h
      have m1 : ∀ x : Int, 0 ≤ x % 2147483587 ∧ x % 2147483587 < 2147483587 := fun x => ⟨Int.emod_nonneg _ (by decide), Int.emod_lt_of_pos _ (by decide)⟩
      have m2 : ∀ x : Int, 0 ≤ x % 2147483563 ∧ x % 2147483563 < 2147483563 := fun x => ⟨Int.emod_nonneg _ (by decide), Int.emod_lt_of_pos _ (by decide)⟩
      refine ⟨_, rfl, .inl ⟨_, rfl, _, _, rfl, rfl, (by show (0 : Int) < 2147483587; decide), _, rfl, _, _, rfl, rfl, .inl ⟨by decide, by decide⟩, _, _, rfl, rfl, _, _, rfl, rfl, _, _, rfl, rfl, ⟨by decide, by decide, ?_⟩, .inl ⟨_, rfl, _, _, rfl, rfl, (by show (0 : Int) < 2147483563; decide), _, _, rfl, rfl, ?_⟩⟩⟩
      · have := m1 c
        omega
      · refine ⟨_, rfl, _, _, rfl, rfl, ⟨by decide, by decide, by decide⟩, _, _, rfl, rfl, _, _, rfl, _, rfl, by show 2 ≤ sizeLine; decide, fun p hp => ?_⟩
        have := m2 ((c % 2147483587 + 6007 * (k : Int) + 13) ^ (3 : Int).toNat)
        refine q p _ hp ⟨_, _, upd_same, ?_, ?_, ?_⟩ (Gx.sameU hp)
        · split <;> omega
        · omega
        · omega
end
end My
namespace My
open PySem PySem.Spec PyProof.Rows L2
section
variable {P : Program} {w : World} {K : PySem.W.Frag} {mg : Str → Option Value} {base : Heap}
def spPick : Sp := fun vs H Q _ => ∃ (p : Addr) (v : V), vs = [.ref p, v] ∧ Pot p H ∧
  ((∃ o xs, v = .ref o ∧ o ≠ p ∧ H o = some (.lst xs) ∧ 0 < xs.length ∧ xs.length ≤ 1000 ∧ ∀ x H', x ∈ xs → Pot p H' → Gx.Kp p H H' → Q x H') ∨
    ∃ z : Str, v = .str z ∧ 0 < z.length ∧ z.length ≤ 1000 ∧ ∀ c H', c ∈ z.cps.toList → Pot p H' → Gx.Kp p H H' → Q (.str ⟨#[c]⟩) H')
theorem p__law_pick (T : Mo K mg) : Gx.Pr P w K mg base CX0 2 "_law_pick" s__law_pick ["_law_pot_here", "_law_some"] spPick := by
  refine T.d__law_pick.ok sc__law_pick (fun vs H Q E h => ?_) (fun f cdv A outer s H vs Q E hr h => ?_)
  · obtain ⟨p, v, rfl, _⟩ := h
    rfl
  · obtain ⟨p, v, rfl, hp, h⟩ := h
    refine ⟨_, (pss_one (ps_ret (pe_ix (IxR.or ix_list ix_str) (pv 1) (Gx.pe_pos (p__law_take T) hr (by decide) (by rfl) b__law_take pass0 (pa_cons (pv 0) (pa_cons (pe_callB (CallR.or call_len_seq call_len_str) (by rfl) T.b_len (by decide +kernel) (pa_cons (pv 1) pa_nil)) pa_nil))) (fun _ _ => rfl)))), ?_⟩
    rcases h with ⟨o, xs, rfl, nop, ho, l0, l1, q⟩ | ⟨z, rfl, l0, l1, q⟩
    · refine ⟨_, rfl, _, rfl, _, rfl, .inl ⟨o, xs, rfl, .inl (SqL.of ho), p, _, rfl, hp, by omega, by omega, fun r H' r0 r1 hp' k => .inl ?_⟩⟩
      obtain ⟨n, rfl⟩ : ∃ n : Nat, r = (n : Int) := ⟨r.toNat, by omega⟩
      have hn : n < xs.length := by omega
      exact ⟨o, xs, _, xs[n], rfl, rfl, SqL.of (k _ _ nop ho), atI_nat (List.getElem?_eq_getElem hn), q _ _ (List.getElem_mem hn) hp' k⟩
    · refine ⟨_, rfl, _, rfl, _, rfl, .inr ⟨z, rfl, Nat.le_trans l1 (by decide), p, _, rfl, hp, by omega, by omega, fun r H' r0 r1 hp' k => .inr ?_⟩⟩
      obtain ⟨n, rfl⟩ : ∃ n : Nat, r = (n : Int) := ⟨r.toNat, by omega⟩
      have hn : n < z.cps.toList.length := by
        have : z.length = z.cps.toList.length := by simp [Str.length]
        omega
      exact ⟨z, _, z.cps.toList[n], rfl, rfl, Nat.le_trans l1 (by decide), atI_nat (List.getElem?_eq_getElem hn), q _ _ (List.getElem_mem hn) hp' k⟩
end
end My
namespace My
open PySem PySem.Spec PyProof.Rows L2
def sign (c : Nat) : Str := ⟨#[c]⟩
/-- texts of one small sign each -/
def Small (l : List Str) : Prop := ∀ x ∈ l, ∃ c, x = sign c ∧ isLw c = true
theorem join_small : ∀ l : List Str, Small l → (Str.join "" l).cps.toList.length = l.length ∧ ∀ c ∈ (Str.join "" l).cps.toList, isLw c = true
  | [], _ => ⟨rfl, fun c h => by simp [Str.join, Str.empty] at h⟩
  | [x], h => by
    obtain ⟨c, rfl, hc⟩ := h x List.mem_cons_self
    exact ⟨rfl, fun d hd => by
      have : d = c := by simpa [Str.join, sign] using hd
      rw [this]
      exact hc⟩
  | x :: y :: r, h => by
    obtain ⟨c, rfl, hc⟩ := h x List.mem_cons_self
    obtain ⟨i1, i2⟩ := join_small (y :: r) fun z hz => h z (List.mem_cons_of_mem _ hz)
    have e : (Str.join "" (sign c :: y :: r)).cps.toList = c :: (Str.join "" (y :: r)).cps.toList := by
      show ((sign c ++ ("" : Str) ++ Str.join "" (y :: r)) : Str).cps.toList = _
      show (((sign c).cps ++ (("" : Str)).cps) ++ (Str.join "" (y :: r)).cps).toList = _
      rw [show (("" : Str)).cps = #[] by decide +kernel]
      simp [sign]
    rw [e]
    refine ⟨by rw [List.length_cons, i1]; rfl, fun d hd => ?_⟩
    rcases List.mem_cons.mp hd with rfl | hd
    · exact hc
    · exact i2 d hd
theorem sum_small : ∀ l : List Str, Small l → (l.map (·.length)).sum = l.length
  | [], _ => rfl
  | x :: l, h => by
    obtain ⟨c, rfl, _⟩ := h x List.mem_cons_self
    rw [List.map_cons, List.sum_cons, sum_small l fun z hz => h z (List.mem_cons_of_mem _ hz), List.length_cons]
    show 1 + _ = _
    omega
/-- a letter, not the first one of the two reserved words, and letters more: a name -/
theorem name_of {c0 : Nat} {t : Str} (h0 : isLw c0 = true) (h1 : c0 ≠ 110) (h2 : c0 ≠ 98) (hl : t.cps.toList.length ≤ 7) (ht : ∀ c ∈ t.cps.toList, isLw c = true) : nameZ (sign c0 ++ t) = true := by
  have e : (sign c0 ++ t).cps.toList = c0 :: t.cps.toList := by
    show ((sign c0).cps ++ t.cps).toList = _
    simp [sign]
  have el : (sign c0 ++ t).length = 1 + t.cps.toList.length := by
    show (sign c0 ++ t).cps.size = _
    rw [← Array.length_toList, e, List.length_cons]
    omega
  have n1 : sign c0 ++ t ≠ "not" := fun z => by
    have : (sign c0 ++ t).cps.toList = (("not" : String) : Str).cps.toList := by rw [z]
    rw [e, show (("not" : String) : Str).cps.toList = [110, 111, 116] by decide +kernel] at this
    injection this with a b
    exact h1 a
  have n2 : sign c0 ++ t ≠ "by" := fun z => by
    have : (sign c0 ++ t).cps.toList = (("by" : String) : Str).cps.toList := by rw [z]
    rw [e, show (("by" : String) : Str).cps.toList = [98, 121] by decide +kernel] at this
    injection this with a b
    exact h2 a
  simp only [nameZ, Bool.and_eq_true, decide_eq_true_eq, e, List.all_cons, h0, Bool.true_and, List.all_eq_true, Bool.not_eq_true', Bool.or_eq_false_iff, decide_eq_false_iff_not]
  exact ⟨by omega, by omega, ht, n1, n2⟩
section
variable {P : Program} {w : World} {K : PySem.W.Frag} {mg : Str → Option Value} {base : Heap}
def spWord : Sp := fun vs H Q _ => ∃ (p : Addr) (c0 : Nat), vs = [.ref p, .str (sign c0)] ∧ Pot p H ∧ isLw c0 = true ∧ c0 ≠ 110 ∧ c0 ≠ 98 ∧ ∀ y H', nameZ y = true → Pot p H' → Gx.Kp p H H' → Q (.str y) H'
theorem p__law_word (T : Mo K mg) : Gx.Pr P w K mg base CX0 3 "_law_word" s__law_word ["_law_pot_here", "_law_first"] spWord := by
  refine T.d__law_word.ok sc__law_word (fun vs H Q E h => ?_) (fun f cdv A outer s H vs Q E hr h => ?_)
  · obtain ⟨p, c0, rfl, _⟩ := h
    rfl
  · obtain ⟨p, c0, rfl, hp, z0, z1, z2, q⟩ := h
    refine ⟨_, (pss_cons (ps_set (i := 2) sc__law_word.nd rfl (Or.inl rfl) (Gx.pe_pos (p__law_pick T) hr (by decide) (by rfl) b__law_pick pass0 (pa_cons (pv 0) (pa_cons (pe_lst (pa_cons pe_int (pa_cons pe_int (pa_cons pe_int (pa_cons pe_int (pa_cons pe_int pa_nil)))))) pa_nil))))
      (pss_one (ps_ret (pe_op op_add_str (pv 1) (pe_bm PySem.F.plainAttrs_str PySem.F.slot_str_join PySem.F.type_str_join mt_join pe_str (pa_cons (pe_lc (own := [("_law_at", 3)]) (g := gName 3) (tt := tYes) rfl sc__law_word.nd (pi_range1 (by rfl) T.b_range (pa_cons (pv 2) pa_nil)) (blkOk_by (N := N__law_word) (sc := defScope s__law_word) (by decide +kernel)) (fun _ _ _ _ _ => (pg_name (i := 3) sc__law_word.nd rfl (Or.inl rfl))) (fun _ _ _ _ _ => pts_nil) (fun _ _ _ _ _ => (pe_ix ix_str pe_str (Gx.pe_pos (p__law_take T) hr (by decide) (by rfl) b__law_take pass0 (pa_cons (pv 0) (pa_cons pe_int pa_nil))) (fun _ _ => rfl)))) pa_nil)))))), ?_⟩
    refine ⟨_, rfl, by show 5 ≤ sizeLine; decide, fun l hl => ?_⟩
    have npl : l ≠ p := fun e => by
      obtain ⟨a, b, e2, _⟩ := hp
      rw [← e, hl] at e2
      cases e2
    have k0 : Gx.Kp p H (L2.upd H l (.lst [.int 0, .int 0, .int 1, .int 2, .int 7])) := Gx.Kp.of (Gx.sameU hl)
    have hp1 : Pot p (L2.upd H l (.lst [.int 0, .int 0, .int 1, .int 2, .int 7])) := by
      obtain ⟨a, b, e2, r⟩ := hp
      exact ⟨a, b, by rw [upd_ne (Ne.symm npl)]; exact e2, r⟩
    refine ⟨p, _, rfl, hp1, .inl ⟨l, _, rfl, npl, upd_same, by decide, by decide, fun x H1 hx hp2 k1 => ?_⟩⟩
    obtain ⟨n, rfl, hn⟩ : ∃ n : Nat, x = .int (n : Int) ∧ n ≤ 7 := by
      simp only [List.mem_cons, List.not_mem_nil, or_false] at hx
      rcases hx with rfl | rfl | rfl | rfl | rfl
      · exact ⟨0, rfl, by decide⟩
      · exact ⟨0, rfl, by decide⟩
      · exact ⟨1, rfl, by decide⟩
      · exact ⟨2, rfl, by decide⟩
      · exact ⟨7, rfl, by decide⟩
    have k1' := k0.trans k1
    refine ⟨_, rfl, rfl, _, rfl, (n : Int), rfl, by omega, by omega, fun D hD => ?_⟩
    rw [Int.toNat_natCast]
    have nDp : D ≠ p := fun e => by
      obtain ⟨a, b, e2, _⟩ := hp2
      rw [← e, hD] at e2
      cases e2
    have hp3 : Pot p (L2.upd H1 D (.lst [])) := by
      obtain ⟨a, b, e2, r⟩ := hp2
      exact ⟨a, b, by rw [upd_ne (Ne.symm nDp)]; exact e2, r⟩
    refine lc_range (lo := 0) (n := n) (fun i H' => Pot p H' ∧ Gx.Kp p H1 H' ∧ ∃ l : List Str, l.length = i ∧ Small l ∧ H' D = some (.lst (l.map V.str)))
      ⟨hp3, Gx.Kp.of (Gx.sameU hD), [], rfl, (fun _ h => nomatch h), upd_same⟩ (fun i H4 hi h => ?_) fun H4 h => ?_
    · obtain ⟨R4, k4, l, hl, hs, hd⟩ := h
      refine ⟨rfl, _, rfl, p, _, rfl, R4, by decide, by decide, fun r H5 r0 r1 R5 k5 => ?_⟩
      obtain ⟨m, rfl⟩ : ∃ m : Nat, r = (m : Int) := ⟨r.toNat, by omega⟩
      have hA : (("abcdefghijklmnopqrstuvwxyz" : String) : Str).cps.toList.length = 26 := by decide +kernel
      have hm : m < (("abcdefghijklmnopqrstuvwxyz" : String) : Str).cps.toList.length := by omega
      have hd5 : H5 D = some (.lst (l.map V.str)) := k5 _ _ nDp hd
      have hc : ∀ c ∈ (("abcdefghijklmnopqrstuvwxyz" : String) : Str).cps.toList, isLw c = true := by decide +kernel
      refine ⟨_, _, (("abcdefghijklmnopqrstuvwxyz" : String) : Str).cps.toList[m], rfl, rfl, by decide +kernel, atI_nat (List.getElem?_eq_getElem hm), _, hd5, ?_, ?_, ?_, l ++ [sign (("abcdefghijklmnopqrstuvwxyz" : String) : Str).cps.toList[m]], ?_, ?_, ?_⟩
      · rw [List.length_map, hl]
        exact Nat.lt_of_le_of_lt (show i ≤ 12 by omega) (by decide)
      · obtain ⟨a, b, e, o⟩ := R5
        exact ⟨a, b, by rw [upd_ne nDp.symm]; exact e, o⟩
      · intro b o nb e
        rw [upd_ne (ne_of_none e hD)]
        exact (k4.trans k5) b o nb e
      · rw [List.length_append, hl]
        rfl
      · intro x hx
        rcases List.mem_append.mp hx with h | h
        · exact hs x h
        · exact ⟨_, List.mem_singleton.mp h, hc _ (List.getElem_mem hm)⟩
      · rw [upd_same, List.map_append]
        rfl
    · obtain ⟨R4, k4, l, hl, hs, hd⟩ := h
      obtain ⟨j1, j2⟩ := join_small l hs
      refine ⟨"", D, l, rfl, rfl, .inl (SqL.of hd), ?_, ?_⟩
      · rw [sum_small l hs]
        show l.length + l.length * 0 ≤ _
        omega
      · rw [show Txt.join "" l = Str.join "" l from StrLaws.glued_eq_join _ _]
        refine ⟨sign c0, _, rfl, rfl, ?_, q _ _ (name_of z0 z1 z2 (by rw [j1]; omega) j2) R4 (k1'.trans k4)⟩
        have : (Str.join "" l).length ≤ 7 := by
          show (Str.join "" l).cps.size ≤ 7
          rw [← Array.length_toList, j1]
          omega
        have h1 : (sign c0).length = 1 := rfl
        exact Nat.le_trans (show _ ≤ 10 by omega) (by decide)
end
end My
namespace My
open PySem PySem.Spec PyProof.Rows L2
theorem erase_perm {α : Type} : ∀ {l : List α} {n : Nat} (h : n < l.length), (l[n] :: l.eraseIdx n).Perm l
  | x :: r, 0, _ => List.Perm.refl _
  | x :: r, n + 1, h => by
    have h' : n < r.length := by simpa using h
    show (r[n] :: x :: r.eraseIdx n).Perm (x :: r)
    exact (List.Perm.swap x r[n] _).trans ((erase_perm h').cons x)
section
variable {P : Program} {w : World} {K : PySem.W.Frag} {mg : Str → Option Value} {base : Heap}
/-- texts and numbers that are small -/
inductive Fl : V → Prop
  | str (z : Str) (h : z.length ≤ 100) (a : ∀ c ∈ z.cps.toList, c < 128) : Fl (.str z)
  | int (i : Int) (h : i.natAbs < 10 ^ 100) : Fl (.int i)
def dV : V → PyData
  | .str z => .str z
  | .int i => .int i
  | _ => .none
theorem fl_dp {K : PySem.W.Frag} {H : Hp} : ∀ {rs : List V}, (∀ x ∈ rs, Fl x) → DpAll K H rs (rs.map dV)
  | [], _ => .nil
  | x :: r, h => by
    have hx := h x (by simp)
    refine .cons ?_ (fl_dp fun y hy => h y (List.mem_cons_of_mem _ hy))
    cases hx with
    | str z _ _ => exact .str z
    | int i _ => exact .int i
theorem fl_lay : ∀ {rs : List V}, (∀ x ∈ rs, Fl x) → PyData.canLayAll0 (rs.map dV) = true ∧ PyData.depthAll (rs.map dV) = 0
  | [], _ => ⟨by simp [PyData.canLayAll0], by simp [PyData.depthAll]⟩
  | x :: r, h => by
    obtain ⟨h1, h2⟩ := fl_lay (rs := r) fun y hy => h y (List.mem_cons_of_mem _ hy)
    have hx := h x (by simp)
    cases hx with
    | str z hz ha =>
      have := (show okZ z from ⟨hz, ha⟩).ok
      exact ⟨by simp [PyData.canLayAll0, PyData.canLay0, dV, this, h1], by simp [PyData.depthAll, PyData.depth, dV, h2]⟩
    | int i hi => exact ⟨by simp [PyData.canLayAll0, PyData.canLay0, dV, h1], by simp [PyData.depthAll, PyData.depth, dV, h2]⟩
theorem fl_shaped {rs : List V} (h : ∀ x ∈ rs, Fl x) : SeqAt.shaped (.list (rs.map dV)) = true := by
  obtain ⟨h1, h2⟩ := fl_lay h
  unfold SeqAt.shaped
  simp only [PyData.canLay0, PyData.depth, h1, h2]
  rfl
theorem eqv_emp (l : List PyData) : PyData.eqv (.list l) (.list []) = l.isEmpty := by
  cases l <;> simp [PyData.eqv, PyData.eqvAll]
def spMix : Sp := fun vs H Q _ => ∃ (p o : Addr) (xs : List V), vs = [.ref p, .ref o] ∧ Pot p H ∧ o ≠ p ∧ (H o = some (.lst xs) ∨ H o = some (.tup xs)) ∧ xs.length ≤ 60 ∧ (∀ x ∈ xs, Fl x) ∧ ∀ l ys H', ys.Perm xs → H l = none → H' l = some (.lst ys) → Pot p H' → Gx.Kp p H H' → Q (.ref l) H'
theorem p__law_mixed (T : Mo K mg) : Gx.Pr P w K mg base CX0 2 "_law_mixed" s__law_mixed ["_law_pot_here", "_law_some"] spMix := by
  refine T.d__law_mixed.ok sc__law_mixed (fun vs H Q E h => ?_) (fun f cdv A outer s H vs Q E hr h => ?_)
  · obtain ⟨p, o, xs, rfl, _⟩ := h
    rfl
  · obtain ⟨p, o, xs, rfl, hp, nop, ho, hl, hf, q⟩ := h
    have hu64 := hr.units
    refine ⟨_, (pss_cons (ps_par (i := 2) (j := 3) rfl sc__law_mixed.nd rfl rfl (by decide) rfl rfl (pa_cons (pe_callTy call_list_of (by rfl) T.b_list (by decide +kernel) (pa_cons (pv 1) pa_nil)) (pa_cons (pe_lst pa_nil) pa_nil)) (by rfl))
      (pss_cons (ps_while PassesOwn.never (pt_cmpR (op_neD hu64) (pv 2) (pe_lst pa_nil) (nomark _)) (pss_one (ps_expr (pe_bm PySem.F.plainAttrs_list PySem.F.slot_list_append PySem.F.type_list_append mt_append (pv 3) (pa_cons (pe_bm PySem.F.plainAttrs_list PySem.F.slot_list_pop PySem.F.type_list_pop mt_popAt (pv 2) (pa_cons (Gx.pe_pos (p__law_take T) hr (by decide) (by rfl) b__law_take pass0 (pa_cons (pv 0) (pa_cons (pe_callB call_len_seq (by rfl) T.b_len (by decide +kernel) (pa_cons (pv 2) pa_nil)) pa_nil))) pa_nil)) pa_nil)))))
      (pss_one (ps_ret (pv 3))))), ?_⟩
    refine ⟨_, rfl, o, xs, rfl, ho.elim (fun e => .inl (SqL.of e)) (fun e => .inr (SqT.of e)), fun r hr0 => ⟨by show 0 ≤ sizeLine; decide, fun D hD => ?_⟩⟩
    have nr : r ≠ p := fun e => by
      obtain ⟨a, b, e2, _⟩ := hp
      rw [← e, hr0] at e2
      cases e2
    have nrD : r ≠ D := fun e => by
      rw [← e, upd_same] at hD
      cases hD
    have hD0 : H D = none := by
      rw [upd_ne (Ne.symm nrD)] at hD
      exact hD
    have nD : D ≠ p := fun e => by
      obtain ⟨a, b, e2, _⟩ := hp
      rw [← e, hD0] at e2
      cases e2
    have s2 : Same H (L2.upd (L2.upd H r (.lst xs)) D (.lst [])) := (Gx.sameU hr0).trans (Gx.sameU hD)
    refine ⟨_, _, rfl, fun m σ H' => ∃ rs fs, m = rs.length ∧ σ = [some (.ref p), some (.ref o), some (.ref r), some (.ref D)] ∧ H' r = some (.lst rs) ∧ H' D = some (.lst fs) ∧ (fs ++ rs).Perm xs ∧ Pot p H' ∧ Gx.Kp p H H', ⟨xs.length, xs, [], rfl, rfl, ?_, upd_same, List.Perm.refl _, ?_, Gx.Kp.of s2⟩, fun m σ H' h => ?_⟩
    · rw [upd_ne nrD]
      exact upd_same
    · obtain ⟨a, b, e2, rr⟩ := hp
      exact ⟨a, b, s2 _ _ e2, rr⟩
    · obtain ⟨rs, fs, rfl, rfl, h1, h2, pm, hp', k⟩ := h
      have frs : ∀ x ∈ rs, Fl x := fun x hx => hf x (pm.mem_iff.mp (List.mem_append_right _ hx))
      have len : fs.length + rs.length ≤ 60 := by
        have := pm.length_eq
        rw [List.length_append] at this
        omega
      refine ⟨_, rfl, by show 0 ≤ sizeLine; decide, fun e1 n1 => ?_⟩
      have h1' : (L2.upd H' e1 (.lst [])) r = some (.lst rs) := by
        rw [upd_ne (ne_of_none h1 n1)]
        exact h1
      refine ⟨.list (rs.map dV), .list [], .lst (SqL.of h1') (fl_dp frs), .lst (SqL.of upd_same) .nil, fl_shaped frs, by decide +kernel, _, rfl, ?_⟩
      rw [eqv_emp]
      have h2' : (L2.upd H' e1 (.lst [])) D = some (.lst fs) := by
        rw [upd_ne (ne_of_none h2 n1)]
        exact h2
      have hp1 : Pot p (L2.upd H' e1 (.lst [])) := by
        obtain ⟨a, b, e2, rr⟩ := hp'
        exact ⟨a, b, by rw [upd_ne (ne_of_none e2 n1)]; exact e2, rr⟩
      have k1 : Gx.Kp p H (L2.upd H' e1 (.lst [])) := k.trans (Gx.Kp.of (Gx.sameU n1))
      match rs, frs, pm, h1', len with
      | [], _, pm, _, _ =>
        rw [List.append_nil] at pm
        exact iteF ⟨_, rfl, q D fs _ pm hD0 h2' hp1 k1⟩
      | x0 :: r0, frs, pm, h1', len =>
        refine iteT ⟨fun σ' H2 => ∃ m', m' < (x0 :: r0).length ∧ ∃ rs fs, m' = rs.length ∧ σ' = [some (.ref p), some (.ref o), some (.ref r), some (.ref D)] ∧ H2 r = some (.lst rs) ∧ H2 D = some (.lst fs) ∧ (fs ++ rs).Perm xs ∧ Pot p H2 ∧ Gx.Kp p H H2, fun _ _ h => h, ?_⟩
        simp only [List.length_cons] at len
        refine ⟨_, rfl, .inl ⟨rfl, _, SqL.of h2'⟩, _, rfl, .inl ⟨rfl, _, SqL.of h1'⟩, _, rfl, _, rfl, r, x0 :: r0, rfl, .inl (SqL.of h1'), p, _, rfl, hp1, ?_, ?_, fun i H2 i0 i1 hp2 k2 => ?_⟩
        · simp only [List.length_cons]
          omega
        · simp only [List.length_cons]
          omega
        · obtain ⟨n, rfl⟩ : ∃ n : Nat, i = (n : Int) := ⟨i.toNat, by omega⟩
          have hn : n < (x0 :: r0).length := by omega
          have hr2 := k2 _ _ nr h1'
          have hD2 := k2 _ _ nD h2'
          refine ⟨r, x0 :: r0, _, n, (x0 :: r0)[n], rfl, rfl, hr2, by omega, by simp only [List.length_cons] at hn; omega, ?_, List.getElem?_eq_getElem hn, ?_⟩
          · unfold seqIndex?
            rw [if_neg (show ¬ ((n : Int) < 0) by omega)]
            show (if (decide (0 ≤ (n : Int)) && decide ((n : Int) < ((x0 :: r0).length : Int))) = true then some (n : Int).toNat else none) = some n
            rw [decide_eq_true (show 0 ≤ (n : Int) by omega), decide_eq_true (show (n : Int) < ((x0 :: r0).length : Int) by omega)]
            simp
          · refine ⟨D, fs, _, rfl, rfl, ?_, ?_, _, ?_, (x0 :: r0).eraseIdx n, fs ++ [(x0 :: r0)[n]], rfl, rfl, ?_, upd_same, ?_, ?_, ?_⟩
            · rw [upd_ne (Ne.symm nrD)]
              exact hD2
            · exact Nat.lt_of_le_of_lt (show _ ≤ 60 by omega) (by decide)
            · rw [List.length_eraseIdx_of_lt hn]
              simp only [List.length_cons]
              omega
            · rw [upd_ne nrD]
              exact upd_same
            · rw [List.append_assoc]
              exact ((erase_perm hn).append_left fs).trans pm
            · obtain ⟨a, b, e2, rr⟩ := hp2
              exact ⟨a, b, by rw [upd_ne (Ne.symm nD), upd_ne (Ne.symm nr)]; exact e2, rr⟩
            · intro b o nb e
              rw [upd_ne (ne_of_none e hD0), upd_ne (ne_of_none e hr0)]
              exact (k1.trans k2) b o nb e
end
end My
namespace My
open PySem PySem.Spec PyProof.Rows L2
theorem Pot.same {p : Addr} {H H' : Hp} (h : Pot p H) (s : Same H H') : Pot p H' := let ⟨a, b, e, r⟩ := h; ⟨a, b, s _ _ e, r⟩
theorem Pot.ne {p q : Addr} {H : Hp} (h : Pot p H) (n : H q = none) : q ≠ p := fun e => by
  obtain ⟨a, b, e2, _⟩ := h
  rw [← e, n] at e2
  cases e2
/-- a term of a query, of these names -/
inductive TermV (zs : List Str) : V → Prop
  | str (z : Str) (h : nameZ z = true) (m : z ∈ zs) : TermV zs (.str z)
  | int (i : Int) (h : 0 ≤ i) (h2 : i < 1024) : TermV zs (.int i)
section
variable {P : Program} {w : World} {K : PySem.W.Frag} {mg : Str → Option Value} {base : Heap}
/-- names in a list -/
def Names (p o : Addr) (H : Hp) (zs : List Str) : Prop := o ≠ p ∧ H o = some (.lst (zs.map V.str)) ∧ zs.length ≤ 10 ∧ ∀ z ∈ zs, nameZ z = true
theorem Names.kp {p o : Addr} {H H' : Hp} {zs : List Str} (h : Names p o H zs) (k : Gx.Kp p H H') : Names p o H' zs := ⟨h.1, k _ _ h.1 h.2.1, h.2.2⟩
def spTerm : Sp := fun vs H Q _ => ∃ (p o : Addr) (zs : List Str), vs = [.ref p, .ref o] ∧ Pot p H ∧ Names p o H zs ∧ ∀ v H', TermV zs v → Pot p H' → Gx.Kp p H H' → Q v H'
theorem p__law_term (T : Mo K mg) : Gx.Pr P w K mg base CX0 3 "_law_term" s__law_term ["_law_pot_here", "_law_names"] spTerm := by
  refine T.d__law_term.ok sc__law_term (fun vs H Q E h => ?_) (fun f cdv A outer s H vs Q E hr h => ?_)
  · obtain ⟨p, o, zs, rfl, _⟩ := h
    rfl
  · obtain ⟨p, o, zs, rfl, hp, hn, q⟩ := h
    have hu64 := hr.units
    refine ⟨_, (pss_cons (ps_if (PW.pt (pw_or (pt_cmpR (op_eqD hu64) (pv 1) (pe_lst pa_nil) (nomark _)) (pw_or1 (pt_cmpR op_eq (Gx.pe_pos (p__law_take T) hr (by decide) (by rfl) b__law_take pass0 (pa_cons (pv 0) (pa_cons pe_int pa_nil))) pe_int (nomark _))))) (pss_one (ps_ret (Gx.pe_pos (p__law_pick T) hr (by decide) (by rfl) b__law_pick pass0 (pa_cons (pv 0) (pa_cons (pe_lst (pa_cons pe_int (pa_cons pe_int (pa_cons pe_int (pa_cons pe_int (pa_cons (Gx.pe_pos (p__law_take T) hr (by decide) (by rfl) b__law_take pass0 (pa_cons (pv 0) (pa_cons pe_int pa_nil))) pa_nil)))))) pa_nil))))) pss_nil)
      (pss_one (ps_ret (Gx.pe_pos (p__law_pick T) hr (by decide) (by rfl) b__law_pick pass0 (pa_cons (pv 0) (pa_cons (pv 1) pa_nil)))))), ?_⟩
    have fl : ∀ x ∈ zs.map V.str, Fl x := fun x hx => by
      obtain ⟨z, hz, rfl⟩ := List.mem_map.mp hx
      exact .str z (lw_ok (hn.2.2.2 z hz)).1 (lw_ok (hn.2.2.2 z hz)).2
    refine ⟨_, rfl, Nat.zero_le _, fun e1 n1 => ?_⟩
    have s1 := Gx.sameU n1 (o := .lst [])
    refine ⟨.list ((zs.map V.str).map dV), .list [], .lst (SqL.of (s1 _ _ hn.2.1)) (fl_dp fl), .lst (SqL.of upd_same) .nil, fl_shaped fl, by decide +kernel, _, rfl, ?_⟩
    rw [eqv_emp]
    have hp1 := hp.same s1
    have hn1 := hn.kp (Gx.Kp.of s1)
    have k01 := Gx.Kp.of (p := p) s1
    by_cases cz : zs = []
    · subst cz
      refine iteT ?_
      have hpA := hp1
      have kA := k01
      refine ⟨_, rfl, _, rfl, p, _, rfl, hpA, by decide, by decide, fun r2 H2 i0 i1 hp2 k2 => ⟨by show 5 ≤ sizeLine; decide, fun l hl => ?_⟩⟩
      have s2 := Gx.sameU hl (o := .lst [.int 0, .int 1, .int 7, .int 1023, .int r2])
      refine ⟨p, _, rfl, hp2.same s2, .inl ⟨l, _, rfl, hp2.ne hl, upd_same, by show 0 < 5; decide, by show 5 ≤ 1000; decide, fun x H3 hx hp3 k3 => q _ _ ?_ hp3 (((kA.trans k2).trans (Gx.Kp.of s2)).trans k3)⟩⟩
      simp only [List.mem_cons, List.not_mem_nil, or_false] at hx
      rcases hx with rfl | rfl | rfl | rfl | rfl
      · exact .int _ (by decide) (by decide)
      · exact .int _ (by decide) (by decide)
      · exact .int _ (by decide) (by decide)
      · exact .int _ (by decide) (by decide)
      · exact .int _ i0 i1
    · have c0 : (List.map dV (zs.map V.str)).isEmpty = false := by
        cases zs with
        | nil => exact absurd rfl cz
        | cons z r => rfl
      rw [c0]
      refine iteF ⟨_, rfl, p, _, rfl, hp1, by decide, by decide, fun r H1 r0 r1 hp1 k1 => ⟨rfl, _, rfl, ?_⟩⟩
      by_cases c : V.int r = V.int 0
      · rw [decide_eq_true c]
        refine iteT ?_
        have hpA := hp1
        have kA := k01.trans k1
        refine ⟨_, rfl, _, rfl, p, _, rfl, hpA, by decide, by decide, fun r2 H2 i0 i1 hp2 k2 => ⟨by show 5 ≤ sizeLine; decide, fun l hl => ?_⟩⟩
        have s2 := Gx.sameU hl (o := .lst [.int 0, .int 1, .int 7, .int 1023, .int r2])
        refine ⟨p, _, rfl, hp2.same s2, .inl ⟨l, _, rfl, hp2.ne hl, upd_same, by show 0 < 5; decide, by show 5 ≤ 1000; decide, fun x H3 hx hp3 k3 => q _ _ ?_ hp3 (((kA.trans k2).trans (Gx.Kp.of s2)).trans k3)⟩⟩
        simp only [List.mem_cons, List.not_mem_nil, or_false] at hx
        rcases hx with rfl | rfl | rfl | rfl | rfl
        · exact .int _ (by decide) (by decide)
        · exact .int _ (by decide) (by decide)
        · exact .int _ (by decide) (by decide)
        · exact .int _ (by decide) (by decide)
        · exact .int _ i0 i1
      · rw [decide_eq_false c]
        have hn2 := hn1.kp k1
        have zl : 0 < zs.length := List.length_pos_iff.mpr cz
        refine iteF ⟨_, rfl, _, rfl, p, _, rfl, hp1, .inl ⟨o, _, rfl, hn2.1, hn2.2.1, by rw [List.length_map]; exact zl, by rw [List.length_map]; exact Nat.le_trans hn2.2.2.1 (by decide), fun x H3 hx hp3 k3 => q _ _ ?_ hp3 ((k01.trans k1).trans k3)⟩⟩
        obtain ⟨z, hz, rfl⟩ := List.mem_map.mp hx
        exact .str z (hn.2.2.2 z hz) hz
end
end My
namespace My
open PySem PySem.Spec PyProof.Rows L2
theorem TermV.fl {zs : List Str} {v : V} (h : TermV zs v) : Fl v := by
  cases h with
  | str z h m => exact .str z (lw_ok h).1 (lw_ok h).2
  | int i h h2 => exact .int i (by omega)
theorem TermV.of {zs : List Str} {v : V} {z : Str} (h : TermV zs v) (e : PyData.str z = dV v) : z ∈ zs := by
  cases h with
  | str y h m =>
    cases e
    exact m
  | int i h h2 => cases e
theorem TermV.dat {zs : List Str} {p : Addr} {H : Hp} {v : V} (h : TermV zs v) : Gx.Dat p H v (dV v) ∧ termD (dV v) = true := by
  cases h with
  | str z h m => exact ⟨.str z (lw_ok h).1 (lw_ok h).2, by simp [dV, termD, nameD, h]⟩
  | int i h h2 => exact ⟨.int i (by omega), by simp [dV, termD, nameD, placeD, h, h2]⟩
theorem lit_cmp {sg : Str} {b o : PyData} (h : sg = "<" ∨ sg = "<=" ∨ sg = "=" ∨ sg = "!=") (hb : termD b = true) (ho : termD o = true) (hs : strD b = true ∨ strD o = true) : litD (.tuple [.str sg, b, o]) = true := by
  have h1 : rowW (.str sg) = false := by rcases h with rfl | rfl | rfl | rfl <;> decide +kernel
  have h2 : signW (.str sg) = true := by rcases h with rfl | rfl | rfl | rfl <;> decide +kernel
  simp only [litD, h1, h2, hb, ho, Bool.true_and]
  simpa using hs
theorem lit_row {k w : Str} {es : List PyData} (h : k = "row" ∨ k = "none") (hw : nameZ w = true) (h1 : 1 ≤ es.length) (h4 : es.length ≤ 4) (he : ∀ e ∈ es, termD e = true) : litD (.tuple [.str k, .str w, .tuple es]) = true := by
  have h0 : rowW (.str k) = true := by rcases h with rfl | rfl <;> decide +kernel
  simp only [litD, h0, if_true, nameD, hw, Bool.true_and, termsD, Bool.and_eq_true, decide_eq_true_eq, List.all_eq_true]
  exact ⟨h1, h4, he⟩
section
variable {P : Program} {w : World} {K : PySem.W.Frag} {mg : Str → Option Value} {base : Heap}
def spLit : Sp := fun vs H Q _ => ∃ (p o : Addr) (zs : List Str), vs = [.ref p, .ref o] ∧ Pot p H ∧ Names p o H zs ∧ ∀ t d H', t ≠ p → Gx.Dat p H' (.ref t) d → litD d = true → (∀ z, PyData.str z ∈ termsOf d → z ∈ zs) → Pot p H' → Gx.Kp p H H' → Q (.ref t) H'
theorem p__law_literal (T : Mo K mg) : Gx.Pr P w K mg base CX0 4 "_law_literal" s__law_literal ["_law_pot_here", "_law_names"] spLit := by
  refine T.d__law_literal.ok sc__law_literal (fun vs H Q E h => ?_) (fun f cdv A outer s H vs Q E hr h => ?_)
  · obtain ⟨p, o, zs, rfl, _⟩ := h
    rfl
  · obtain ⟨p, o, zs, rfl, hp, hn, q⟩ := h
    have hu64 := hr.units
    refine ⟨_, (pss_cons (ps_set (i := 2) sc__law_literal.nd rfl (Or.inl rfl) (Gx.pe_pos (p__law_take T) hr (by decide) (by rfl) b__law_take pass0 (pa_cons (pv 0) (pa_cons pe_int pa_nil))))
      (pss_cons (ps_if (PW.pt (pw_and (pt_cmpR op_eq (pv 2) pe_int (nomark _)) (pw_and1 (pt_cmpR (op_neD hu64) (pv 1) (pe_lst pa_nil) (nomark _))))) (pss_cons (ps_set (i := 3) sc__law_literal.nd rfl (Or.inl rfl) (Gx.pe_pos (p__law_mixed T) hr (by decide) (by rfl) b__law_mixed pass0 (pa_cons (pv 0) (pa_cons (pe_lst (pa_cons (Gx.pe_pos (p__law_pick T) hr (by decide) (by rfl) b__law_pick pass0 (pa_cons (pv 0) (pa_cons (pv 1) pa_nil))) (pa_cons (Gx.pe_pos (p__law_term T) hr (by decide) (by rfl) b__law_term pass0 (pa_cons (pv 0) (pa_cons (pv 1) pa_nil))) pa_nil))) pa_nil))))
      (pss_one (ps_ret (pe_tup (pa_cons (Gx.pe_pos (p__law_pick T) hr (by decide) (by rfl) b__law_pick pass0 (pa_cons (pv 0) (pa_cons (pe_lst (pa_cons pe_str (pa_cons pe_str (pa_cons pe_str (pa_cons pe_str pa_nil))))) pa_nil))) (pa_cons (pe_ix ix_list (pv 3) pe_int (fun _ _ => rfl)) (pa_cons (pe_ix ix_list (pv 3) pe_int (fun _ _ => rfl)) pa_nil))))))) pss_nil)
      (pss_cons (ps_set (i := 3) sc__law_literal.nd rfl (Or.inl rfl) (pe_callTy call_tuple_of (by rfl) T.b_tuple (by decide +kernel) (pa_cons (pe_lc (own := [("_law_at", 4)]) (g := gName 4) (tt := tYes) rfl sc__law_literal.nd (pi_range1 (by rfl) T.b_range (pa_cons (pe_op op_add pe_int (Gx.pe_pos (p__law_take T) hr (by decide) (by rfl) b__law_take pass0 (pa_cons (pv 0) (pa_cons pe_int pa_nil)))) pa_nil)) (blkOk_by (N := N__law_literal) (sc := defScope s__law_literal) (by decide +kernel)) (fun _ _ _ _ _ => (pg_name (i := 4) sc__law_literal.nd rfl (Or.inl rfl))) (fun _ _ _ _ _ => pts_nil) (fun _ _ _ _ _ => (Gx.pe_pos (p__law_term T) hr (by decide) (by rfl) b__law_term pass0 (pa_cons (pv 0) (pa_cons (pv 1) pa_nil))))) pa_nil)))
      (pss_one (ps_ret (pe_tup (pa_cons (pe_ix ix_list (pe_lst (pa_cons pe_str (pa_cons pe_str pa_nil))) (Gx.pe_pos (p__law_take T) hr (by decide) (by rfl) b__law_take pass0 (pa_cons (pv 0) (pa_cons pe_int pa_nil))) (fun _ _ => rfl)) (pa_cons (Gx.pe_pos (p__law_word T) hr (by decide) (by rfl) b__law_word pass0 (pa_cons (pv 0) (pa_cons (Gx.pe_pos (p__law_pick T) hr (by decide) (by rfl) b__law_pick pass0 (pa_cons (pv 0) (pa_cons (pe_lst (pa_cons pe_str (pa_cons pe_str (pa_cons pe_str pa_nil)))) pa_nil))) pa_nil))) (pa_cons (pv 3) pa_nil))))))))), ?_⟩
    refine ⟨_, rfl, p, _, rfl, hp, by decide, by decide, fun r H1 r0 r1 hp1 k1 => ⟨_, rfl, rfl, _, rfl, ?_⟩⟩
    have hn1 := hn.kp k1
    have fl : ∀ x ∈ zs.map V.str, Fl x := fun x hx => by
      obtain ⟨z, hz, rfl⟩ := List.mem_map.mp hx
      exact .str z (lw_ok (hn.2.2.2 z hz)).1 (lw_ok (hn.2.2.2 z hz)).2
    show if decide (V.int r = V.int 0) = true then _ else _
    by_cases c : V.int r = V.int 0
    · rw [decide_eq_true c]
      refine iteT ⟨_, rfl, Nat.zero_le _, fun e1 n1 => ?_⟩
      have s1 := Gx.sameU n1 (o := .lst [])
      refine ⟨.list ((zs.map V.str).map dV), .list [], .lst (SqL.of (s1 _ _ hn1.2.1)) (fl_dp fl), .lst (SqL.of upd_same) .nil, fl_shaped fl, by decide +kernel, _, rfl, ?_⟩
      rw [eqv_emp]
      have hp1 := hp1.same s1
      have hn1 := hn1.kp (Gx.Kp.of s1)
      have k1 := k1.trans (Gx.Kp.of s1)
      by_cases cz : zs = []
      · have c0 : (List.map dV (zs.map V.str)).isEmpty = true := by
          rw [cz]
          rfl
        rw [c0]
        refine iteF ?_
        have hpS := hp1
        have hnS := hn1
        have kS := k1
        refine ⟨_, rfl, p, _, rfl, hpS, by decide, by decide, fun r2 H2 i0 i1 hp2 k2 => ⟨_, _, rfl, rfl, 1 + r2, rfl, by omega, by omega, fun D hD => ?_⟩⟩
        obtain ⟨m, rfl⟩ : ∃ m : Nat, r2 = (m : Int) := ⟨r2.toNat, by omega⟩
        rw [show (1 + (m : Int)).toNat = m + 1 by omega]
        have nDp := hp2.ne hD
        have hn2 := hnS.kp k2
        refine lc_range (lo := 0) (n := m + 1) (fun i H' => Pot p H' ∧ Gx.Kp p H2 H' ∧ ∃ l : List V, l.length = i ∧ (∀ v ∈ l, TermV zs v) ∧ H' D = some (.lst l))
          ⟨hp2.same (Gx.sameU hD), Gx.Kp.of (Gx.sameU hD), [], rfl, (fun _ h => nomatch h), upd_same⟩ (fun i H4 hi h => ?_) fun H4 h => ?_
        · obtain ⟨R4, k4, l, hl, hs, hd⟩ := h
          refine ⟨rfl, _, rfl, _, rfl, p, o, zs, rfl, R4, hn2.kp k4, fun v H5 hv R5 k5 => ⟨_, k5 _ _ nDp hd, ?_, ?_, ?_, l ++ [v], ?_, ?_, ?_⟩⟩
          · rw [hl]
            exact Nat.lt_of_le_of_lt (show i ≤ 12 by omega) (by decide)
          · obtain ⟨a, b, e, o⟩ := R5
            exact ⟨a, b, by rw [upd_ne nDp.symm]; exact e, o⟩
          · intro b o nb e
            rw [upd_ne (ne_of_none e hD)]
            exact (k4.trans k5) b o nb e
          · rw [List.length_append, hl]
            rfl
          · intro x hx
            rcases List.mem_append.mp hx with h | h
            · exact hs x h
            · rw [List.mem_singleton.mp h]
              exact hv
          · exact upd_same
        · obtain ⟨R4, k4, l, hl, hs, hd⟩ := h
          refine ⟨D, l, rfl, .inl ⟨SqL.of hd, fun t2 ht2 => ?_⟩⟩
          have s5 := Gx.sameU ht2 (o := .tup l)
          refine ⟨by show 2 ≤ sizeLine; decide, fun l3 hl3 => ?_⟩
          have s6 := s5.trans (Gx.sameU hl3 (o := .lst [.str "row", .str "none"]))
          have R6 := R4.same s6
          refine ⟨_, rfl, p, _, rfl, R6, by decide, by decide, fun r4 HT j0 j1 R7 k6 => ?_⟩
          obtain ⟨kz, hk, ha⟩ : ∃ kz : Str, (kz = "row" ∨ kz = "none") ∧ atI [V.str "row", V.str "none"] r4 = some (V.str kz) := by
            rcases (show r4 = 0 ∨ r4 = 1 by omega) with rfl | rfl
            · exact ⟨"row", .inl rfl, rfl⟩
            · exact ⟨"none", .inr rfl, rfl⟩
          have okk : kz.length ≤ 100 ∧ ∀ c ∈ kz.cps.toList, c < 128 := by rcases hk with rfl | rfl <;> decide +kernel
          have n3p := (R4.same s5).ne hl3
          refine ⟨l3, _, _, _, rfl, rfl, SqL.of (k6 _ _ n3p upd_same), ha, ?_⟩
          refine ⟨_, rfl, _, rfl, by show 3 ≤ sizeLine; decide, fun l4 hl4 => ?_⟩
          have s7 := Gx.sameU hl4 (o := .lst [.str "a", .str "r", .str "z"])
          refine ⟨p, _, rfl, R7.same s7, .inl ⟨l4, _, rfl, R7.ne hl4, upd_same, by show 0 < 3; decide, by show 3 ≤ 1000; decide, fun x HU hx R8 k7 => ?_⟩⟩
          obtain ⟨cc, rfl, w0, w1, w2⟩ : ∃ cc, x = V.str (sign cc) ∧ isLw cc = true ∧ cc ≠ 110 ∧ cc ≠ 98 := by
            simp only [List.mem_cons, List.not_mem_nil, or_false] at hx
            rcases hx with rfl | rfl | rfl
            · exact ⟨97, by decide +kernel, by decide, by decide, by decide⟩
            · exact ⟨114, by decide +kernel, by decide, by decide, by decide⟩
            · exact ⟨122, by decide +kernel, by decide, by decide, by decide⟩
          refine ⟨p, cc, rfl, R8, w0, w1, w2, fun y HV hy R9 k8 => ⟨_, rfl, by show 3 ≤ sizeLine; decide, fun t ht => ?_⟩⟩
          have n2p := R4.ne ht2
          have h8 : HV t2 = some (.tup l) := k8 _ _ n2p (k7 _ _ n2p (s7 _ _ (k6 _ _ n2p (Gx.sameU hl3 _ _ upd_same))))
          have s9 := Gx.sameU ht (o := .tup [.str kz, .str y, .ref t2])
          have dl : ∀ {ls : List V}, (∀ v ∈ ls, TermV zs v) → Gx.DatL p (L2.upd HV t (.tup [.str kz, .str y, .ref t2])) ls (ls.map dV) ∧ ∀ e ∈ ls.map dV, termD e = true := by
            intro ls
            induction ls with
            | nil => exact fun _ => ⟨.nil, fun _ h => by cases h⟩
            | cons v r ih =>
              intro h
              obtain ⟨a1, a2⟩ := ih fun y hy => h y (List.mem_cons_of_mem _ hy)
              obtain ⟨b1, b2⟩ := (h v (by simp)).dat (p := p) (H := L2.upd HV t (.tup [.str kz, .str y, .ref t2]))
              refine ⟨.cons b1 a1, fun e he => ?_⟩
              rcases List.mem_cons.mp he with rfl | he
              · exact b2
              · exact a2 e he
          obtain ⟨d1, d2⟩ := dl hs
          have oky := lw_ok hy
          refine q t (.tuple [.str kz, .str y, .tuple (l.map dV)]) _ (R9.ne ht) (.tup (R9.ne ht) upd_same (.cons (.str kz okk.1 okk.2) (.cons (.str y oky.1 oky.2) (.cons (.tup n2p (s9 _ _ h8) d1) .nil))))
            (lit_row hk hy (by rw [List.length_map]; omega) (by rw [List.length_map]; omega) d2) (fun z hz => ?_) (R9.same s9) ((((((((kS.trans k2).trans k4).trans (Gx.Kp.of s6)).trans k6).trans (Gx.Kp.of s7)).trans k7).trans k8).trans (Gx.Kp.of s9))
          have e0 : rowW (.str kz) = true := by rcases hk with rfl | rfl <;> decide +kernel
          have hz : PyData.str z ∈ l.map dV := by simpa [termsOf, e0] using hz
          obtain ⟨x, hx, e⟩ := List.mem_map.mp hz
          exact (hs x hx).of e.symm
      · have c0 : (List.map dV (zs.map V.str)).isEmpty = false := by
          cases zs with
          | nil => exact absurd rfl cz
          | cons z r => rfl
        rw [c0]
        refine iteT ⟨_, rfl, _, rfl, _, rfl, p, _, rfl, hp1, .inl ⟨o, _, rfl, hn1.1, hn1.2.1, by rw [List.length_map]; exact List.length_pos_iff.mpr cz, by rw [List.length_map]; exact Nat.le_trans hn1.2.2.1 (by decide), fun x H2 hx hp2 k2 => ?_⟩⟩
        obtain ⟨z, hz, rfl⟩ := List.mem_map.mp hx
        have nz := hn1.2.2.2 z hz
        have hn2 := hn1.kp k2
        refine ⟨_, rfl, _, rfl, p, o, zs, rfl, hp2, hn2, fun v H3 hv hp3 k3 => ⟨by show 2 ≤ sizeLine; decide, fun l hl => ?_⟩⟩
        have s3 := Gx.sameU hl (o := .lst [.str z, v])
        refine ⟨p, l, [.str z, v], rfl, hp3.same s3, hp3.ne hl, .inl upd_same, by show 2 ≤ 60; decide, ?_, fun l2 ys H4 pm n2 h4 hp4 k4 => ?_⟩
        · intro x hx
          simp only [List.mem_cons, List.not_mem_nil, or_false] at hx
          rcases hx with rfl | rfl
          · exact (TermV.str z nz hz).fl
          · exact hv.fl
        · have kk : Gx.Kp p H H4 := (((k1.trans k2).trans k3).trans (Gx.Kp.of s3)).trans k4
          match ys, pm with
          | [y0, y1], pm =>
            have tm : ∀ y ∈ [y0, y1], TermV zs y := fun y hy => by
              have := pm.mem_iff.mp hy
              simp only [List.mem_cons, List.not_mem_nil, or_false] at this
              rcases this with rfl | rfl
              · exact .str z nz hz
              · exact hv
            have st : strD (dV y0) = true ∨ strD (dV y1) = true := by
              have := pm.mem_iff.mpr (show V.str z ∈ [V.str z, v] by simp)
              simp only [List.mem_cons, List.not_mem_nil, or_false] at this
              rcases this with e | e
              · exact .inl (by rw [← e]; rfl)
              · exact .inr (by rw [← e]; rfl)
            refine ⟨_, rfl, by show 4 ≤ sizeLine; decide, fun l3 hl3 => ?_⟩
            have s5 := Gx.sameU hl3 (o := .lst [.str "<", .str "<=", .str "=", .str "!="])
            refine ⟨p, _, rfl, hp4.same s5, .inl ⟨l3, _, rfl, hp4.ne hl3, upd_same, by show 0 < 4; decide, by show 4 ≤ 1000; decide, fun sg H5 hsg hp5 k5 => ?_⟩⟩
            have n2p : l2 ≠ p := (hp3.same s3).ne n2
            have h45 := k5 _ _ n2p (s5 _ _ h4)
            refine ⟨_, rfl, l2, _, 0, y0, rfl, rfl, SqL.of h45, rfl, _, rfl, l2, _, 1, y1, rfl, rfl, SqL.of h45, rfl, by show 3 ≤ sizeLine; decide, fun t ht => ?_⟩
            obtain ⟨sz, rfl, hsz⟩ : ∃ sz : Str, sg = .str sz ∧ (sz = "<" ∨ sz = "<=" ∨ sz = "=" ∨ sz = "!=") := by
              simp only [List.mem_cons, List.not_mem_nil, or_false] at hsg
              rcases hsg with rfl | rfl | rfl | rfl
              · exact ⟨_, rfl, .inl rfl⟩
              · exact ⟨_, rfl, .inr (.inl rfl)⟩
              · exact ⟨_, rfl, .inr (.inr (.inl rfl))⟩
              · exact ⟨_, rfl, .inr (.inr (.inr rfl))⟩
            have okz : sz.length ≤ 100 ∧ ∀ c ∈ sz.cps.toList, c < 128 := by rcases hsz with rfl | rfl | rfl | rfl <;> decide +kernel
            obtain ⟨d0, t0⟩ := (tm y0 (by simp)).dat (p := p) (H := L2.upd H5 t (.tup [.str sz, y0, y1]))
            obtain ⟨d1, t1⟩ := (tm y1 (by simp)).dat (p := p) (H := L2.upd H5 t (.tup [.str sz, y0, y1]))
            refine q t (.tuple [.str sz, dV y0, dV y1]) _ (hp5.ne ht) (.tup (hp5.ne ht) upd_same (.cons (.str sz okz.1 okz.2) (.cons d0 (.cons d1 .nil)))) (lit_cmp hsz t0 t1 st) (fun y hy => ?_) (hp5.same (Gx.sameU ht)) (((kk.trans (Gx.Kp.of s5)).trans k5).trans (Gx.Kp.of (Gx.sameU ht)))
            have e0 : rowW (.str sz) = false := by rcases hsz with rfl | rfl | rfl | rfl <;> decide +kernel
            have hy : PyData.str y ∈ [dV y0, dV y1] := by simpa [termsOf, e0] using hy
            simp only [List.mem_cons, List.not_mem_nil, or_false] at hy
            rcases hy with e | e
            · exact (tm y0 (by simp)).of e
            · exact (tm y1 (by simp)).of e
          | [], pm => exact absurd pm.length_eq (by simp)
          | [_], pm => exact absurd pm.length_eq (by simp)
          | _ :: _ :: _ :: _, pm => exact absurd pm.length_eq (by simp)
    · rw [decide_eq_false c]
      refine iteF ?_
      have hpS := hp1
      have hnS := hn1
      have kS := k1
      refine ⟨_, rfl, p, _, rfl, hpS, by decide, by decide, fun r2 H2 i0 i1 hp2 k2 => ⟨_, _, rfl, rfl, 1 + r2, rfl, by omega, by omega, fun D hD => ?_⟩⟩
      obtain ⟨m, rfl⟩ : ∃ m : Nat, r2 = (m : Int) := ⟨r2.toNat, by omega⟩
      rw [show (1 + (m : Int)).toNat = m + 1 by omega]
      have nDp := hp2.ne hD
      have hn2 := hnS.kp k2
      refine lc_range (lo := 0) (n := m + 1) (fun i H' => Pot p H' ∧ Gx.Kp p H2 H' ∧ ∃ l : List V, l.length = i ∧ (∀ v ∈ l, TermV zs v) ∧ H' D = some (.lst l))
        ⟨hp2.same (Gx.sameU hD), Gx.Kp.of (Gx.sameU hD), [], rfl, (fun _ h => nomatch h), upd_same⟩ (fun i H4 hi h => ?_) fun H4 h => ?_
      · obtain ⟨R4, k4, l, hl, hs, hd⟩ := h
        refine ⟨rfl, _, rfl, _, rfl, p, o, zs, rfl, R4, hn2.kp k4, fun v H5 hv R5 k5 => ⟨_, k5 _ _ nDp hd, ?_, ?_, ?_, l ++ [v], ?_, ?_, ?_⟩⟩
        · rw [hl]
          exact Nat.lt_of_le_of_lt (show i ≤ 12 by omega) (by decide)
        · obtain ⟨a, b, e, o⟩ := R5
          exact ⟨a, b, by rw [upd_ne nDp.symm]; exact e, o⟩
        · intro b o nb e
          rw [upd_ne (ne_of_none e hD)]
          exact (k4.trans k5) b o nb e
        · rw [List.length_append, hl]
          rfl
        · intro x hx
          rcases List.mem_append.mp hx with h | h
          · exact hs x h
          · rw [List.mem_singleton.mp h]
            exact hv
        · exact upd_same
      · obtain ⟨R4, k4, l, hl, hs, hd⟩ := h
        refine ⟨D, l, rfl, .inl ⟨SqL.of hd, fun t2 ht2 => ?_⟩⟩
        have s5 := Gx.sameU ht2 (o := .tup l)
        refine ⟨by show 2 ≤ sizeLine; decide, fun l3 hl3 => ?_⟩
        have s6 := s5.trans (Gx.sameU hl3 (o := .lst [.str "row", .str "none"]))
        have R6 := R4.same s6
        refine ⟨_, rfl, p, _, rfl, R6, by decide, by decide, fun r4 HT j0 j1 R7 k6 => ?_⟩
        obtain ⟨kz, hk, ha⟩ : ∃ kz : Str, (kz = "row" ∨ kz = "none") ∧ atI [V.str "row", V.str "none"] r4 = some (V.str kz) := by
          rcases (show r4 = 0 ∨ r4 = 1 by omega) with rfl | rfl
          · exact ⟨"row", .inl rfl, rfl⟩
          · exact ⟨"none", .inr rfl, rfl⟩
        have okk : kz.length ≤ 100 ∧ ∀ c ∈ kz.cps.toList, c < 128 := by rcases hk with rfl | rfl <;> decide +kernel
        have n3p := (R4.same s5).ne hl3
        refine ⟨l3, _, _, _, rfl, rfl, SqL.of (k6 _ _ n3p upd_same), ha, ?_⟩
        refine ⟨_, rfl, _, rfl, by show 3 ≤ sizeLine; decide, fun l4 hl4 => ?_⟩
        have s7 := Gx.sameU hl4 (o := .lst [.str "a", .str "r", .str "z"])
        refine ⟨p, _, rfl, R7.same s7, .inl ⟨l4, _, rfl, R7.ne hl4, upd_same, by show 0 < 3; decide, by show 3 ≤ 1000; decide, fun x HU hx R8 k7 => ?_⟩⟩
        obtain ⟨cc, rfl, w0, w1, w2⟩ : ∃ cc, x = V.str (sign cc) ∧ isLw cc = true ∧ cc ≠ 110 ∧ cc ≠ 98 := by
          simp only [List.mem_cons, List.not_mem_nil, or_false] at hx
          rcases hx with rfl | rfl | rfl
          · exact ⟨97, by decide +kernel, by decide, by decide, by decide⟩
          · exact ⟨114, by decide +kernel, by decide, by decide, by decide⟩
          · exact ⟨122, by decide +kernel, by decide, by decide, by decide⟩
        refine ⟨p, cc, rfl, R8, w0, w1, w2, fun y HV hy R9 k8 => ⟨_, rfl, by show 3 ≤ sizeLine; decide, fun t ht => ?_⟩⟩
        have n2p := R4.ne ht2
        have h8 : HV t2 = some (.tup l) := k8 _ _ n2p (k7 _ _ n2p (s7 _ _ (k6 _ _ n2p (Gx.sameU hl3 _ _ upd_same))))
        have s9 := Gx.sameU ht (o := .tup [.str kz, .str y, .ref t2])
        have dl : ∀ {ls : List V}, (∀ v ∈ ls, TermV zs v) → Gx.DatL p (L2.upd HV t (.tup [.str kz, .str y, .ref t2])) ls (ls.map dV) ∧ ∀ e ∈ ls.map dV, termD e = true := by
          intro ls
          induction ls with
          | nil => exact fun _ => ⟨.nil, fun _ h => by cases h⟩
          | cons v r ih =>
            intro h
            obtain ⟨a1, a2⟩ := ih fun y hy => h y (List.mem_cons_of_mem _ hy)
            obtain ⟨b1, b2⟩ := (h v (by simp)).dat (p := p) (H := L2.upd HV t (.tup [.str kz, .str y, .ref t2]))
            refine ⟨.cons b1 a1, fun e he => ?_⟩
            rcases List.mem_cons.mp he with rfl | he
            · exact b2
            · exact a2 e he
        obtain ⟨d1, d2⟩ := dl hs
        have oky := lw_ok hy
        refine q t (.tuple [.str kz, .str y, .tuple (l.map dV)]) _ (R9.ne ht) (.tup (R9.ne ht) upd_same (.cons (.str kz okk.1 okk.2) (.cons (.str y oky.1 oky.2) (.cons (.tup n2p (s9 _ _ h8) d1) .nil))))
          (lit_row hk hy (by rw [List.length_map]; omega) (by rw [List.length_map]; omega) d2) (fun z hz => ?_) (R9.same s9) ((((((((kS.trans k2).trans k4).trans (Gx.Kp.of s6)).trans k6).trans (Gx.Kp.of s7)).trans k7).trans k8).trans (Gx.Kp.of s9))
        have e0 : rowW (.str kz) = true := by rcases hk with rfl | rfl <;> decide +kernel
        have hz : PyData.str z ∈ l.map dV := by simpa [termsOf, e0] using hz
        obtain ⟨x, hx, e⟩ := List.mem_map.mp hz
        exact (hs x hx).of e.symm
end
end My
namespace My
open PySem PySem.Spec PyProof.Rows L2
theorem none_of {H G : Hp} {q : Addr} (s : Same H G) (n : G q = none) : H q = none := by
  cases e : H q with
  | none => rfl
  | some o =>
    have := s _ _ e
    rw [n] at this
    cases this
section
variable {P : Program} {w : World} {K : PySem.W.Frag} {mg : Str → Option Value} {base : Heap}
def spTs : Sp := fun vs H Q _ => ∃ p t d, vs = [.ref t] ∧ Gx.Dat p H (.ref t) d ∧ litD d = true ∧ ∀ l xs H', Same H H' → H l = none → H' l = some (.lst xs) → Gx.DatL p H' xs (termsOf d) → Q (.ref l) H'
theorem p__law_terms (T : Mo K mg) : Gx.Pr P w K mg base CX0 1 "_law_terms" s__law_terms ["_law_literal_here"] spTs := by
  refine T.d__law_terms.ok sc__law_terms (fun vs H Q E h => ?_) (fun f cdv A outer s H vs Q E hr h => ?_)
  · obtain ⟨p, t, d, rfl, _⟩ := h
    rfl
  · obtain ⟨p, t, d, rfl, td, gd, q⟩ := h
    refine ⟨_, (pss_one (ps_ret (pe_ifExp (pt_cmpR op_in_seq (pe_ix ix_tup (pv 0) pe_int (fun _ _ => rfl)) (pe_tup (pa_cons pe_str (pa_cons pe_str pa_nil))) (by rfl)) (pe_callTy call_list_of (by rfl) T.b_list (by decide +kernel) (pa_cons (pe_ix ix_tup (pv 0) pe_int (fun _ _ => rfl)) pa_nil)) (pe_callTy call_list_of (by rfl) T.b_list (by decide +kernel) (pa_cons (pe_slice sl_tup (pv 0) (po_some pe_int) po_none) pa_nil))))), ?_⟩
    obtain ⟨k, b, o, rfl, hk, l4, tms, r1, r2⟩ := lit_inv gd
    cases td with
    | @tup a2 ys _ n2 h2 rr =>
      match ys, rr with
      | [vk, vb, vo], .cons tk (.cons tb (.cons to_ .nil)) =>
      cases tk with
      | str z hz ha =>
        refine ⟨_, rfl, t, _, 0, _, rfl, rfl, SqT.of h2, rfl, by show 2 ≤ sizeLine; decide, fun e1 n1 => ?_⟩
        have s1 := Gx.sameU n1 (o := .tup [.str "row", .str "none"])
        refine ⟨e1, _, rfl, .inr (SqT.of upd_same), rfl, rfl, _, rfl, ?_⟩
        show if inV (.str z) ([("row" : Str), "none"].map V.str) = true then _ else _
        have e1' : rowW (.str z) = inV (.str z) ([("row" : Str), "none"].map V.str) := by
          rw [in_strs]
          simp [rowW]
        rw [← e1']
        have h21 := s1 _ _ h2
        cases c1 : rowW (.str z) with
        | true =>
          obtain ⟨es, rfl, e2⟩ := r1 c1
          cases to_ with
          | @tup t2 us _ n3 h3 rr3 =>
            refine iteT ⟨_, rfl, t, _, 2, _, rfl, rfl, SqT.of h21, rfl, t2, us, rfl, .inr (SqT.of (s1 _ _ h3)), fun l hl => ?_⟩
            have s2 := s1.trans (Gx.sameU hl (o := .lst us))
            refine q l us _ s2 ?_ upd_same ?_
            · exact none_of s1 hl
            · rw [e2]
              exact rr3.kp (Gx.Kp.of s2)
        | false =>
          refine iteF ⟨_, rfl, 1, rfl, t, _, rfl, SqT.of h21, by show ¬ (HT.sIx 3 0 (some 1) = 0 ∧ HT.sIx 3 3 none = 3); decide, fun q1 hq1 => ?_⟩
          refine ⟨q1, _, rfl, .inr (SqT.of upd_same), fun l hl => ?_⟩
          have s2 := (s1.trans (Gx.sameU hq1 (o := .tup (cutV [V.str z, vb, vo] (some 1) none)))).trans (Gx.sameU hl (o := .lst (cutV [V.str z, vb, vo] (some 1) none)))
          refine q l _ _ s2 (none_of (s1.trans (Gx.sameU hq1)) hl) upd_same ?_
          rw [r2 c1]
          exact .cons (tb.kp (Gx.Kp.of s2)) (.cons (to_.kp (Gx.Kp.of s2)) .nil)
      | _ => cases hk
end
end My
namespace My
open PySem PySem.Spec PyProof.Rows L2
theorem lit_ref {N : Addr → Prop} {H : Hp} {v : V} {d : PyData} (t : Gx.DatN N H v d) (h : litD d = true) : ∃ a, v = .ref a := by
  obtain ⟨k, b, o, rfl, _⟩ := lit_inv h
  cases t with
  | tup n h r => exact ⟨_, rfl⟩
section
variable {P : Program} {w : World} {K : PySem.W.Frag} {mg : Str → Option Value} {base : Heap}
def spFO : Sp := fun vs H Q _ => ∃ p a xs ds, vs = [.ref a] ∧ H a = some (.lst xs) ∧ Gx.DatL p H xs ds ∧ ds.length ≤ 20 ∧ (∀ d ∈ ds, litD d = true) ∧ ∀ t H', Same H H' → H t = none → H' t = some (.lst ((varsD ds).map V.str)) → Q (.ref t) H'
theorem p__law_first_order (T : Mo K mg) : Gx.Pr P w K mg base CX0 2 "_law_first_order" s__law_first_order ["_law_parts"] spFO := by
  refine T.d__law_first_order.ok sc__law_first_order (fun vs H Q E h => ?_) (fun f cdv A outer s H vs Q E hr h => ?_)
  · obtain ⟨p, a, xs, ds, rfl, _⟩ := h
    rfl
  · obtain ⟨p, a, xs, ds, rfl, hs, r, hn, good, q⟩ := h
    refine ⟨_, (pss_cons (ps_set (i := 1) sc__law_first_order.nd rfl (Or.inl rfl) (pe_lst pa_nil))
      (pss_cons (ps_for PassesOwn.never rfl (pi_list (pv 0)) (pg_name (i := 2) sc__law_first_order.nd rfl (Or.inl rfl)) (pss_one (ps_for PassesOwn.never rfl (pi_list (Gx.pe_pos (p__law_terms T) hr (by decide) (by rfl) b__law_terms pass0 (pa_cons (pv 2) pa_nil))) (pg_name (i := 3) sc__law_first_order.nd rfl (Or.inl rfl)) (pss_one (ps_if (PW.pt (pw_and (pt_val (pe_callB call_isi (by rfl) T.b_isinstance (by decide +kernel) (pa_cons (pv 3) (pa_cons (pe_bltn (v := .ty "str") rfl T.b_str (by decide +kernel) rfl) pa_nil)))) (pw_and1 (pt_cmpR op_notIn_seq (pv 3) (pv 1) (by rfl))))) (pss_one (ps_expr (pe_bm PySem.F.plainAttrs_list PySem.F.slot_list_append PySem.F.type_list_append mt_append (pv 1) (pa_cons (pv 3) pa_nil)))) pss_nil)))))
      (pss_one (ps_ret (pv 1))))), ?_⟩
    refine ⟨by show 0 ≤ sizeLine; decide, fun D hD => ?_⟩
    have s0 : Same H (L2.upd H D (.lst [])) := Gx.sameU hD
    refine ⟨_, rfl, a, rfl, ⟨_, SqL.of (s0 _ _ hs)⟩, ?_⟩
    refine for_it (walk_list (K := K) (a := a) (xs := xs)) (fun i σ H' => Same H H' ∧ H' D = some (.lst ((varsD (ds.take i)).map V.str)) ∧ ∃ l u, σ = [some (.ref a), some (.ref D), l, u]) ⟨s0, upd_same, _, _, rfl⟩ (fun i σ H' _ h => SqL.of (h.1 _ _ hs)) (fun i v σ H1 H2 hi h Y => ?_) fun σ H1 h => ?_
    · obtain ⟨s1, hD1, l, u, rfl⟩ := h
      obtain ⟨rfl, hv⟩ := Y
      obtain ⟨d, hd, tv⟩ := r.get hv
      have gd := good d (List.mem_of_getElem? hd)
      obtain ⟨t, rfl⟩ := lit_ref tv gd
      obtain ⟨k, b, o, _, hk, l4, tms, r1, r2⟩ := lit_inv gd
      have vl := vars_len (ds := ds.take i) fun e he => good e (List.mem_of_mem_take he)
      refine ⟨_, rfl, p, t, d, rfl, tv.kp (Gx.Kp.of s1), gd, fun q1 us H3 s3 n1 hq1 r3 => ⟨q1, rfl, ⟨_, SqL.of hq1⟩, ?_⟩⟩
      have neD : q1 ≠ D := fun e => by
        rw [e, hD1] at n1
        cases n1
      refine for_it (walk_list (K := K) (a := q1) (xs := us)) (fun j σ H' => Same H H' ∧ H' q1 = some (.lst us) ∧ H' D = some (.lst ((foS (varsD (ds.take i)) ((termsOf d).take j)).map V.str)) ∧ ∃ u, σ = [some (.ref a), some (.ref D), some (.ref t), u]) ⟨s1.trans s3, hq1, s3 _ _ hD1, _, rfl⟩ (fun j σ H' _ h => SqL.of h.2.1) (fun j y σ H4 H5 hj h Y => ?_) fun σ H4 h => ?_
      · obtain ⟨s4, h4, hD4, u, rfl⟩ := h
        obtain ⟨rfl, hy⟩ := Y
        obtain ⟨e, he, te⟩ := r3.get hy
        have ge := tms e (List.mem_of_getElem? he)
        have ft := foS_take (varsD (ds.take i)) he
        have bl : (foS (varsD (ds.take i)) ((termsOf d).take j)).length < sizeLine := by
          have := foS_len ((termsOf d).take j) (varsD (ds.take i))
          rw [List.length_take] at *
          exact Nat.lt_of_le_of_lt (show _ ≤ 100 by omega) (by decide)
        cases te with
        | str z2 hz2 ha2 =>
          refine ⟨_, rfl, .str z2, .ty "str", _, _, _, rfl, .ty _, (Gx.DatN.str (N := fun a => a ≠ p) z2 hz2 ha2).ty, Gx.kit_D (by simp), _, rfl, ?_⟩
          refine ⟨_, rfl, _, rfl, D, _, rfl, .inl (SqL.of hD4), rfl, flat_strs _, _, rfl, ?_⟩
          show if (!inV (.str z2) ((foS (varsD (ds.take i)) ((termsOf d).take j)).map V.str)) = true then _ else _
          rw [in_strs]
          by_cases c : z2 ∈ foS (varsD (ds.take i)) ((termsOf d).take j)
          · rw [show ((foS (varsD (ds.take i)) ((termsOf d).take j)).any fun y => decide (z2 = y)) = true from List.any_eq_true.mpr ⟨z2, c, by simp⟩]
            refine iteF ⟨s4, h4, ?_, _, rfl⟩
            rw [hD4, ft]
            simp [addS, c]
          · rw [show ((foS (varsD (ds.take i)) ((termsOf d).take j)).any fun y => decide (z2 = y)) = false from List.any_eq_false.mpr fun y hy => by
              simp only [decide_eq_true_eq]
              exact fun e => c (e ▸ hy)]
            refine iteT ⟨_, rfl, .inl ⟨rfl, _, SqL.of hD4⟩, _, rfl, D, _, _, rfl, rfl, hD4, by rw [List.length_map]; exact bl, ?_⟩
            refine ⟨fun b o e => ?_, ?_, ?_, _, rfl⟩
            · rw [upd_ne (ne_of_none e hD)]
              exact s4 b o e
            · rw [upd_ne neD]
              exact h4
            · rw [upd_same, ft]
              simp [addS, c]
        | int n hn =>
          refine ⟨_, rfl, .int n, .ty "str", _, _, _, rfl, .ty _, (Gx.DatN.int (N := fun a => a ≠ p) n hn).ty, Gx.kit_D (by simp), _, rfl, ?_⟩
          refine iteF (iteF ⟨s4, h4, ?_, _, rfl⟩)
          rw [hD4, ft]
          rfl
        | _ => cases ge
      · obtain ⟨s4, h4, hD4, u, rfl⟩ := h
        refine ⟨s4, ?_, _, _, rfl⟩
        rw [hD4, vars_take hd, r3.len, List.take_length]
    · obtain ⟨s1, hD1, l, u, rfl⟩ := h
      rw [r.len, List.take_length] at hD1
      exact ⟨_, rfl, q D _ s1 hD hD1⟩
end
end My
namespace My
open PySem PySem.Spec PyProof.Rows L2
theorem mk_ok {mg : Str → Option Value} {p : Addr} {x y : V} {dx dy : PyData} {H : Hp} {op : HO} (tx : Gx.Dat p H x dx) (ty : Gx.Dat p H y dy) (hp : H p = some op) (hy : ∀ ds, dy = .tuple ds → ds.length < 64) (R : Addr → Hp → Prop) (E1 : XK)
    (hm : ∀ q H' ds, Same H H' → q ≠ p → itemsD dx = some ds → probD dx dy = none → QryAt mg p H' q ds (varD ds dy) → R q H')
    (he : ∀ z i H' d, Same H H' → probD dx dy = some (z, i) → H' d = none → E1 (.ref (Gx.cl mg "InvalidQuery")) (some d) (L2.upd H' d (.xd [("position", .int i), ("problem", .str z)]))) :
    ∀ q dd, H q = none → H dd = none → dd ≠ q → spQI mg [.ref q, x, y] (L2.upd (L2.upd H dd (.own q)) q (.ins (Gx.cl mg "Query") dd [])) (fun v H3 => v = .non ∧ R q H3) E1 := by
  intro q dd h1 h2 h3
  have s1 : Same H (L2.upd (L2.upd H dd (.own q)) q (.ins (Gx.cl mg "Query") dd [])) := (Gx.sameU h2).trans (Gx.sameU (by rw [upd_ne h3.symm]; exact h1))
  have nqp : q ≠ p := fun e => by
    rw [e, hp] at h1
    cases h1
  refine ⟨p, q, dd, x, y, dx, dy, rfl, upd_same, ⟨_, s1 _ _ hp⟩, nqp, tx.kp (Gx.Kp.of s1), ty.kp (Gx.Kp.of s1), hy, fun H' ds k e c hq => ⟨rfl, hm q H' ds (fun b o z => ?_) nqp e c hq⟩, fun z i H' d s c hd => he z i H' d (s1.trans s) c hd⟩
  exact k b o (ne_of_none z h1) (s1 _ _ z)
/-- what is wrong with the literals alone, and then with an order of some values -/
theorem prob_order {ds es : List PyData} {dl : PyData} (e : itemsD dl = some ds) (h : probD dl .none = none) : probD dl (.tuple es) = if orderD (.tuple es) (varsD ds) = true then none else some (("order" : Str), (-1 : Int)) := by
  simp only [probD, e] at h ⊢
  by_cases c : ds.length = 0 ∨ 8 < ds.length
  · rw [if_pos c] at h
    cases h
  · rw [if_neg c] at h ⊢
    cases b : badD ds with
    | some i =>
      rw [b] at h
      cases h
    | none =>
      rw [b] at h
      dsimp only at h ⊢
      by_cases c5 : 5 < (varsD ds).length
      · rw [if_pos c5] at h
        cases h
      · rw [if_neg c5]
        simp only [nonD, Bool.false_or]
section
variable {P : Program} {w : World} {K : PySem.W.Frag} {mg : Str → Option Value} {base : Heap}
/-- how Query.in_order ends, called with values of these data -/
def InOrd (mg : Str → Option Value) (p q : Addr) (ds es : List PyData) (H : Hp) (Q : VK) (E : XK) : Prop :=
  (orderD (.tuple es) (varsD ds) = true → ∀ q' H', Same H H' → q' ≠ p → QryAt mg p H' q' ds (.tuple es) → Q (.ref q') H') ∧
    (orderD (.tuple es) (varsD ds) = false → ∀ H' d, Same H H' → H' d = none → E (.ref (Gx.cl mg "InvalidQuery")) (some d) (L2.upd H' d (.xd [("position", .int (-1)), ("problem", .str "order")])))
def spIO (mg : Str → Option Value) : Sp := fun vs H Q E => ∃ (p q v : Addr) (ds : List PyData) (dv : PyData) (rest : List V) (es : List PyData), vs = [.ref q, .ref v] ∧ QryAt mg p H q ds dv ∧ H v = some (.tup rest) ∧ v ≠ p ∧ Gx.DatL p H rest es ∧ es.length < 64 ∧ (∃ o, H p = some o) ∧ probD (.tuple ds) .none = none ∧ InOrd mg p q ds es H Q E
theorem p_Query_in_order (T : Mo K mg) : Gx.PrS P w K mg base (L2.CX P w) 10 "Query" "in_order" (spIO mg) := by
  refine T.d_Query_in_order.okS sc_Query_in_order bs0_Query_in_order bs1_Query_in_order (fun f cdv A outer s H vs Q E hr h => ?_)
  obtain ⟨p, q, v, ds, dv, rest, es, rfl, ⟨dx, l, v0, xs, h1, h2, h3, h4, h5⟩, hv, nvp, de, el, ⟨op, hp⟩, pn, qn, qe⟩ := h
  refine ⟨_, (pss_one (ps_ret (Gx.pe_mkP (E := fun _ => E) (p_Query___init__ T) T.mk_Query hr (by decide) (by rfl) (by simp) mb_Query_2 (fun _ pins H s e s' I z => (passes_call (takes_of rfl rfl rfl rfl) fun _ _ _ _ h => h) pins _ H s e s' I z) (pa_cons (pe_fld (pv 0) rfl) (pa_cons (pv 1) pa_nil))))), ?_⟩
  have po := prob_order (es := es) (show itemsD (.tuple ds) = some ds from rfl) pn
  refine ⟨_, rfl, q, _, dx, _, _, rfl, h1, T.d_Query_in_order.c, T.n_Query__literals, rfl, _, rfl, rfl, rfl, mk_ok (dx := .tuple ds) (dy := .tuple es) (.tup h3 h2 h4) (.tup nvp hv de) hp (fun fs e => by cases e; exact el) _ _ (fun q' H' fs s1 nq e c hq' => ?_) fun z i H' d s1 c hd => ?_⟩
  · obtain rfl : ds = fs := Option.some.inj e
    rw [po] at c
    have o : orderD (.tuple es) (varsD ds) = true := by
      cases oc : orderD (.tuple es) (varsD ds) with
      | true => rfl
      | false =>
        rw [oc, if_neg (by simp)] at c
        cases c
    exact qn o q' H' s1 nq hq'
  · rw [po] at c
    have o : orderD (.tuple es) (varsD ds) = false := by
      cases oc : orderD (.tuple es) (varsD ds) with
      | false => rfl
      | true =>
        rw [oc, if_pos rfl] at c
        cases c
    rw [o, if_neg (by simp)] at c
    cases c
    exact qe o H' d s1 hd
end
end My
namespace My
open PySem PySem.Spec PyProof.Rows L2
section
variable {P : Program} {w : World} {K : PySem.W.Frag} {mg : Str → Option Value} {base : Heap}
/-- data that can be compared by its parts -/
def Fit (d : PyData) : Prop := PyData.hasDict d = false ∧ SeqAt.shaped d = true
def spEq (K : PySem.W.Frag) (mg : Str → Option Value) : Sp := fun vs H Q _ => ∃ (p q : Addr) (y : V) (ds : List PyData) (dv : PyData), vs = [.ref q, y] ∧ QryAt mg p H q ds dv ∧
  ((∃ (r : Addr) (es : List PyData) (de : PyData), y = .ref r ∧ QryAt mg p H r es de ∧ Fit (.tuple ds) ∧ Fit (.tuple es) ∧ Fit dv ∧ Fit de ∧ Q (.bl (PyData.eqv (.tuple ds) (.tuple es) && PyData.eqv dv de)) H) ∨
   (∃ t ∈ Gx.datTys, TyX K H y (.type t) ∧ Q (.bl false) H))
theorem p_Query___eq__ (T : Mo K mg) : Gx.PrM P w K mg base CX0 1 "Query" "__eq__" "Query.__eq__" s_Query___eq__ ["self", "other"] [] (spEq K mg) := by
  refine T.d_Query___eq__.ok sc_Query___eq__ (fun vs H Q E h => ?_) (fun f cdv A outer s H vs Q E hr h => ?_)
  · obtain ⟨p, q, y, ds, dv, rfl, _⟩ := h
    rfl
  · obtain ⟨p, q, y, ds, dv, rfl, ⟨dx, l, v, xs, h1, h2, h3, h4, h5⟩, h⟩ := h
    have hu64 := hr.units
    refine ⟨_, (pss_one (ps_ret (pe_and (pe_callB call_isi (by rfl) T.b_isinstance (by decide +kernel) (pa_cons (pv 1) (pa_cons (Gx.pe_k rfl T.o_Query.known) pa_nil))) (pe_and (pe_cmpR (op_eqD hu64) (pe_fld (pv 0) rfl) (pe_fld (pv 1) rfl) (nomark _)) (pe_one (pe_cmpR (op_eqD hu64) (pe_fld (pv 0) rfl) (pe_fld (pv 1) rfl) (nomark _))))))), ?_⟩
    rcases h with ⟨r, es, de, rfl, ⟨ey, m, u, ys, g1, g2, g3, g4, g5⟩, f1, f2, f3, f4, qq⟩ | ⟨t, ht, td, qq⟩
    · refine ⟨_, rfl, _, .ref (Gx.cl mg "Query"), _, _, true, rfl, .own _, T.o_Query.tyx g1, T.o_Query.self, true, rfl, ?_⟩
      refine ⟨_, rfl, q, _, dx, _, _, rfl, h1, T.d_Query___eq__.c, T.n_Query__literals, rfl, _, rfl, r, _, ey, _, _, rfl, g1, T.d_Query___eq__.c, T.n_Query__literals, rfl, .tuple ds, .tuple es, (show Gx.Dat p H (.ref l) (.tuple ds) from .tup h3 h2 h4).dp f1.1, (show Gx.Dat p H (.ref m) (.tuple es) from .tup g3 g2 g4).dp f2.1, f1.2, f2.2, _, rfl, ?_⟩
      by_cases e : PyData.eqv (.tuple ds) (.tuple es) = true
      · rw [e, if_pos rfl]
        rw [e, Bool.true_and] at qq
        exact ⟨_, rfl, q, _, dx, _, _, rfl, h1, T.d_Query___eq__.c, T.n_Query__variables, rfl, _, rfl, r, _, ey, _, _, rfl, g1, T.d_Query___eq__.c, T.n_Query__variables, rfl, dv, de, h5.dp f3.1, g5.dp f4.1, f3.2, f4.2, qq⟩
      · rw [if_neg e]
        rw [Bool.eq_false_iff.mpr e, Bool.false_and] at qq
        exact qq
    · exact ⟨_, rfl, _, .ref (Gx.cl mg "Query"), _, _, false, rfl, .own _, td, T.o_Query.dat ht, false, rfl, qq⟩
end
end My
namespace My
open PySem PySem.Spec PyProof.Rows L2
theorem jl {a b : Str} {m n : Nat} (h : a.length ≤ m) (h' : b.length ≤ n) : (a ++ b).length ≤ m + n := by
  rw [PySem.Str.length_append]
  omega
theorem jb {a : Str} {m : Nat} (h : a.length ≤ m) (d : m ≤ 16777216) : a.length ≤ sizeLine := Nat.le_trans h d
theorem join_le (a : Str) (m : Nat) : ∀ (ys : List Str), (∀ y ∈ ys, y.length ≤ m) → (Str.join a ys).length ≤ ys.length * (m + a.length)
  | [], _ => Nat.zero_le _
  | [y], h => by
    have := h y (by simp)
    show y.length ≤ 1 * (m + a.length)
    omega
  | y :: z :: r, h => by
    have h1 := h y (by simp)
    have h2 := join_le a m (z :: r) fun x hx => h x (List.mem_cons_of_mem _ hx)
    have h3 := jl (jl h1 (Nat.le_refl a.length)) h2
    show (y ++ a ++ Str.join a (z :: r)).length ≤ (r.length + 1 + 1) * (m + a.length)
    rw [Nat.add_mul (r.length + 1), Nat.one_mul]
    simp only [List.length_cons] at h3
    omega
theorem sum_le (m : Nat) : ∀ (ys : List Str), (∀ y ∈ ys, y.length ≤ m) → (ys.map (·.length)).sum ≤ ys.length * m
  | [], _ => Nat.zero_le _
  | y :: r, h => by
    have h1 := h y (by simp)
    have h2 := sum_le m r fun x hx => h x (List.mem_cons_of_mem _ hx)
    simp only [List.map_cons, List.sum_cons, List.length_cons, Nat.add_mul, Nat.one_mul]
    omega
theorem small_log {i : Int} (h : i.natAbs < 10 ^ 100) : i.natAbs.log2 < 1920 := PySem.Flt.log2_lt_of (by decide) (Nat.lt_of_lt_of_le h (by decide +kernel))
theorem small_text {i : Int} (h : i.natAbs < 10 ^ 100) : (Str.ofString (toString i)).length ≤ 200 := by
  have e := int_text_length_le10 (k := 100) (by decide) h
  rw [PySem.ofString_length]
  omega
theorem fmt_term {p : Addr} {H : Hp} {v : V} {d : PyData} (t : Gx.Dat p H v d) (h : termD d = true) {Q : V → Hp → Prop} (q : ∀ y : Str, y.length ≤ 200 → Q (.str y) H) : (∃ y : Str, v = .str y ∧ y.length ≤ sizeLine ∧ Q (.str y) H) ∨ ∃ i : Int, v = .int i ∧ i.natAbs.log2 < 1920 ∧ Q (.str (toString i)) H := by
  cases t with
  | str z hz _ => exact .inl ⟨z, rfl, jb hz (by decide), q z (by omega)⟩
  | int i hi => exact .inr ⟨i, rfl, small_log hi, q _ (small_text hi)⟩
  | non => cases h
  | bl _ => cases h
  | lst _ _ _ => cases h
  | tup _ _ _ => cases h
  | nil _ _ => cases h
  | one _ _ _ _ => cases h
theorem fmt_tm {p : Addr} {te : TE} {σ : L2.St} {H : Hp} {v : V} {d : PyData} {Q : VK} (e : ∀ R : VK, R v H → te σ H R) (t : Gx.Dat p H v d) (h : termD d = true) (q : ∀ y : Str, y.length ≤ 200 → Q (.str y) H) : tFmt te σ H Q := e _ (fmt_term (Q := Q) t h q)
theorem row_sign {z : Str} (h : rowW (.str z) = true) : signW (.str z) = false := by
  simp only [rowW, Bool.or_eq_true, decide_eq_true_eq] at h
  rcases h with rfl | rfl <;> decide +kernel
section
variable {P : Program} {w : World} {K : PySem.W.Frag} {mg : Str → Option Value} {base : Heap}
def spTx : Sp := fun vs H Q _ => ∃ p x d, vs = [x] ∧ Gx.Dat p H x d ∧ litD d = true ∧ ∀ (z : Str) H', Same H H' → z.length ≤ 1000 → Q (.str z) H'
theorem p_text_of (T : Mo K mg) : Gx.Pr P w K mg base CX0 1 "text_of" s_text_of ["literal"] spTx := by
  refine T.d_text_of.ok sc_text_of (fun vs H Q E h => ?_) (fun f cdv A outer s H vs Q E hr h => ?_)
  · obtain ⟨p, x, d, rfl, _⟩ := h
    rfl
  · obtain ⟨p, x, d, rfl, t, hl, q⟩ := h
    obtain ⟨k, b, o, rfl, hk, _, _, h1, h2⟩ := lit_inv hl
    refine ⟨_, (pss_cons (ps_asg (pv 0) (pg_tup rfl (pgs_cons (pg_name (i := 1) sc_text_of.nd rfl (Or.inl rfl)) (pgs_cons (pg_name (i := 2) sc_text_of.nd rfl (Or.inl rfl)) (pgs_cons (pg_name (i := 3) sc_text_of.nd rfl (Or.inl rfl)) pgs_nil)))))
      (pss_cons (ps_if (pt_cmpR op_in_seq (pv 1) (Gx.pe_k rfl T.g_SIGNS.known) (by rfl)) (pss_one (ps_ret (pe_joined (.cons (pe_fmt (pv 2)) (.cons pe_str (.cons (pe_fmt (pv 1)) (.cons pe_str (.cons (pe_fmt (pv 3)) .nil)))))))) pss_nil)
      (pss_cons (ps_set (i := 4) sc_text_of.nd rfl (Or.inl rfl) (pe_bm PySem.F.plainAttrs_str PySem.F.slot_str_join PySem.F.type_str_join mt_join pe_str (pa_cons (pe_lc (own := [("term", 5)]) (g := gName 5) (tt := tYes) rfl sc_text_of.nd (pi_tup (pv 3)) (blkOk_by (N := N_text_of) (sc := defScope s_text_of) (by decide +kernel)) (fun _ _ _ _ _ => (pg_name (i := 5) sc_text_of.nd rfl (Or.inl rfl))) (fun _ _ _ _ _ => pts_nil) (fun _ _ _ _ _ => (pe_callTy (CallR.or SkE.call_str_str call_str_int) (by rfl) T.b_str (by decide +kernel) (pa_cons (pv 5) pa_nil)))) pa_nil)))
      (pss_cons (ps_set (i := 6) sc_text_of.nd rfl (Or.inl rfl) (pe_ifExp (pt_cmpR op_eq (pv 1) pe_str (nomark _)) (Gx.pe_k rfl T.g_BEFORE_DENIED) pe_str))
      (pss_one (ps_ret (pe_joined (.cons (pe_fmt (pv 6)) (.cons (pe_fmt (pv 2)) (.cons pe_str (.cons (pe_fmt (pv 4)) (.cons pe_str .nil)))))))))))), ?_⟩
    cases t with
    | @tup a xs _ n h r =>
      match xs, r, hl with
      | [vk, vb, vo], .cons tk (.cons tb (.cons to_ .nil)), hl =>
      cases tk with
      | str z hz ha =>
        refine ⟨_, rfl, a, [.str z, vb, vo], rfl, SqT.of h, rfl, .str z, _, rfl, vb, _, rfl, vo, _, rfl, rfl, ?_⟩
        refine ⟨_, rfl, _, _, rfl, .inr (T.g_SIGNS.t H), rfl, rfl, _, rfl, ?_⟩
        have e2 : signW (.str z) = inV (.str z) ([("<" : Str), "<=", "=", "!="].map V.str) := by
          rw [in_strs]
          simp [signW]
        show if inV (.str z) ([("<" : Str), "<=", "=", "!="].map V.str) = true then _ else _
        rw [← e2]
        have l0 : Str.empty.length ≤ 0 := Nat.le_refl _
        have l1 : ((" " : String) : Str).length ≤ 1 := Nat.le_refl _
        cases c2 : signW (.str z) with
        | true =>
          have c1 : rowW (.str z) = false := by
            cases c : rowW (.str z) with
            | false => rfl
            | true =>
              rw [row_sign c] at c2
              cases c2
          simp only [litD] at hl
          rw [c1, if_neg (by simp)] at hl
          simp only [Bool.and_eq_true] at hl
          obtain ⟨_, hb, ho, _⟩ := hl
          refine iteT ?_
          dsimp only [tRet, tJs]
          refine fmt_tm (fun R r => ⟨vb, rfl, r⟩) tb hb fun y1 g1 => ?_
          have a1 := jl l0 g1
          have a2 := jl a1 l1
          have a3 := jl a2 hz
          have a4 := jl a3 l1
          refine ⟨y1, rfl, jb a1 (by decide), " ", rfl, jb a2 (by decide), _, rfl, .inl ⟨z, rfl, jb hz (by decide), z, rfl, jb a3 (by decide), " ", rfl, jb a4 (by decide), ?_⟩⟩
          refine fmt_tm (fun R r => ⟨vo, rfl, r⟩) to_ ho fun y2 g2 => ?_
          have a5 := jl a4 g2
          exact ⟨y2, rfl, jb a5 (by decide), q _ H (Same.refl H) (Nat.le_trans a5 (by decide))⟩
        | false =>
          refine iteF ?_
          have c1 : rowW (.str z) = true := by
            cases c : rowW (.str z) with
            | true => rfl
            | false =>
              simp only [litD] at hl
              rw [c, if_neg (by simp), c2] at hl
              cases hl
          obtain ⟨es, rfl, e3⟩ := h1 c1
          simp only [litD] at hl
          rw [c1, if_pos rfl] at hl
          simp only [Bool.and_eq_true, termsD, decide_eq_true_eq, List.all_eq_true] at hl
          obtain ⟨hb, _, l4, hes⟩ := hl
          cases to_ with
          | @tup t us _ n2 h2' r2 =>
            refine ⟨rfl, _, rfl, t, rfl, ⟨us, SqT.of h2'⟩, fun D hD => ?_⟩
            refine lc_it (walk_tup (K := K) (a := t) (xs := us)) (fun i H' => Same H H' ∧ ∃ ys : List Str, ys.length = i ∧ (∀ y ∈ ys, y.length ≤ 200) ∧ H' D = some (.lst (ys.map V.str))) ⟨Gx.sameU hD, [], rfl, (fun _ h => nomatch h), upd_same⟩ (fun i H' _ h' => .inl (.inl (h'.1 _ _ h2'))) (fun i v H1 H2 hi h' Y => ?_) fun H1 h' => ?_
            · obtain ⟨s3, ys, ly, hy, hD3⟩ := h'
              obtain ⟨rfl, he⟩ := Y
              obtain ⟨d, hd, te⟩ := r2.get he
              have gd := hes d (List.mem_of_getElem? hd)
              have i4 : i < 4 := by
                have := (List.getElem?_eq_some_iff.mp hd).1
                omega
              have fin : ∀ y : Str, y.length ≤ 200 → ∃ acc, H2 D = some (.lst acc) ∧ acc.length < sizeLine ∧ Same H (L2.upd H2 D (.lst (acc ++ [.str y]))) ∧ ∃ ys : List Str, ys.length = i + 1 ∧ (∀ y ∈ ys, y.length ≤ 200) ∧ L2.upd H2 D (.lst (acc ++ [.str y])) D = some (.lst (ys.map V.str)) := fun y g => by
                refine ⟨_, hD3, ?_, fun b o e => ?_, ys ++ [y], by rw [List.length_append, ly]; rfl, fun x hx => ?_, ?_⟩
                · rw [List.length_map, ly]
                  exact Nat.lt_of_le_of_lt (show i ≤ 4 by omega) (by decide)
                · rw [upd_ne (ne_of_none e hD)]
                  exact s3 b o e
                · rcases List.mem_append.mp hx with h | h
                  · exact hy x h
                  · rw [List.mem_singleton.mp h]
                    exact g
                · rw [upd_same, List.map_append]
                  rfl
              refine ⟨rfl, v, rfl, ?_⟩
              cases te with
              | str z2 hz2 _ => exact .inl ⟨z2, rfl, fin z2 (by omega)⟩
              | int i2 hi2 => exact .inr ⟨i2, rfl, small_log hi2, fin _ (small_text hi2)⟩
              | non => cases gd
              | bl _ => cases gd
              | lst _ _ _ => cases gd
              | tup _ _ _ => cases gd
              | nil _ _ => cases gd
              | one _ _ _ _ => cases gd
            · obtain ⟨s3, ys, ly, hy, hD3⟩ := h'
              have lu := r2.len
              have l1 : ((",": String) : Str).length ≤ 1 := Nat.le_refl _
              have j1 := join_le "," 200 ys hy
              have j2 := sum_le 200 ys hy
              have ly4 : ys.length ≤ 4 := by omega
              have j3 : (Str.join "," ys).length ≤ 804 := by
                refine Nat.le_trans j1 ?_
                show ys.length * (200 + 1) ≤ 804
                omega
              refine ⟨",", D, ys, rfl, rfl, .inl (SqL.of hD3), ?_, ?_⟩
              · show _ + ys.length * 1 ≤ 16777216
                omega
              · rw [show Txt.join "," ys = Str.join "," ys from StrLaws.glued_eq_join _ _]
                have fin : ∀ pre : Str, pre.length ≤ 4 → ∀ σ : L2.St, σ[6]? = some (some (.str pre)) → σ[2]? = some (some vb) → σ[4]? = some (some (.str (Str.join "," ys))) →
                    tJs [tFmt (tVar 6), tFmt (tVar 2), tC (V.str (Str.ofString "(")), tFmt (tVar 4), tC (V.str (Str.ofString ")"))] Str.empty σ H1 fun out H1 => Q (V.str out) H1 := fun pre g σ b1 b2 b3 => by
                  cases tb with
                  | str z2 hz2 _ =>
                    have a1 := jl l0 g
                    have a2 := jl a1 hz2
                    have a3 := jl a2 (show ((Str.ofString "(")).length ≤ 1 from Nat.le_refl _)
                    have a4 := jl a3 j3
                    have a5 := jl a4 (show ((Str.ofString ")")).length ≤ 1 from Nat.le_refl _)
                    exact ⟨_, b1, .inl ⟨pre, rfl, jb g (by decide), pre, rfl, jb a1 (by decide), _, b2, .inl ⟨z2, rfl, jb hz2 (by decide), z2, rfl, jb a2 (by decide), _, rfl, jb a3 (by decide), _, b3, .inl ⟨_, rfl, jb j3 (by decide), _, rfl, jb a4 (by decide), _, rfl, jb a5 (by decide), q _ H1 s3 (Nat.le_trans a5 (by decide))⟩⟩⟩⟩
                  | int _ _ => cases hb
                  | non => cases hb
                  | bl _ => cases hb
                  | lst _ _ _ => cases hb
                  | tup _ _ _ => cases hb
                  | nil _ _ => cases hb
                  | one _ _ _ _ => cases hb
                refine ⟨_, rfl, rfl, _, rfl, ?_⟩
                by_cases e : decide (V.str z = V.str (Str.ofString "none")) = true
                · refine (if_pos e).mpr ?_
                  exact fin (Str.ofString "not ") (by decide) _ rfl rfl rfl
                · refine (if_neg e).mpr ?_
                  exact fin (Str.ofString "") (by decide) _ rfl rfl rfl
      | _ => cases hk
end
end My
namespace My
open PySem PySem.Spec PyProof.Rows L2
theorem strs_shapedT (l : List Str) (h : ∀ x ∈ l, PyData.strOk x = true) : SeqAt.shaped (.tuple (l.map PyData.str)) = true := by
  have := strs_shaped l h
  unfold SeqAt.shaped at this ⊢
  simpa [PyData.canLay0, PyData.depth] using this
section
variable {P : Program} {w : World} {K : PySem.W.Frag} {mg : Str → Option Value} {base : Heap}
def spTQ : Sp := fun vs H Q _ => ∃ (p l t : Addr) (xs : List V) (ds : List PyData) (ws : List Str), vs = [.ref l, .ref t] ∧ H l = some (.tup xs) ∧ l ≠ p ∧ Gx.DatL p H xs ds ∧ ds.length ≤ 8 ∧ (∀ d ∈ ds, litD d = true) ∧ H t = some (.tup (ws.map V.str)) ∧ (∀ z ∈ ws, okZ z) ∧ ws.length ≤ 40 ∧
  ∀ (z : Str) H', Same H H' → z.length ≤ 20000 → Q (.str z) H'
theorem p_text_of_query (T : Mo K mg) : Gx.Pr P w K mg base CX0 3 "text_of_query" s_text_of_query ["literals", "variables"] spTQ := by
  refine T.d_text_of_query.ok sc_text_of_query (fun vs H Q E h => ?_) (fun f cdv A outer s H vs Q E hr h => ?_)
  · obtain ⟨p, l, t, xs, ds, ws, rfl, _⟩ := h
    rfl
  · obtain ⟨p, l, t, xs, ds, ws, rfl, h, nlp, r, l8, good, ht, ow, lw, q⟩ := h
    have hu64 := hr.units
    refine ⟨_, (pss_cons (ps_set (i := 2) sc_text_of_query.nd rfl (Or.inl rfl) (pe_bm PySem.F.plainAttrs_str PySem.F.slot_str_join PySem.F.type_str_join mt_join pe_str (pa_cons (pe_lc (own := [("literal", 3)]) (g := gName 3) (tt := tYes) rfl sc_text_of_query.nd (pi_tup (pv 0)) (blkOk_by (N := N_text_of_query) (sc := defScope s_text_of_query) (by decide +kernel)) (fun _ _ _ _ _ => (pg_name (i := 3) sc_text_of_query.nd rfl (Or.inl rfl))) (fun _ _ _ _ _ => pts_nil) (fun _ _ _ _ _ => (Gx.pe_pos (p_text_of T) hr (by decide) (by rfl) b_text_of pass0 (pa_cons (pv 3) pa_nil)))) pa_nil)))
      (pss_cons (ps_if (pt_cmpR (op_eqD hu64) (pv 1) (Gx.pe_pos (p_variables_of T) hr (by decide) (by rfl) b_variables_of pass0 (pa_cons (pv 0) pa_nil)) (nomark _)) (pss_one (ps_ret (pv 2))) pss_nil)
      (pss_cons (ps_set (i := 4) sc_text_of_query.nd rfl (Or.inl rfl) (pe_bm PySem.F.plainAttrs_str PySem.F.slot_str_join PySem.F.type_str_join mt_join pe_str (pa_cons (pv 1) pa_nil)))
      (pss_one (ps_ret (pe_joined (.cons (pe_fmt (pv 2)) (.cons (pe_fmt (Gx.pe_k rfl T.g_BEFORE_ORDER)) (.cons (pe_fmt (pv 4)) .nil))))))))), ?_⟩
    refine ⟨rfl, _, rfl, l, rfl, ⟨xs, SqT.of h⟩, fun D hD => ?_⟩
    refine lc_it (walk_tup (K := K) (a := l) (xs := xs)) (fun i H' => Same H H' ∧ ∃ ys : List Str, ys.length = i ∧ (∀ y ∈ ys, y.length ≤ 1000) ∧ H' D = some (.lst (ys.map V.str))) ⟨Gx.sameU hD, [], rfl, (fun _ h => nomatch h), upd_same⟩ (fun i H' _ h' => .inl (.inl (h'.1 _ _ h))) (fun i v H1 H2 hi h' Y => ?_) fun H1 h' => ?_
    · obtain ⟨s3, ys, ly, hy, hD3⟩ := h'
      obtain ⟨rfl, he⟩ := Y
      obtain ⟨d, hd, te⟩ := r.get he
      have gd := good d (List.mem_of_getElem? hd)
      have i8 : i < 8 := by
        have := (List.getElem?_eq_some_iff.mp hd).1
        omega
      refine ⟨rfl, _, rfl, p, v, d, rfl, te.kp (Gx.Kp.of s3), gd, fun z H3 s4 lz => ⟨_, s4 _ _ hD3, ?_, fun b o e => ?_, ys ++ [z], by rw [List.length_append, ly]; rfl, fun x hx => ?_, ?_⟩⟩
      · rw [List.length_map, ly]
        exact Nat.lt_of_le_of_lt (show i ≤ 8 by omega) (by decide)
      · rw [upd_ne (ne_of_none e hD)]
        exact s4 _ _ (s3 b o e)
      · rcases List.mem_append.mp hx with h | h
        · exact hy x h
        · rw [List.mem_singleton.mp h]
          exact lz
      · rw [upd_same, List.map_append]
        rfl
    · obtain ⟨s3, ys, ly, hy, hD3⟩ := h'
      have lu := r.len
      have j1 := join_le ", " 1000 ys hy
      have j2 := sum_le 1000 ys hy
      have ly8 : ys.length ≤ 8 := by omega
      have j3 : (Str.join ", " ys).length ≤ 8016 := by
        refine Nat.le_trans j1 ?_
        show ys.length * (1000 + 2) ≤ 8016
        omega
      refine ⟨", ", D, ys, rfl, rfl, .inl (SqL.of hD3), ?_, ?_⟩
      · show _ + ys.length * 2 ≤ 16777216
        omega
      · rw [show Txt.join ", " ys = Str.join ", " ys from StrLaws.glued_eq_join _ _]
        have st := strs_shapedT ws fun x hx => (ow x hx).ok
        have sv := strs_shapedT (varsD ds) fun x hx => (vars_ok good x hx).ok
        refine ⟨_, rfl, _, rfl, p, l, xs, ds, rfl, .inr (s3 _ _ h), r.kp (Gx.Kp.of s3), l8, good, fun t2 H3 s4 n4 h4 => ⟨_, _, .tup (SqT.of (s4 _ _ (s3 _ _ ht))) (dpStrs ws), .tup (SqT.of h4) (dpStrs (varsD ds)), st, sv, _, rfl, ?_⟩⟩
        by_cases e : PyData.eqv (.tuple (ws.map .str)) (.tuple ((varsD ds).map .str)) = true
        · refine (if_pos e).mpr ?_
          exact ⟨_, rfl, q _ H3 (s3.trans s4) (Nat.le_trans j3 (by decide))⟩
        · refine (if_neg e).mpr ?_
          have ow' : ∀ z ∈ ws, z.length ≤ 100 := fun z hz => (ow z hz).1
          have b1 := join_le "," 100 ws ow'
          have b2 := sum_le 100 ws ow'
          have b3 : (Str.join "," ws).length ≤ 4040 := by
            refine Nat.le_trans b1 ?_
            show ws.length * (100 + 1) ≤ 4040
            omega
          refine ⟨rfl, _, rfl, ",", t, ws, rfl, rfl, .inr (SqT.of (s4 _ _ (s3 _ _ ht))), ?_, ?_⟩
          · show _ + ws.length * 1 ≤ 16777216
            omega
          · rw [show Txt.join "," ws = Str.join "," ws from StrLaws.glued_eq_join _ _]
            have a1 := jl (show Str.empty.length ≤ 0 from Nat.le_refl _) j3
            have lb : (Str.ofString " by ").length ≤ 4 := Nat.le_refl _
            have a2 := jl a1 lb
            have a3 := jl a2 b3
            exact ⟨_, rfl, .inl ⟨_, rfl, jb j3 (by decide), _, rfl, jb a1 (by decide), .inl ⟨_, rfl, jb lb (by decide), _, rfl, jb a2 (by decide), _, rfl, .inl ⟨_, rfl, jb b3 (by decide), _, rfl, jb a3 (by decide), q _ H3 (s3.trans s4) (Nat.le_trans a3 (by decide))⟩⟩⟩⟩
end
end My
namespace My
open PySem PySem.Spec PyProof.Rows L2
/-- what repr can show -/
def Shp (d : PyData) : Prop := d.showable = true ∧ d.depth ≤ 30 ∧ d.shown.length ≤ 1000000
section
variable {P : Program} {w : World} {K : PySem.W.Frag} {mg : Str → Option Value} {base : Heap}
def spQS (mg : Str → Option Value) : Sp := fun vs H Q _ => ∃ (p q : Addr) (ds es : List PyData), vs = [.ref q] ∧ QryAt mg p H q ds (.tuple es) ∧ ds.length ≤ 8 ∧ (∀ d ∈ ds, litD d = true) ∧ es.all strD = true ∧ es.length ≤ 40 ∧ ∀ (z : Str) H', Same H H' → z.length ≤ 20000 → Q (.str z) H'
theorem p_Query___str__ (T : Mo K mg) : Gx.PrM P w K mg base CX0 4 "Query" "__str__" "Query.__str__" s_Query___str__ ["self"] [] (spQS mg) := by
  refine T.d_Query___str__.ok sc_Query___str__ (fun vs H Q E h => ?_) (fun f cdv A outer s H vs Q E hr h => ?_)
  · obtain ⟨p, q, ds, es, rfl, _⟩ := h
    rfl
  · obtain ⟨p, q, ds, es, rfl, ⟨dx, l, v, xs, h1, h2, h3, h4, h5⟩, l8, good, hs, l40, qq⟩ := h
    refine ⟨_, (pss_one (ps_ret (pe_callTy SkE.call_str_str (by rfl) T.b_str (by decide +kernel) (pa_cons (Gx.pe_pos (p_text_of_query T) hr (by decide) (by rfl) b_text_of_query pass0 (pa_cons (pe_fld (pv 0) rfl) (pa_cons (pe_fld (pv 0) rfl) pa_nil))) pa_nil)))), ?_⟩
    cases h5 with
    | @tup t ys _ n h r =>
      obtain ⟨ws, rfl, rfl, ow⟩ := dat_strs r hs
      exact ⟨_, rfl, q, _, dx, _, _, rfl, h1, T.d_Query___str__.c, T.n_Query__literals, rfl, _, rfl, q, _, dx, _, _, rfl, h1, T.d_Query___str__.c, T.n_Query__variables, rfl, p, l, t, xs, ds, ws, rfl, h2, h3, h4, l8, good, h, ow, by simpa using l40, fun z H' s lz => ⟨z, rfl, qq z H' s lz⟩⟩
def spQR (mg : Str → Option Value) : Sp := fun vs H Q _ => ∃ (p q : Addr) (ds es : List PyData), vs = [.ref q] ∧ QryAt mg p H q ds (.tuple es) ∧ Shp (.list ds) ∧ Shp (.tuple es) ∧ ∀ H', Same H H' → Q (.str ("Query(" ++ (PyData.list ds).shown ++ ", " ++ (PyData.tuple es).shown ++ ")")) H'
theorem p_Query___repr__ (T : Mo K mg) (hsys : Gx.SysD base) : Gx.PrMG P w K mg base 1 "Query" "__repr__" "Query.__repr__" s_Query___repr__ ["self"] (spQR mg) := by
  refine T.d_Query___repr__.okG sc_Query___repr__ (fun vs H Q E h => ?_) (fun f cdv A outer s H vs Q E hgd hr h => ?_)
  · obtain ⟨p, q, ds, es, rfl, _⟩ := h
    rfl
  · obtain ⟨p, q, ds, es, rfl, ⟨dx, l, v, xs, h1, h2, h3, h4, h5⟩, ⟨a1, a2, a3⟩, ⟨b1, b2, b3⟩, qq⟩ := h
    have hu64 := hr.units
    refine ⟨_, (pss_one (ps_ret (pe_joined (.cons pe_str (.cons (Gx.pe_fmtRD (K := K) rfl hsys hgd hu64 (pe_callTy call_list_of (by rfl) T.b_list (by decide +kernel) (pa_cons (pe_fld (pv 0) rfl) pa_nil))) (.cons pe_str (.cons (Gx.pe_fmtRD (K := K) rfl hsys hgd hu64 (pe_fld (pv 0) rfl)) (.cons pe_str .nil)))))))), ?_⟩
    cases h5 with
    | @tup t ys _ n h r =>
      have g0 : (Str.empty ++ Str.ofString "Query(").length ≤ 6 := Nat.le_refl _
      refine ⟨_, rfl, jb g0 (by decide), _, rfl, q, _, dx, _, _, rfl, h1, T.d_Query___repr__.c, T.n_Query__literals, rfl, l, xs, rfl, .inr (SqT.of h2), fun l2 hl2 => ?_⟩
      have s1 : Same H (L2.upd H l2 (.lst xs)) := Gx.sameU hl2
      have w1 : Gx.DatN (fun _ => True) (L2.upd H l2 (.lst xs)) (.ref l2) (.list ds) := .lst trivial upd_same (Gx.DatNL.mono (fun _ _ => trivial) (h4.kp (Gx.Kp.of s1)))
      have w2 : Gx.DatN (fun _ => True) (L2.upd H l2 (.lst xs)) (.ref t) (.tuple es) := Gx.DatN.mono (fun _ _ => trivial) (show Gx.Dat p _ (.ref t) (.tuple es) from .tup n (s1 _ _ h) (r.kp (Gx.Kp.of s1)))
      have g1 := jl g0 a3
      have g2 := jl g1 (show (Str.ofString ", ").length ≤ 2 from Nat.le_refl _)
      have g3 := jl g2 b3
      have g4 := jl g3 (show (Str.ofString ")").length ≤ 1 from Nat.le_refl _)
      have go := qq _ s1
      refine ⟨l2, _, rfl, w1.shows, a1, a2, jb a3 (by decide), _, rfl, jb g1 (by decide), _, rfl, jb g2 (by decide), ?_⟩
      exact ⟨_, rfl, q, _, dx, _, _, rfl, s1 _ _ h1, T.d_Query___repr__.c, T.n_Query__variables, rfl, t, _, rfl, w2.shows, b1, b2, jb b3 (by decide), _, rfl, jb g3 (by decide), _, rfl, jb g4 (by decide), go⟩
end
end My
namespace My
open PySem PySem.Spec PyProof.Rows L2
theorem QryAt.same {mg : Str → Option Value} {p : Addr} {H H' : Hp} {q : Addr} {ds : List PyData} {dv : PyData} (h : QryAt mg p H q ds dv) (k : Same H H') : QryAt mg p H' q ds dv := by
  obtain ⟨dx, l, v, xs, h1, h2, h3, h4, h5⟩ := h
  exact ⟨dx, l, v, xs, k _ _ h1, k _ _ h2, h3, h4.kp (Gx.Kp.of k), h5.kp (Gx.Kp.of k)⟩
theorem InOrd.same {mg : Str → Option Value} {p q : Addr} {ds es : List PyData} {H H1 : Hp} {Q : VK} {E : XK} (h : InOrd mg p q ds es H Q E) (s : Same H H1) : InOrd mg p q ds es H1 Q E :=
  ⟨fun o q' H' s' => h.1 o q' H' (s.trans s'), fun o H' d s' => h.2 o H' d (s.trans s')⟩
section
variable {P : Program} {w : World} {K : PySem.W.Frag} {mg : Str → Option Value} {base : Heap}
def spLIO (mg : Str → Option Value) : Sp := fun vs H Q E => ∃ (p q ls : Addr) (ds : List PyData) (dv : PyData) (xs : List V) (es : List PyData), vs = [.ref q, .ref ls] ∧ QryAt mg p H q ds dv ∧ H ls = some (.lst xs) ∧ Gx.DatL p H xs es ∧ es.length ≤ 6 ∧ (∃ o, H p = some o) ∧ probD (.tuple ds) .none = none ∧ InOrd mg p q ds es H Q E
theorem p__law_in_order (T : Mo K mg) : Gx.Pr P w K mg base (L2.CX P w) 13 "_law_in_order" s__law_in_order ["_law_query", "_law_names"] (spLIO mg) := by
  refine T.d__law_in_order.okX sc__law_in_order (fun vs H Q E h => ?_) (fun f cdv A outer s H vs Q E hr h => ?_)
  · obtain ⟨p, q, ls, ds, dv, xs, es, rfl, _⟩ := h
    rfl
  · obtain ⟨p, q, ls, ds, dv, xs, es, rfl, hq, hl, r, l6, hp, pn, io⟩ := h
    refine ⟨_, (pss_cons (ps_if (pt_cmpR op_eq (pe_callB call_len_seq (by rfl) T.b_len (by decide +kernel) (pa_cons (pv 1) pa_nil)) pe_int (nomark _)) (pss_one (ps_ret (Gx.pe_mets0 (E := E) (p_Query_in_order T) T.m_Query_in_order hr (by decide) (passes_call (takes_of rfl rfl rfl rfl) fun _ _ _ _ h => h) (pv 0)))) pss_nil)
      (pss_cons (ps_if (pt_cmpR op_eq (pe_callB call_len_seq (by rfl) T.b_len (by decide +kernel) (pa_cons (pv 1) pa_nil)) pe_int (nomark _)) (pss_one (ps_ret (Gx.pe_mets (E := E) (p_Query_in_order T) T.m_Query_in_order hr (by decide) (passes_call (takes_of rfl rfl rfl rfl) fun _ _ _ _ h => h) (pv 0) (pa_cons (pe_ix ix_list (pv 1) pe_int (fun _ _ => rfl)) pa_nil)))) pss_nil)
      (pss_cons (ps_if (pt_cmpR op_eq (pe_callB call_len_seq (by rfl) T.b_len (by decide +kernel) (pa_cons (pv 1) pa_nil)) pe_int (nomark _)) (pss_one (ps_ret (Gx.pe_mets (E := E) (p_Query_in_order T) T.m_Query_in_order hr (by decide) (passes_call (takes_of rfl rfl rfl rfl) fun _ _ _ _ h => h) (pv 0) (pa_cons (pe_ix ix_list (pv 1) pe_int (fun _ _ => rfl)) (pa_cons (pe_ix ix_list (pv 1) pe_int (fun _ _ => rfl)) pa_nil))))) pss_nil)
      (pss_cons (ps_if (pt_cmpR op_eq (pe_callB call_len_seq (by rfl) T.b_len (by decide +kernel) (pa_cons (pv 1) pa_nil)) pe_int (nomark _)) (pss_one (ps_ret (Gx.pe_mets (E := E) (p_Query_in_order T) T.m_Query_in_order hr (by decide) (passes_call (takes_of rfl rfl rfl rfl) fun _ _ _ _ h => h) (pv 0) (pa_cons (pe_ix ix_list (pv 1) pe_int (fun _ _ => rfl)) (pa_cons (pe_ix ix_list (pv 1) pe_int (fun _ _ => rfl)) (pa_cons (pe_ix ix_list (pv 1) pe_int (fun _ _ => rfl)) pa_nil)))))) pss_nil)
      (pss_cons (ps_if (pt_cmpR op_eq (pe_callB call_len_seq (by rfl) T.b_len (by decide +kernel) (pa_cons (pv 1) pa_nil)) pe_int (nomark _)) (pss_one (ps_ret (Gx.pe_mets (E := E) (p_Query_in_order T) T.m_Query_in_order hr (by decide) (passes_call (takes_of rfl rfl rfl rfl) fun _ _ _ _ h => h) (pv 0) (pa_cons (pe_ix ix_list (pv 1) pe_int (fun _ _ => rfl)) (pa_cons (pe_ix ix_list (pv 1) pe_int (fun _ _ => rfl)) (pa_cons (pe_ix ix_list (pv 1) pe_int (fun _ _ => rfl)) (pa_cons (pe_ix ix_list (pv 1) pe_int (fun _ _ => rfl)) pa_nil))))))) pss_nil)
      (pss_cons (ps_if (pt_cmpR op_eq (pe_callB call_len_seq (by rfl) T.b_len (by decide +kernel) (pa_cons (pv 1) pa_nil)) pe_int (nomark _)) (pss_one (ps_ret (Gx.pe_mets (E := E) (p_Query_in_order T) T.m_Query_in_order hr (by decide) (passes_call (takes_of rfl rfl rfl rfl) fun _ _ _ _ h => h) (pv 0) (pa_cons (pe_ix ix_list (pv 1) pe_int (fun _ _ => rfl)) (pa_cons (pe_ix ix_list (pv 1) pe_int (fun _ _ => rfl)) (pa_cons (pe_ix ix_list (pv 1) pe_int (fun _ _ => rfl)) (pa_cons (pe_ix ix_list (pv 1) pe_int (fun _ _ => rfl)) (pa_cons (pe_ix ix_list (pv 1) pe_int (fun _ _ => rfl)) pa_nil)))))))) pss_nil)
      (pss_one (ps_ret (Gx.pe_mets (E := E) (p_Query_in_order T) T.m_Query_in_order hr (by decide) (passes_call (takes_of rfl rfl rfl rfl) fun _ _ _ _ h => h) (pv 0) (pa_cons (pe_ix ix_list (pv 1) pe_int (fun _ _ => rfl)) (pa_cons (pe_ix ix_list (pv 1) pe_int (fun _ _ => rfl)) (pa_cons (pe_ix ix_list (pv 1) pe_int (fun _ _ => rfl)) (pa_cons (pe_ix ix_list (pv 1) pe_int (fun _ _ => rfl)) (pa_cons (pe_ix ix_list (pv 1) pe_int (fun _ _ => rfl)) (pa_cons (pe_ix ix_list (pv 1) pe_int (fun _ _ => rfl)) pa_nil))))))))))))))), ?_⟩
    have lx := r.len
    have fin : Gx.StarSp (spIO mg) (.ref q :: xs) H Q E := ⟨_, _, rfl, by rw [lx]; exact Nat.le_trans l6 (by decide), fun t ht => by
      have s1 : Same H (L2.upd H t (.tup xs)) := Gx.sameU ht
      exact ⟨p, q, t, ds, dv, xs, es, rfl, hq.same s1, upd_same, (fun e => by
        obtain ⟨o, ho⟩ := hp
        rw [← e, ht] at ho
        cases ho), r.kp (Gx.Kp.of s1), Nat.lt_of_le_of_lt l6 (by decide), hp.elim fun o ho => ⟨o, s1 _ _ ho⟩, pn, io.same s1⟩⟩
    obtain ⟨dx, l, v, ys, h1, _⟩ := hq
    have lx6 : xs.length ≤ 6 := by omega
    clear r lx io l6
    refine ⟨_, rfl, ls, xs, rfl, .inl (SqL.of hl), rfl, _, rfl, ?_⟩
    match xs, lx6 with
    | [], _ =>
      refine iteT ?_
      exact ⟨_, rfl, q, _, _, rfl, h1, rfl, fin⟩
    | [a], _ =>
      refine iteF ⟨_, rfl, ls, _, rfl, .inl (SqL.of hl), rfl, _, rfl, ?_⟩
      refine iteT ?_
      exact ⟨_, rfl, q, _, _, rfl, h1, rfl, _, rfl, ls, _, 0, _, rfl, rfl, SqL.of hl, rfl, fin⟩
    | [a, b], _ =>
      refine iteF ⟨_, rfl, ls, _, rfl, .inl (SqL.of hl), rfl, _, rfl, ?_⟩
      refine iteF ⟨_, rfl, ls, _, rfl, .inl (SqL.of hl), rfl, _, rfl, ?_⟩
      refine iteT ?_
      exact ⟨_, rfl, q, _, _, rfl, h1, rfl, _, rfl, ls, _, 0, _, rfl, rfl, SqL.of hl, rfl, _, rfl, ls, _, 1, _, rfl, rfl, SqL.of hl, rfl, fin⟩
    | [a, b, c], _ =>
      refine iteF ⟨_, rfl, ls, _, rfl, .inl (SqL.of hl), rfl, _, rfl, ?_⟩
      refine iteF ⟨_, rfl, ls, _, rfl, .inl (SqL.of hl), rfl, _, rfl, ?_⟩
      refine iteF ⟨_, rfl, ls, _, rfl, .inl (SqL.of hl), rfl, _, rfl, ?_⟩
      refine iteT ?_
      exact ⟨_, rfl, q, _, _, rfl, h1, rfl, _, rfl, ls, _, 0, _, rfl, rfl, SqL.of hl, rfl, _, rfl, ls, _, 1, _, rfl, rfl, SqL.of hl, rfl, _, rfl, ls, _, 2, _, rfl, rfl, SqL.of hl, rfl, fin⟩
    | [a, b, c, d], _ =>
      refine iteF ⟨_, rfl, ls, _, rfl, .inl (SqL.of hl), rfl, _, rfl, ?_⟩
      refine iteF ⟨_, rfl, ls, _, rfl, .inl (SqL.of hl), rfl, _, rfl, ?_⟩
      refine iteF ⟨_, rfl, ls, _, rfl, .inl (SqL.of hl), rfl, _, rfl, ?_⟩
      refine iteF ⟨_, rfl, ls, _, rfl, .inl (SqL.of hl), rfl, _, rfl, ?_⟩
      refine iteT ?_
      exact ⟨_, rfl, q, _, _, rfl, h1, rfl, _, rfl, ls, _, 0, _, rfl, rfl, SqL.of hl, rfl, _, rfl, ls, _, 1, _, rfl, rfl, SqL.of hl, rfl, _, rfl, ls, _, 2, _, rfl, rfl, SqL.of hl, rfl, _, rfl, ls, _, 3, _, rfl, rfl, SqL.of hl, rfl, fin⟩
    | [a, b, c, d, e], _ =>
      refine iteF ⟨_, rfl, ls, _, rfl, .inl (SqL.of hl), rfl, _, rfl, ?_⟩
      refine iteF ⟨_, rfl, ls, _, rfl, .inl (SqL.of hl), rfl, _, rfl, ?_⟩
      refine iteF ⟨_, rfl, ls, _, rfl, .inl (SqL.of hl), rfl, _, rfl, ?_⟩
      refine iteF ⟨_, rfl, ls, _, rfl, .inl (SqL.of hl), rfl, _, rfl, ?_⟩
      refine iteF ⟨_, rfl, ls, _, rfl, .inl (SqL.of hl), rfl, _, rfl, ?_⟩
      refine iteT ?_
      exact ⟨_, rfl, q, _, _, rfl, h1, rfl, _, rfl, ls, _, 0, _, rfl, rfl, SqL.of hl, rfl, _, rfl, ls, _, 1, _, rfl, rfl, SqL.of hl, rfl, _, rfl, ls, _, 2, _, rfl, rfl, SqL.of hl, rfl, _, rfl, ls, _, 3, _, rfl, rfl, SqL.of hl, rfl, _, rfl, ls, _, 4, _, rfl, rfl, SqL.of hl, rfl, fin⟩
    | [a, b, c, d, e, g], _ =>
      refine iteF ⟨_, rfl, ls, _, rfl, .inl (SqL.of hl), rfl, _, rfl, ?_⟩
      refine iteF ⟨_, rfl, ls, _, rfl, .inl (SqL.of hl), rfl, _, rfl, ?_⟩
      refine iteF ⟨_, rfl, ls, _, rfl, .inl (SqL.of hl), rfl, _, rfl, ?_⟩
      refine iteF ⟨_, rfl, ls, _, rfl, .inl (SqL.of hl), rfl, _, rfl, ?_⟩
      refine iteF ⟨_, rfl, ls, _, rfl, .inl (SqL.of hl), rfl, _, rfl, ?_⟩
      refine iteF ?_
      exact ⟨_, rfl, q, _, _, rfl, h1, rfl, _, rfl, ls, _, 0, _, rfl, rfl, SqL.of hl, rfl, _, rfl, ls, _, 1, _, rfl, rfl, SqL.of hl, rfl, _, rfl, ls, _, 2, _, rfl, rfl, SqL.of hl, rfl, _, rfl, ls, _, 3, _, rfl, rfl, SqL.of hl, rfl, _, rfl, ls, _, 4, _, rfl, rfl, SqL.of hl, rfl, _, rfl, ls, _, 5, _, rfl, rfl, SqL.of hl, rfl, fin⟩
end
end My
namespace My
open PySem PySem.Spec PyProof.Rows L2
/-! ### what is shown of small data, and how it is compared -/
structure Pu (n k : Nat) (d : PyData) : Prop where
  sh : d.showable = true
  ls : d.leavesShort 200 = true
  wt : d.weight ≤ n
  dp : d.depth ≤ k
  nd : d.hasDict = false
  can : d.canLay0 = true
theorem Pu.mono {n k n2 k2 : Nat} {d : PyData} (g : Pu n k d) (a : n ≤ n2) (b : k ≤ k2) : Pu n2 k2 d := ⟨g.sh, g.ls, Nat.le_trans g.wt a, Nat.le_trans g.dp b, g.nd, g.can⟩
theorem Pu.shp {n k : Nat} {d : PyData} (g : Pu n k d) (h : n ≤ 4900) (h2 : k ≤ 30) : Shp d := by
  refine ⟨g.sh, Nat.le_trans g.dp h2, ?_⟩
  have h1 := PyData.shown_le 200 (by decide) d g.ls
  have h3 : (200 + 2) * d.weight ≤ 202 * 4900 := Nat.mul_le_mul_left _ (Nat.le_trans g.wt h)
  omega
theorem Pu.fit {n k : Nat} {d : PyData} (g : Pu n k d) (h : k ≤ 10) : Fit d := by
  refine ⟨g.nd, ?_⟩
  have h2 := g.dp
  unfold SeqAt.shaped
  rw [g.can, Bool.true_and, decide_eq_true_eq]
  omega
theorem pu_str {z : Str} (h : z.length ≤ 11 ∧ ∀ c ∈ z.cps.toList, c < 128) : Pu 11 0 (.str z) where
  sh := by simp [PyData.showable]
  ls := by simp only [PyData.leavesShort, List.all_eq_true, decide_eq_true_eq]; exact fun c hc => Nat.lt_trans (h.2 c hc) (by decide)
  wt := by simp only [PyData.weight]; simpa [Str.length] using h.1
  dp := by simp [PyData.depth]
  nd := by simp [PyData.hasDict]
  can := by simp only [PyData.canLay0, (show okZ z from ⟨by omega, h.2⟩).ok]
theorem pu_int {i : Int} (h : i.natAbs < 2 ^ 11) : Pu 11 0 (.int i) where
  sh := by simpa [PyData.showable] using small_log (Nat.lt_trans h (by decide +kernel))
  ls := by simp only [PyData.leavesShort, decide_eq_true_eq]; exact small_text (Nat.lt_trans h (by decide +kernel))
  wt := by
    have := PySem.Flt.log2_lt_of (k := 11) (by decide) h
    simp only [PyData.weight]
    split <;> omega
  dp := by simp [PyData.depth]
  nd := by simp [PyData.hasDict]
  can := by simp [PyData.canLay0]
theorem pu_ok {z : Str} (h : okZ z) : Pu 100 0 (.str z) where
  sh := by simp [PyData.showable]
  ls := by simp only [PyData.leavesShort, List.all_eq_true, decide_eq_true_eq]; exact fun c hc => Nat.lt_trans (h.2 c hc) (by decide)
  wt := by simp only [PyData.weight]; simpa [Str.length] using h.1
  dp := by simp [PyData.depth]
  nd := by simp [PyData.hasDict]
  can := by simp only [PyData.canLay0, h.ok]
theorem pu_oks {ws : List Str} (h : ∀ z ∈ ws, okZ z) : ∀ x ∈ ws.map PyData.str, Pu 100 0 x := fun x hx => by
  obtain ⟨z, hz, rfl⟩ := List.mem_map.mp hx
  exact pu_ok (h z hz)
theorem name_small {z : Str} (h : nameZ z = true) : z.length ≤ 11 ∧ ∀ c ∈ z.cps.toList, c < 128 := by
  have := (lw_ok h).2
  simp only [nameZ, Bool.and_eq_true, decide_eq_true_eq] at h
  exact ⟨by omega, this⟩
theorem pu_term {d : PyData} (h : termD d = true) : Pu 11 0 d := by
  cases d with
  | str z =>
    have : (nameZ z || false) = true := h
    rw [Bool.or_false] at this
    exact pu_str (name_small this)
  | int i =>
    have : (false || (decide (0 ≤ i) && decide (i < 1024))) = true := h
    simp at this
    exact pu_int (by omega)
  | _ => cases h
theorem pus {n k : Nat} : ∀ {ds : List PyData}, (∀ x ∈ ds, Pu n k x) → PyData.showableAll ds = true ∧ PyData.leavesShortAll 200 ds = true ∧ PyData.weightAll ds ≤ ds.length * (n + 1) ∧ PyData.depthAll ds ≤ k ∧ PyData.hasDictAll ds = false ∧ PyData.canLayAll0 ds = true
  | [], _ => ⟨by simp [PyData.showableAll], by simp [PyData.leavesShortAll], by simp [PyData.weightAll], by simp [PyData.depthAll], by simp [PyData.hasDictAll], by simp [PyData.canLayAll0]⟩
  | x :: r, h => by
    obtain ⟨a, b, c, d, e, f⟩ := pus (ds := r) fun y hy => h y (List.mem_cons_of_mem _ hy)
    obtain ⟨a2, b2, c2, d2, e2, f2⟩ := h x (by simp)
    refine ⟨by simp [PyData.showableAll, a, a2], by simp [PyData.leavesShortAll, b, b2], ?_, ?_, by simp [PyData.hasDictAll, e, e2], by simp [PyData.canLayAll0, f, f2]⟩
    · simp only [PyData.weightAll, List.length_cons, Nat.succ_mul]
      omega
    · simp only [PyData.depthAll]
      omega
theorem Pu.tup {n k m j : Nat} {ds : List PyData} (h : ∀ x ∈ ds, Pu n k x) (hm : ds.length * (n + 1) ≤ m) (hj : k + 1 ≤ j) : Pu m j (.tuple ds) := by
  obtain ⟨a, b, c, d, e, f⟩ := pus h
  exact ⟨by simpa only [PyData.showable] using a, by simpa only [PyData.leavesShort] using b, by simp only [PyData.weight]; omega, by simp only [PyData.depth]; omega, by simpa only [PyData.hasDict] using e, by simpa only [PyData.canLay0] using f⟩
theorem Pu.lst {n k m j : Nat} {ds : List PyData} (h : ∀ x ∈ ds, Pu n k x) (hm : ds.length * (n + 1) ≤ m) (hj : k + 1 ≤ j) : Pu m j (.list ds) := by
  obtain ⟨a, b, c, d, e, f⟩ := pus h
  exact ⟨by simpa only [PyData.showable] using a, by simpa only [PyData.leavesShort] using b, by simp only [PyData.weight]; omega, by simp only [PyData.depth]; omega, by simpa only [PyData.hasDict] using e, by simpa only [PyData.canLay0] using f⟩
theorem three {n k : Nat} {a b c : PyData} (ha : Pu n k a) (hb : Pu n k b) (hc : Pu n k c) : ∀ x ∈ [a, b, c], Pu n k x := fun x hx => by
  simp only [List.mem_cons, List.not_mem_nil, or_false] at hx
  rcases hx with rfl | rfl | rfl
  · exact ha
  · exact hb
  · exact hc
theorem pu_lit {d : PyData} (hl : litD d = true) : Pu 200 2 d := by
  match d, hl with
  | .tuple [dk, db, do_], hl =>
    simp only [litD] at hl
    cases c : rowW dk with
    | true =>
      rw [c, if_pos rfl, Bool.and_eq_true] at hl
      cases dk with
      | str z =>
        simp only [rowW, Bool.or_eq_true, decide_eq_true_eq] at c
        have h3 := hl.2
        cases do_ with
        | tuple es =>
          simp only [termsD, Bool.and_eq_true, decide_eq_true_eq, List.all_eq_true] at h3
          have hk : Pu 11 0 (.str z) := pu_str (by rcases c with rfl | rfl <;> decide +kernel)
          have hb : Pu 11 0 db := pu_term (by simp [termD, hl.1])
          have ho : Pu 48 1 (.tuple es) := .tup (fun x hx => pu_term (h3.2.2 x hx)) (by omega) (by decide)
          exact .tup (three (hk.mono (by decide) (by decide)) (hb.mono (by decide) (by decide)) ho) (by show 3 * 49 ≤ 200; decide) (by decide)
        | _ => cases h3
      | _ => cases c
    | false =>
      rw [c, if_neg (by simp)] at hl
      simp only [Bool.and_eq_true] at hl
      cases dk with
      | str z =>
        have h1 := hl.1
        simp only [signW, Bool.or_eq_true, decide_eq_true_eq] at h1
        have hk : Pu 11 0 (.str z) := pu_str (by rcases h1 with rfl | rfl | rfl | rfl <;> decide +kernel)
        exact .tup (three hk (pu_term hl.2.1) (pu_term hl.2.2.1)) (by show 3 * 12 ≤ 200; decide) (by decide)
      | _ => exact absurd hl.1 (by simp [signW])
theorem pu_names {ws : List Str} (h : ∀ z ∈ ws, nameZ z = true) : ∀ x ∈ ws.map PyData.str, Pu 11 0 x := fun x hx => by
  obtain ⟨z, hz, rfl⟩ := List.mem_map.mp hx
  exact pu_str (name_small (h z hz))
theorem tyx_same {K : PySem.W.Frag} {H H' : Hp} {v : V} {t : Value} (s : Same H H') (h : TyX K H v t) : TyX K H' v t := by
  cases h with
  | base b =>
    cases b with
    | non => exact .base .non
    | bl x => exact .base (.bl x)
    | int x => exact .base (.int x)
    | str x => exact .base (.str x)
    | flt x => exact .base (.flt x)
    | lst e => exact .base (.lst (s _ _ e))
    | frz e => exact .base (.frz (s _ _ e))
    | tup e => exact .base (.tup (s _ _ e))
    | dK e => exact .base (.dK (s _ _ e))
    | dT e => exact .base (.dT (s _ _ e))
    | ins e a b c d f => exact .base (.ins (s _ _ e) a b c d f)
  | byt b => exact .byt b
  | set e => exact .set (s _ _ e)
  | kList e c => exact .kList e c
  | kTuple e c => exact .kTuple e c
  | kDict e c => exact .kDict e c
  | fTuple e => exact .fTuple (s _ _ e)
  | fDict e => exact .fDict (s _ _ e)
theorem cut_to (xs : List V) (n : Nat) : cutV xs none (some (n : Int)) = xs.take n := by
  have e := HT.sIx_nat xs.length xs.length n
  unfold cutV
  rw [e, HT.sIx_none]
  by_cases c : n ≤ xs.length
  · rw [Nat.min_eq_left c]
    rfl
  · rw [Nat.min_eq_right (by omega), List.take_of_length_le (show xs.length ≤ n by omega)]
    simp
theorem cut_from (xs : List V) (n : Nat) : cutV xs (some (n : Int)) none = xs.drop n := by
  have e := HT.sIx_nat xs.length 0 n
  unfold cutV
  rw [e, HT.sIx_none]
  by_cases c : n ≤ xs.length
  · rw [Nat.min_eq_left c, List.take_of_length_le (by simp)]
  · rw [Nat.min_eq_right (by omega), List.take_of_length_le (by simp), List.drop_eq_nil_of_le (show xs.length ≤ xs.length from Nat.le_refl _), List.drop_eq_nil_of_le (by omega)]
/-- literals whose kind and order are right -/
theorem prob_good {ds es : List PyData} {dl : PyData} (e : itemsD dl = some ds) (h1 : 1 ≤ ds.length) (h8 : ds.length ≤ 8) (good : ∀ d ∈ ds, litD d = true) (h5 : (varsD ds).length ≤ 5) (ho : orderD (.tuple es) (varsD ds) = true) : probD dl (.tuple es) = none := by
  have eb : badD ds = none := List.findIdx?_eq_none_iff.mpr fun d hd => by rw [good d hd]; rfl
  simp only [probD, e]
  rw [if_neg (by omega), eb]
  dsimp only
  rw [if_neg (by omega), ho]
  simp
theorem prob_goodN {ds : List PyData} {dl : PyData} (e : itemsD dl = some ds) (h1 : 1 ≤ ds.length) (h8 : ds.length ≤ 8) (good : ∀ d ∈ ds, litD d = true) (h5 : (varsD ds).length ≤ 5) : probD dl .none = none := by
  have eb : badD ds = none := List.findIdx?_eq_none_iff.mpr fun d hd => by rw [good d hd]; rfl
  simp only [probD, e]
  rw [if_neg (by omega), eb]
  dsimp only
  rw [if_neg (by omega)]
  simp [nonD]
theorem order_self (ds : List PyData) : orderD (.tuple ((varsD ds).map .str)) (varsD ds) = true := by
  rw [order_strs (vars_nodup ds)]
  exact decide_eq_true (List.Perm.refl _)
/-- the literal row a(0) among others -/
def lit0 : PyData := .tuple [.str "row", .str "a", .tuple [.int 0]]
theorem lit0_ok : litD lit0 = true := by decide +kernel
theorem vars_ins (ds es : List PyData) : varsD (ds ++ [lit0] ++ es) = varsD (ds ++ es) := by
  simp only [varsD, List.foldl_append, List.foldl_cons, List.foldl_nil]
  rfl
theorem eqv_len : ∀ {xs ys : List PyData}, xs.length ≠ ys.length → PyData.eqvAll xs ys = false
  | [], [], h => absurd rfl h
  | [], _ :: _, _ => by simp [PyData.eqvAll]
  | _ :: _, [], _ => by simp [PyData.eqvAll]
  | x :: r, y :: s, h => by
    have := eqv_len (xs := r) (ys := s) fun e => h (by simp [e])
    simp [PyData.eqvAll, this]
theorem eqv_lenT {xs ys : List PyData} (h : xs.length ≠ ys.length) : PyData.eqv (.tuple xs) (.tuple ys) = false := by
  simp only [PyData.eqv]
  exact eqv_len h
end My
namespace My
open PySem PySem.Spec PyProof.Rows L2
section
variable {P : Program} {w : World} {K : PySem.W.Frag} {mg : Str → Option Value} {base : Heap}
def spOR (mg : Str → Option Value) : Sp := fun vs H Q _ => ∃ (p l q t : Addr) (xs : List V) (ds : List PyData), vs = [.ref p, .ref l, .ref q, .ref t] ∧ Pot p H ∧ l ≠ p ∧ t ≠ p ∧ H l = some (.lst xs) ∧ Gx.DatL p H xs ds ∧ QryAt mg p H q ds (.tuple ((varsD ds).map .str)) ∧
  H t = some (.lst ((varsD ds).map V.str)) ∧ 1 ≤ ds.length ∧ ds.length ≤ 7 ∧ (∀ d ∈ ds, litD d = true) ∧ (varsD ds).length ≤ 5 ∧ ∀ H', Pot p H' → Gx.Kp p H H' → Q (.bl true) H'
theorem p__law_others_right (T : Mo K mg) (hsys : Gx.SysD base) : Gx.PrG P w K mg base CX0 10 "_law_others_right" s__law_others_right ["_law_pot_here", "_law_parts", "_law_asked", "_law_sequence"] (spOR mg) := by
  refine T.d__law_others_right.okG sc__law_others_right (fun vs H Q E h => ?_) (fun f cdv A outer s H vs Q E hgd hr h => ?_)
  · obtain ⟨p, l, q, t, xs, ds, rfl, _⟩ := h
    rfl
  · obtain ⟨p, l, q, t, xs, ds, rfl, hp, nlp, ntp, hl, r, hq, ht, l1, l7, good, v5, qq⟩ := h
    have hu64 := hr.units
    have p_Query___repr__ := fun T' : Mo K mg => p_Query___repr__ (P := P) (w := w) (base := base) T' hsys
    refine ⟨_, (pss_cons (ps_set (i := 4) sc__law_others_right.nd rfl (Or.inl rfl) (pe_lst (pa_cons pe_non (pa_cons pe_int (pa_cons (pe_callTy (Gx.call_strM (p_Query___str__ T) T.m_Query___str__ bm_Query___str__ hr (by decide)) (by rfl) T.b_str (by decide +kernel) (pa_cons (pv 2) pa_nil)) (pa_cons (pe_callB (Gx.call_reprMG (p_Query___repr__ T) T.m_Query___repr__ hgd bm_Query___repr__ hr (by decide)) (by rfl) T.b_repr (by decide +kernel) (pa_cons (pv 2) pa_nil)) (pa_cons (pv 1) (pa_cons (pe_callTy call_tuple_of (by rfl) T.b_tuple (by decide +kernel) (pa_cons (pv 3) pa_nil)) (pa_cons (pe_tup (pa_cons (pv 1) (pa_cons (pe_callTy call_tuple_of (by rfl) T.b_tuple (by decide +kernel) (pa_cons (pv 3) pa_nil)) pa_nil))) (pa_cons (pe_lst (pa_cons (pv 2) pa_nil)) (pa_cons pe_dnewK pa_nil)))))))))))
      (pss_cons (ps_if (PW.pt (pw_or (pt_val (pe_callB (cr_any rfl) (by rfl) T.b_any (by decide +kernel) (pa_cons (pe_lc (own := [("_law_thing", 5)]) (g := gName 5) (tt := tYes) rfl sc__law_others_right.nd (pi_list (pv 4)) (blkOk_by (N := N__law_others_right) (sc := defScope s__law_others_right) (by decide +kernel)) (fun _ _ _ _ _ => (pg_name (i := 5) sc__law_others_right.nd rfl (Or.inl rfl))) (fun _ _ _ _ _ => pts_nil) (fun _ _ _ _ _ => (pe_cmpR (Gx.op_eqMF (K := K) (mg := mg) (j := 9) rfl rfl (p_Query___eq__ T) T.m_Query___eq__ T.ne_Query bm_Query___eq__ hr (by decide)) (pv 2) (pv 5) (nomark _)))) pa_nil))) (pw_or1 (pt_not (pt_val (pe_callB (cr_all rfl) (by rfl) T.b_all (by decide +kernel) (pa_cons (pe_lc (own := [("_law_thing", 5)]) (g := gName 5) (tt := tYes) rfl sc__law_others_right.nd (pi_list (pv 4)) (blkOk_by (N := N__law_others_right) (sc := defScope s__law_others_right) (by decide +kernel)) (fun _ _ _ _ _ => (pg_name (i := 5) sc__law_others_right.nd rfl (Or.inl rfl))) (fun _ _ _ _ _ => pts_nil) (fun _ _ _ _ _ => (pe_cmpR (Gx.op_neMF (K := K) (mg := mg) (j := 9) rfl rfl (p_Query___eq__ T) T.m_Query___eq__ T.ne_Query bm_Query___eq__ hr (by decide)) (pv 2) (pv 5) (nomark _)))) pa_nil))))))) (pss_one (ps_ret pe_bl)) pss_nil)
      (pss_cons (ps_set (i := 6) sc__law_others_right.nd rfl (Or.inl rfl) (Gx.pe_pos (p__law_take T) hr (by decide) (by rfl) b__law_take pass0 (pa_cons (pv 0) (pa_cons (pe_callB call_len_seq (by rfl) T.b_len (by decide +kernel) (pa_cons (pv 1) pa_nil)) pa_nil))))
      (pss_cons (ps_set (i := 7) sc__law_others_right.nd rfl (Or.inl rfl) (pe_op op_cat (pe_op op_cat (pe_slice sl_list (pv 1) po_none (po_some (pv 6))) (pe_lst (pa_cons (pe_tup (pa_cons pe_str (pa_cons pe_str (pa_cons (pe_tup (pa_cons pe_int pa_nil)) pa_nil)))) pa_nil))) (pe_slice sl_list (pv 1) (po_some (pv 6)) po_none)))
      (pss_cons (ps_set (i := 8) sc__law_others_right.nd rfl (Or.inl rfl) (Gx.pe_mkP (E := fun _ => E0) (p_Query___init__ T) T.mk_Query hr (by decide) (by rfl) (by simp) mb_Query_2 (fun _ pins H s e s' I z => passL pins _ H s e s' I z) (pa_cons (pv 7) (pa_cons (pe_callTy call_tuple_of (by rfl) T.b_tuple (by decide +kernel) (pa_cons (pv 3) pa_nil)) pa_nil))))
      (pss_one (ps_ret (pe_and (pe_cmpR Gx.op_isB (pe_cmpR (Gx.op_eqMF (K := K) (mg := mg) (j := 9) rfl rfl (p_Query___eq__ T) T.m_Query___eq__ T.ne_Query bm_Query___eq__ hr (by decide)) (pv 8) (pv 2) (nomark _)) pe_bl (nomark _)) (pe_and (pe_cmpR Gx.op_isB (pe_cmpR (Gx.op_neMF (K := K) (mg := mg) (j := 9) rfl rfl (p_Query___eq__ T) T.m_Query___eq__ T.ne_Query bm_Query___eq__ hr (by decide)) (pv 2) (pv 8) (nomark _)) pe_bl (nomark _)) (pe_one (pe_cmpR op_eq (pe_callB (Gx.call_lenM (p_Query___len__ T) T.m_Query___len__ bm_Query___len__ hr (by decide)) (by rfl) T.b_len (by decide +kernel) (pa_cons (pv 8) pa_nil)) (pe_op op_add (pe_callB call_len_seq (by rfl) T.b_len (by decide +kernel) (pa_cons (pv 1) pa_nil)) pe_int) (nomark _)))))))))))), ?_⟩
    have pds : Pu 1700 3 (.list ds) := .lst (fun x hx => pu_lit (good x hx)) (by omega) (by decide)
    have pdt : Pu 1700 3 (.tuple ds) := .tup (fun x hx => pu_lit (good x hx)) (by omega) (by decide)
    have pvs : Pu 600 1 (.tuple ((varsD ds).map .str)) := .tup (pu_oks (vars_ok good)) (by rw [List.length_map]; omega) (by decide)
    obtain ⟨dx, lq, v, ys, h1, h2, h3, h4, h5⟩ := id hq
    refine ⟨_, rfl, q, _, _, rfl, h1, p, q, ds, _, rfl, hq, by omega, good, by simp [strD], by rw [List.length_map]; omega, fun z H1 s1 lz => ⟨z, rfl, ?_⟩⟩
    refine ⟨_, rfl, q, _, _, rfl, s1 _ _ h1, p, q, ds, _, rfl, hq.same s1, pds.shp (by decide) (by decide), pvs.shp (by decide) (by decide), fun H2 s2 => ⟨_, rfl, ?_⟩⟩
    have s2' := s1.trans s2
    refine ⟨_, rfl, _, rfl, t, _, rfl, .inl ⟨SqL.of (s2' _ _ ht), fun a1 n1 => ?_⟩⟩
    have g1 := Gx.sameU n1 (o := .tup ((varsD ds).map V.str))
    have s3 := s2'.trans g1
    refine ⟨_, rfl, _, rfl, t, _, rfl, .inl ⟨SqL.of (s3 _ _ ht), fun a2 n2 => ?_⟩⟩
    have g2 := Gx.sameU n2 (o := .tup ((varsD ds).map V.str))
    have s4 := s3.trans g2
    refine ⟨by show 2 ≤ sizeLine; decide, fun a3 n3 => ?_⟩
    have g3 := Gx.sameU n3 (o := .tup [.ref l, .ref a2])
    have s5 := s4.trans g3
    refine ⟨_, rfl, by show 1 ≤ sizeLine; decide, fun a4 n4 => ?_⟩
    have g4 := Gx.sameU n4 (o := .lst [.ref q])
    have s6 := s5.trans g4
    refine fun a5 n5 => ?_
    have g5 := Gx.sameU n5 (o := .dK [])
    have s7 := s6.trans g5
    refine ⟨by show 9 ≤ sizeLine; decide, fun a6 n6 => ?_⟩
    have g6 := Gx.sameU n6 (o := .lst [.non, .int 0, .str z, .str ("Query(" ++ (PyData.list ds).shown ++ ", " ++ (PyData.tuple ((varsD ds).map .str)).shown ++ ")"), .ref l, .ref a1, .ref a3, .ref a4, .ref a5])
    have s8 := s7.trans g6
    have y5 := g6 _ _ (upd_same (a := a5) (o := .dK []))
    have y4 := (g5.trans g6) _ _ (upd_same (a := a4) (o := .lst [.ref q]))
    have y3 := (g4.trans (g5.trans g6)) _ _ (upd_same (a := a3) (o := .tup [.ref l, .ref a2]))
    have y1 := (g2.trans (g3.trans (g4.trans (g5.trans g6)))) _ _ (upd_same (a := a1) (o := .tup ((varsD ds).map V.str)))
    have tys : ∀ x ∈ ([.non, .int 0, .str z, .str ("Query(" ++ (PyData.list ds).shown ++ ", " ++ (PyData.tuple ((varsD ds).map .str)).shown ++ ")"), .ref l, .ref a1, .ref a3, .ref a4, .ref a5] : List V), ∃ ty ∈ Gx.datTys, TyX K (L2.upd (L2.upd (L2.upd (L2.upd (L2.upd (L2.upd H2 a1 (.tup ((varsD ds).map V.str))) a2 (.tup ((varsD ds).map V.str))) a3 (.tup [.ref l, .ref a2])) a4 (.lst [.ref q])) a5 (.dK [])) a6 (.lst [.non, .int 0, .str z, .str ("Query(" ++ (PyData.list ds).shown ++ ", " ++ (PyData.tuple ((varsD ds).map .str)).shown ++ ")"), .ref l, .ref a1, .ref a3, .ref a4, .ref a5])) x (.type ty) := fun x hx => by
      simp only [List.mem_cons, List.not_mem_nil, or_false] at hx
      rcases hx with rfl | rfl | rfl | rfl | rfl | rfl | rfl | rfl | rfl
      · exact ⟨"NoneType", by decide, .base .non⟩
      · exact ⟨"int", by decide, .base (.int 0)⟩
      · exact ⟨"str", by decide, .base (.str z)⟩
      · exact ⟨"str", by decide, .base (.str _)⟩
      · exact ⟨"list", by decide, .base (.lst (s8 _ _ hl))⟩
      · exact ⟨"tuple", by decide, .base (.tup y1)⟩
      · exact ⟨"tuple", by decide, .base (.tup y3)⟩
      · exact ⟨"list", by decide, .base (.lst y4)⟩
      · exact ⟨"dict", by decide, .base (.dK y5)⟩
    have ln9 : ([.non, .int 0, .str z, .str ("Query(" ++ (PyData.list ds).shown ++ ", " ++ (PyData.tuple ((varsD ds).map .str)).shown ++ ")"), .ref l, .ref a1, .ref a3, .ref a4, .ref a5] : List V).length = 9 := rfl
    have y6 := upd_same (H := L2.upd (L2.upd (L2.upd (L2.upd (L2.upd H2 a1 (.tup ((varsD ds).map V.str))) a2 (.tup ((varsD ds).map V.str))) a3 (.tup [.ref l, .ref a2])) a4 (.lst [.ref q])) a5 (.dK [])) (a := a6) (o := .lst [.non, .int 0, .str z, .str ("Query(" ++ (PyData.list ds).shown ++ ", " ++ (PyData.tuple ((varsD ds).map .str)).shown ++ ")"), .ref l, .ref a1, .ref a3, .ref a4, .ref a5])
    clear y1 y3 y4 y5
    generalize (L2.upd (L2.upd (L2.upd (L2.upd (L2.upd (L2.upd H2 a1 (.tup ((varsD ds).map V.str))) a2 (.tup ((varsD ds).map V.str))) a3 (.tup [.ref l, .ref a2])) a4 (.lst [.ref q])) a5 (.dK [])) a6 (.lst [.non, .int 0, .str z, .str ("Query(" ++ (PyData.list ds).shown ++ ", " ++ (PyData.tuple ((varsD ds).map .str)).shown ++ ")"), .ref l, .ref a1, .ref a3, .ref a4, .ref a5])) = H8 at s8 tys y6 ⊢
    generalize ([.non, .int 0, .str z, .str ("Query(" ++ (PyData.list ds).shown ++ ", " ++ (PyData.tuple ((varsD ds).map .str)).shown ++ ")"), .ref l, .ref a1, .ref a3, .ref a4, .ref a5] : List V) = items at tys y6 ln9 ⊢
    have hq8 := hq.same s8
    obtain ⟨dx8, lq8, v8, ys8, j1, _⟩ := id hq8
    have cmp : ∀ i x H', items[i]? = some x → Same H8 H' → ∃ ty ∈ Gx.datTys, TyX K H' x (.type ty) := fun i x H' hx s => by
      obtain ⟨ty, m, tx⟩ := tys x (List.mem_of_getElem? hx)
      exact ⟨ty, m, tyx_same s tx⟩
    refine ⟨_, rfl, a6, rfl, ⟨_, SqL.of y6⟩, fun D hD => ?_⟩
    refine lc_it (walk_list (K := K) (a := a6) (xs := items)) (fun i H' => Same H8 H' ∧ H' D = some (.lst ((List.replicate i false).map V.bl))) ⟨Gx.sameU hD, upd_same⟩ (fun i H' _ h' => .inl (.inl (h'.1 _ _ y6))) (fun i x H3 H4 hi h' Y => ?_) fun H3 h' => ?_
    · obtain ⟨s9, hD9⟩ := h'
      obtain ⟨rfl, he⟩ := Y
      obtain ⟨ty, m, tx⟩ := cmp i x _ he s9
      refine ⟨rfl, _, rfl, _, rfl, q, _, _, _, rfl, s9 _ _ j1, .x tx, T.o_Query.first m, p, q, x, ds, _, rfl, hq8.same s9, .inr ⟨ty, m, tx, false, rfl, _, hD9, ?_, fun b o e => ?_, ?_⟩⟩
      · rw [List.length_map, List.length_replicate]
        exact Nat.lt_of_le_of_lt (show i ≤ 9 by omega) (by decide)
      · rw [upd_ne (ne_of_none e hD)]
        exact s9 b o e
      · rw [upd_same, List.replicate_succ', List.map_append]
        rfl
    · obtain ⟨s9, hD9⟩ := h'
      refine ⟨D, List.replicate 9 false, rfl, SqL.of (by rw [hD9, ln9]), _, rfl, ?_⟩
      refine iteF ?_
      refine ⟨_, rfl, a6, rfl, ⟨_, SqL.of (s9 _ _ y6)⟩, fun D2 hD2 => ?_⟩
      refine lc_it (walk_list (K := K) (a := a6) (xs := items)) (fun i H' => Same H3 H' ∧ H' D2 = some (.lst ((List.replicate i true).map V.bl))) ⟨Gx.sameU hD2, upd_same⟩ (fun i H' _ h' => .inl (.inl (h'.1 _ _ (s9 _ _ y6)))) (fun i x H4 H5 hi h' Y => ?_) fun H4 h' => ?_
      · obtain ⟨s10, hD10⟩ := h'
        obtain ⟨rfl, he⟩ := Y
        obtain ⟨ty, m, tx⟩ := cmp i x _ he (s9.trans s10)
        refine ⟨rfl, _, rfl, _, rfl, q, _, _, _, rfl, (s9.trans s10) _ _ j1, .x tx, T.o_Query.first m, p, q, x, ds, _, rfl, hq8.same (s9.trans s10), .inr ⟨ty, m, tx, false, rfl, _, hD10, ?_, fun b o e => ?_, ?_⟩⟩
        · rw [List.length_map, List.length_replicate]
          exact Nat.lt_of_le_of_lt (show i ≤ 9 by omega) (by decide)
        · rw [upd_ne (ne_of_none e hD2)]
          exact s10 b o e
        · rw [upd_same, List.replicate_succ', List.map_append]
          rfl
      · obtain ⟨s10, hD10⟩ := h'
        have sX := s8.trans (s9.trans s10)
        refine ⟨D2, List.replicate 9 true, rfl, SqL.of (by rw [hD10, ln9]), _, rfl, ?_⟩
        refine iteF ?_
        have hpX := hp.same sX
        have lx := r.len
        refine ⟨_, rfl, _, rfl, l, xs, rfl, .inl (SqL.of (sX _ _ hl)), p, _, rfl, hpX, by omega, by omega, fun rr H5 r0 r1 hp5 k5 => ?_⟩
        obtain ⟨n, rfl⟩ : ∃ n : Nat, rr = (n : Int) := ⟨rr.toNat, by omega⟩
        have kX := (Gx.Kp.of (p := p) sX).trans k5
        have hl5 := kX _ _ nlp hl
        refine ⟨_, rfl, _, rfl, _, rfl, l, xs, rfl, SqL.of hl5, fun b1 m1 => ?_⟩
        have ct0 := cut_to xs n
        generalize cutV xs none (some (n : Int)) = xa at ct0 ⊢
        have u1 := Gx.sameU m1 (o := .lst xa)
        refine ⟨by show 1 ≤ sizeLine; decide, fun b2 m2 => ⟨by show 3 ≤ sizeLine; decide, fun b3 m3 => ⟨by show 1 ≤ sizeLine; decide, fun b4 m4 => ?_⟩⟩⟩
        have u2 := Gx.sameU m2 (o := .tup [.int 0])
        have u3 := Gx.sameU m3 (o := .tup [.str "row", .str "a", .ref b2])
        have u4 := Gx.sameU m4 (o := .lst [.ref b3])
        have ct : xa.length ≤ 7 := by rw [ct0, List.length_take]; omega
        refine ⟨b1, b4, _, _, rfl, rfl, (u2.trans (u3.trans u4)) _ _ upd_same, upd_same, Nat.le_trans (Nat.add_le_add ct (Nat.le_refl 1)) (by decide), fun b5 m5 => ?_⟩
        have u5 := Gx.sameU m5 (o := .lst (xa ++ [.ref b3]))
        have u15 := u1.trans (u2.trans (u3.trans (u4.trans u5)))
        refine ⟨_, rfl, _, rfl, _, rfl, l, xs, rfl, SqL.of (u15 _ _ hl5), fun b6 m6 => ?_⟩
        have cf0 := cut_from xs n
        generalize cutV xs (some (n : Int)) none = xb at cf0 ⊢
        have u6 := Gx.sameU m6 (o := .lst xb)
        have cf : xb.length ≤ 7 := by rw [cf0, List.length_drop]; omega
        refine ⟨b5, b6, _, _, rfl, rfl, u6 _ _ upd_same, upd_same, Nat.le_trans (Nat.add_le_add (by rw [List.length_append]; exact Nat.add_le_add ct (Nat.le_refl 1)) cf) (by decide), fun b7 m7 => ?_⟩
        have u7 := Gx.sameU m7 (o := .lst (xa ++ [.ref b3] ++ xb))
        have u17 := u15.trans (u6.trans u7)
        have kY := kX.trans (Gx.Kp.of (p := p) u17)
        have z2 := (u3.trans (u4.trans (u5.trans (u6.trans u7)))) _ _ (upd_same (a := b2) (o := .tup [.int 0]))
        have z3 := (u4.trans (u5.trans (u6.trans u7))) _ _ (upd_same (a := b3) (o := .tup [.str "row", .str "a", .ref b2]))
        have hp7 := hp5.same u17
        have q2 : b2 ≠ p := (hp5.same u1).ne m2
        have q3 : b3 ≠ p := ((hp5.same u1).same u2).ne m3
        have q7 : b7 ≠ p := ((hp5.same u15).same u6).ne m7
        have z7 := upd_same (H := L2.upd (L2.upd (L2.upd (L2.upd (L2.upd (L2.upd H5 b1 (.lst xa)) b2 (.tup [.int 0])) b3 (.tup [.str "row", .str "a", .ref b2])) b4 (.lst [.ref b3])) b5 (.lst (xa ++ [.ref b3]))) b6 (.lst xb)) (a := b7) (o := .lst (xa ++ [.ref b3] ++ xb))
        have ht7 := kY _ _ ntp ht
        have hq7 := hq.kp (fun e => by
          obtain ⟨aa, bb, e2, _⟩ := hp
          rw [← e, h1] at e2
          cases e2) kY
        have r7 := r.kp kY
        have hl7 := kY _ _ nlp hl
        clear u1 u2 u3 u4 u5 u6 u7 u15 u17 m1 m2 m3 m4 m5 m6 m7
        generalize (L2.upd (L2.upd (L2.upd (L2.upd (L2.upd (L2.upd (L2.upd H5 b1 (.lst xa)) b2 (.tup [.int 0])) b3 (.tup [.str "row", .str "a", .ref b2])) b4 (.lst [.ref b3])) b5 (.lst (xa ++ [.ref b3]))) b6 (.lst xb)) b7 (.lst (xa ++ [.ref b3] ++ xb))) = H7 at *
        subst ct0 cf0
        have nl : n < ds.length := by omega
        have dl7 : Gx.DatL p H7 (xs.take n ++ [.ref b3] ++ xs.drop n) (ds.take n ++ [lit0] ++ ds.drop n) :=
          ((r7.take n).snoc (.tup q3 z3 (.cons (.str "row" (by decide +kernel) (by decide +kernel)) (.cons (.str "a" (by decide +kernel) (by decide +kernel)) (.cons (.tup q2 z2 (.cons (.int 0 (by decide)) .nil)) .nil))))).app (r7.drop n)
        have e2 : (ds.take n ++ [lit0] ++ ds.drop n).length = ds.length + 1 := by
          simp only [List.length_append, List.length_take, List.length_drop, List.length_cons, List.length_nil]
          omega
        have good2 : ∀ d ∈ ds.take n ++ [lit0] ++ ds.drop n, litD d = true := fun d hd => by
          simp only [List.mem_append, List.mem_cons, List.not_mem_nil, or_false] at hd
          rcases hd with (hd | rfl) | hd
          · exact good d (List.mem_of_mem_take hd)
          · exact lit0_ok
          · exact good d (List.mem_of_mem_drop hd)
        have ev : varsD (ds.take n ++ [lit0] ++ ds.drop n) = varsD ds := by rw [vars_ins, List.take_append_drop]
        generalize ds.take n ++ [lit0] ++ ds.drop n = ds2 at dl7 e2 good2 ev
        have pds2 : Pu 1700 3 (.tuple ds2) := .tup (fun x hx => pu_lit (good2 x hx)) (by omega) (by decide)
        have pg : probD (.list ds2) (.tuple ((varsD ds).map .str)) = none := prob_good (ds := ds2) rfl (by omega) (by omega) good2 (by rw [ev]; exact v5) (by rw [ev]; exact order_self ds)
        refine ⟨_, rfl, _, rfl, t, _, rfl, .inl ⟨SqL.of ht7, fun c1 k1 => ?_⟩⟩
        have v1 := Gx.sameU k1 (o := .tup ((varsD ds).map V.str))
        obtain ⟨w1, w2, ep, _⟩ := hp7.same v1
        refine ⟨rfl, rfl, mk_ok (dx := .list ds2) (dy := .tuple ((varsD ds).map .str)) (.lst q7 (v1 _ _ z7) (dl7.kp (Gx.Kp.of v1))) (.tup (hp7.ne k1) upd_same (datL_strs _ (vars_ok good))) ep (fun fs e => by cases e; rw [List.length_map]; omega) _ _ (fun q2 H9 fs s1 nq e c hq2 => ?_) fun z i H' d s1 c hd => ?_⟩
        · obtain rfl : ds2 = fs := Option.some.inj e
          have hq2 : QryAt mg p H9 q2 ds2 (.tuple ((varsD ds).map .str)) := hq2
          have s79 := v1.trans s1
          have hq9 := hq7.same s79
          obtain ⟨x2, l2, v2, y2, i1, _⟩ := id hq2
          obtain ⟨x9, l9, v9, y9, i9, _⟩ := id hq9
          have ef : PyData.eqv (.tuple ds2) (.tuple ds) = false := eqv_lenT (by omega)
          have ef2 : PyData.eqv (.tuple ds) (.tuple ds2) = false := eqv_lenT (by omega)
          have fit1 := pdt.fit (by decide)
          have fit2 := pds2.fit (by decide)
          have fit3 := pvs.fit (by decide)
          refine ⟨_, rfl, _, rfl, q2, _, _, _, rfl, i1, .ins i9, Gx.first_self, p, q2, _, ds2, _, rfl, hq2, .inl ⟨q, ds, _, rfl, hq9, fit2, fit1, fit3, fit3, ?_⟩⟩
          rw [ef, Bool.false_and]
          refine ⟨_, rfl, _, _, rfl, rfl, _, rfl, iteT ?_⟩
          refine ⟨_, rfl, _, rfl, q, _, _, _, rfl, i9, .ins i1, Gx.first_self, p, q, _, ds, _, rfl, hq9, .inl ⟨q2, ds2, _, rfl, hq2, fit1, fit2, fit3, fit3, ?_⟩⟩
          rw [ef2, Bool.false_and]
          refine ⟨_, rfl, _, _, rfl, rfl, _, rfl, iteT ?_⟩
          refine ⟨_, rfl, q2, _, _, rfl, i1, p, q2, ds2, _, rfl, hq2, _, rfl, by show _ ≤ 16777216; omega, ?_⟩
          refine ⟨_, rfl, l, _, rfl, .inl (SqL.of (s79 _ _ hl7)), _, _, rfl, rfl, rfl, ?_⟩
          rw [show decide (V.int (ds2.length : Nat) = V.int ((xs.length : Nat) + 1)) = true from decide_eq_true (by rw [e2, lx]; rfl)]
          exact qq H9 (hp7.same s79) (kY.trans (Gx.Kp.of s79))
        · rw [pg] at c
          cases c
end
end My
namespace My
open PySem PySem.Spec PyProof.Rows L2
/-- the error that _law_told looks into, and what it makes of it -/
def ToldE (mg : Str → Option Value) (Q : VK) : XK := fun cls d H => cls = .ref (Gx.cl mg "InvalidQuery") ∧ ∃ (dd : Addr) (z : Str) (i : Int), d = some dd ∧ H dd = some (.xd [("position", .int i), ("problem", .str z)]) ∧ ∀ r, H r = none → Q (.ref r) (L2.upd H r (.lst [.str z, .int i]))
/-- what _law_told makes of what it calls -/
def TTold (mg : Str → Option Value) : (XK → Hp → VK → Prop) → Hp → VK → Prop := fun tl H Q =>
  ∀ (E' : XK) (Q' : VK), (∀ cls d H', ToldE mg Q cls d H' → E' cls d H') → (∀ v H', Q (.str "other") H' → Q' v H') → tl E' H Q'
theorem told_gives {X : Cx} (T : Mo X.K X.mg) {x q : Str} {g : Addr} {cdg : Value} : LamX.GivesTo X N__law_told x (defScope s__law_told) g cdg (defBody s__law_told) "_law_call" q (TTold X.mg) := by
  intro f c' s H Q tl act hc h
  let K := X.K
  let mg := X.mg
  have act9 := fun (W : WX) (pn : List (Addr × Obj)) (xe : Value → Shared → Prop) (p1 p2 : Pos) tk => Gx.pe_act9 act W pn xe (p1 := p1) (p2 := p2) tk
  have act9 := fun (W : WX) (pn : List (Addr × Obj)) (xe : Value → Shared → Prop) {p1 p2 : Pos} tk => act9 W pn xe p1 p2 tk
  refine ⟨_, (pss_cons (ps_set (i := 1) sc__law_told.nd rfl (Or.inl rfl) pe_str)
      (pss_cons (Gx.ps_try rfl rfl sc__law_told.nd takes0 (fun W pn xe tk po => (pss_one (ps_expr (act9 W pn xe tk))))
      (.as (i := 2) rfl rfl ⟨rfl, by decide, .inl T.c_InvalidQuery.g⟩ (fun a oe cls d pn hz hf => (pss_one (ps_if (PW.pt (pw_and (pt_val (pe_callB (Gx.call_isPt (K := K) (mg := mg) rfl rfl (a := a) (oe := oe) List.mem_cons_self hz hf) (by rfl) T.b_isinstance (show bootBuiltins "isinstance" = some (.builtin "isinstance") by decide +kernel) (pa_cons (pv 2) (pa_cons (Gx.pe_k rfl T.c_CoverError.known) pa_nil)))) (pw_and1 (pt_val (pe_callB (Gx.call_isPt (K := K) (mg := mg) rfl rfl (a := a) (oe := oe) List.mem_cons_self hz hf) (by rfl) T.b_isinstance (show bootBuiltins "isinstance" = some (.builtin "isinstance") by decide +kernel) (pa_cons (pv 2) (pa_cons (pe_bltn (v := .ty "ValueError") rfl T.b_ValueError (by decide +kernel) rfl) pa_nil))))))) (pss_one (ps_set (i := 1) sc__law_told.nd rfl (Or.inl rfl) (pe_lst (pa_cons (pe_xf T.e_InvalidQuery.xf T.f_InvalidQuery_problem hz hf (pv 2)) (pa_cons (pe_xf T.e_InvalidQuery.xf T.f_InvalidQuery_position hz hf (pv 2)) pa_nil))))) pss_nil))) .nil))
      (pss_one (ps_ret (pv 1))))), ?_⟩
  refine ⟨rfl, hc, h _ _ (fun cls d H' e σ' l => ?_) (fun v H' hq => ⟨_, rfl, hq⟩)⟩
  obtain ⟨rfl, dd, z, i, rfl, hd, hq⟩ := e
  obtain ⟨u, v, y, rfl⟩ : ∃ u v y, σ' = [u, v, y] := by
    match σ', l with
    | [u, v, y], _ => exact ⟨u, v, y, rfl⟩
  have eo : Gx.ErrOf X.mg "InvalidQuery" (.ref (Gx.cl X.mg "InvalidQuery")) (some dd) H' [("position", .int i), ("problem", .str z)] := ⟨rfl, dd, rfl, hd⟩
  refine ⟨true, T.u_InvalidQuery_InvalidQuery.exm T.c_InvalidQuery, fun _ a ha => ?_, fun z => nomatch z⟩
  refine ⟨_, rfl, "InvalidQuery", _, _, _, _, true, rfl, T.e_InvalidQuery, eo, .inl ⟨_, .own _, T.u_InvalidQuery_CoverError.one T.c_CoverError⟩, _, rfl, iteT ?_⟩
  refine ⟨_, rfl, "InvalidQuery", _, _, _, _, true, rfl, T.e_InvalidQuery, eo, .inl ⟨_, .ty _, Gx.kit_blt T.v_InvalidQuery_ValueError (by decide +kernel)⟩, _, rfl, iteT ?_⟩
  exact ⟨_, rfl, rfl, rfl, dd, _, .str z, rfl, hd, rfl, _, rfl, rfl, rfl, dd, _, .int i, rfl, hd, rfl, by show 2 ≤ sizeLine; decide, fun r nr => ⟨_, rfl, hq r nr⟩⟩
end My
namespace My
open PySem PySem.Spec PyProof.Rows L2
section
variable {P : Program} {w : World} {K : PySem.W.Frag} {mg : Str → Option Value} {base : Heap}
abbrev q1 : Str := (envOfC "_law_is_refused" (defScope s__law_is_refused) 0 0 .none).qual ++ "<lambda>"
abbrev q2 : Str := (envOfC "_law_orders_right" (defScope s__law_orders_right) 0 0 .none).qual ++ "<lambda>"
/-- the tables of the code objects of the two defs that make lambdas -/
def TBS (K : PySem.W.Frag) : List (Addr × Str) := [((Gx.tb K "_law_is_refused").2, q1), ((Gx.tb K "_law_orders_right").2, q2)]
structure Tb2 (K : PySem.W.Frag) (mg : Str → Option Value) (base : Heap) : Prop where
  t1 : LamX.TabB base mg (Gx.tb K "_law_is_refused").1 (Gx.tb K "_law_is_refused").2
  t2 : LamX.TabB base mg (Gx.tb K "_law_orders_right").1 (Gx.tb K "_law_orders_right").2
  ne : (Gx.tb K "_law_is_refused").2 ≠ (Gx.tb K "_law_orders_right").2
theorem Tb2.u1 (B : Tb2 K mg base) : ∀ z ∈ TBS K, z.1 = (Gx.tb K "_law_is_refused").2 → z.2 = q1 := fun z hz e => by
  simp only [TBS, List.mem_cons, List.not_mem_nil, or_false] at hz
  rcases hz with rfl | rfl
  · rfl
  · exact absurd e.symm B.ne
theorem Tb2.u2 (B : Tb2 K mg base) : ∀ z ∈ TBS K, z.1 = (Gx.tb K "_law_orders_right").2 → z.2 = q2 := fun z hz e => by
  simp only [TBS, List.mem_cons, List.not_mem_nil, or_false] at hz
  rcases hz with rfl | rfl
  · exact absurd e B.ne
  · rfl
def spIR (K : PySem.W.Frag) (mg : Str → Option Value) : Sp := fun vs H Q _ => ∃ (p q l : Addr) (ds : List PyData) (dv : PyData) (xs : List V) (es : List PyData), vs = [.ref q, .ref l] ∧ LamX.Tabs (TBS K) H ∧ QryAt mg p H q ds dv ∧ H l = some (.lst xs) ∧ Gx.DatL p H xs es ∧ (∃ o, H p = some (.lst o)) ∧ probD (.tuple ds) .none = none ∧
  orderD (.tuple es) (varsD ds) = false ∧ Fit (.list es) ∧ ∀ H', LamX.ExtN H H' → LamX.Tabs (TBS K) H' → Q (.bl true) H'
theorem QryAt.en {p : Addr} {H H' : Hp} {q : Addr} {ds : List PyData} {dv : PyData} (h : QryAt mg p H q ds dv) (e : LamX.ExtN H H') : QryAt mg p H' q ds dv := by
  obtain ⟨dx, l, v, xs, h1, h2, h3, h4, h5⟩ := h
  have kd : Kd p H H' := fun b o _ i z => e b o z fun ps w => by
    rw [w] at i
    cases i
  exact ⟨dx, l, v, xs, e _ _ h1 (fun _ z => nomatch z), e _ _ h2 (fun _ z => nomatch z), h3, datL_kd kd h4, dat_kd kd h5⟩
theorem datL_en {p : Addr} {H H' : Hp} {xs : List V} {ds : List PyData} (h : Gx.DatL p H xs ds) (e : LamX.ExtN H H') : Gx.DatL p H' xs ds := datL_kd (fun b o _ i z => e b o z fun ps w => by
  rw [w] at i
  cases i) h
theorem p__law_is_refused (T : Mo K mg) (B : Tb2 K mg base) : Gx.PrG P w K mg base CX0 16 "_law_is_refused" s__law_is_refused ["_law_asked", "_law_names"] (spIR K mg) := by
  refine T.d__law_is_refused.okG sc__law_is_refused (fun vs H Q E h => ?_) (fun f A outer s H vs Q E hgd hr h => ?_)
  · obtain ⟨p, q, l, ds, dv, xs, es, rfl, _⟩ := h
    rfl
  · obtain ⟨p, q, l, ds, dv, xs, es, rfl, hT, hq, hl, r, hp, pn, no, ft, qq⟩ := h
    have hu64 := hr.units
    refine ⟨_, (pss_cons (ps_set (i := 2) sc__law_is_refused.nd rfl (Or.inl rfl) (pe_lst (pa_cons pe_str (pa_cons (pe_un un_neg pe_int) pa_nil))))
      (pss_cons (ps_if (PW.pt (pw_or (pt_cmpR (op_eqD hu64) (pv 1) (pe_lst pa_nil) (nomark _)) (pw_or1 (pt_cmpR op_gt (pe_callB call_len_seq (by rfl) T.b_len (by decide +kernel) (pa_cons (pv 1) pa_nil)) pe_int (nomark _))))) (pss_one (ps_ret pe_bl)) pss_nil)
      (pss_one (ps_ret (pe_cmpR (op_eqD hu64) (Gx.pe_lam (Tb := TBS K) (y := "_law_is_refused") (k := 13) T.d__law_told rfl sc__law_told rfl (Or.inl rfl) b__law_told (fun g cdg => told_gives T) rfl B.t1 rfl List.mem_cons_self B.u1 hr (LamX.lamS_by (sc := defScope s__law_is_refused) (by decide +kernel)) rfl (fun _ _ _ _ _ => rfl) (fun A outer s H E f c' hr2 => (Gx.pe_pos (E := E) (p__law_in_order T) hr2 (by decide) (by rfl) b__law_in_order (passes_call (takes_of rfl rfl rfl rfl) fun _ _ _ _ h => h) (pa_cons (pv 0) (pa_cons (pv 1) pa_nil))))) (pv 2) (nomark _)))))), ?_⟩
    refine ⟨_, rfl, by show 2 ≤ sizeLine; decide, fun u nu => ?_⟩
    have s1 := Gx.sameU nu (o := .lst [.str "order", .int (-1)])
    have hu : (L2.upd H u (.lst [.str "order", .int (-1)])) u = some (.lst [.str "order", .int (-1)]) := upd_same
    refine ⟨_, rfl, by show 0 ≤ sizeLine; decide, fun e ne => ?_⟩
    have s2 := s1.trans (Gx.sameU ne (o := .lst []))
    have ft0 : Fit (.list ([] : List PyData)) := ⟨by decide, by decide⟩
    have re := r.kp (Gx.Kp.of s2)
    refine ⟨.list es, .list [], .lst (SqL.of (s2 _ _ hl)) (re.dp (by simpa only [PyData.hasDict] using ft.1)), .lst (SqL.of upd_same) .nil, ft.2, ft0.2, _, rfl, ?_⟩
    have hu2 := (Gx.sameU ne (o := .lst [])) _ _ hu
    rw [eqv_emp]
    cases c : es.isEmpty with
    | true => exact iteT (iteT (qq _ (LamX.ExtN.of s2) (hT.ext s2)))
    | false =>
      refine iteF ?_
      refine ⟨_, rfl, l, _, rfl, .inl (SqL.of (s2 _ _ hl)), _, _, rfl, rfl, _, rfl, ?_⟩
      have lx := r.len
      show if decide ((6 : Int) < (xs.length : Nat)) = true then _ else _
      by_cases c6 : 6 < es.length
      · rw [decide_eq_true (show (6 : Int) < (xs.length : Nat) by omega)]
        exact iteT (qq _ (LamX.ExtN.of s2) (hT.ext s2))
      · rw [decide_eq_false (show ¬ (6 : Int) < (xs.length : Nat) by omega)]
        refine iteF ⟨hT.ext s2, fun H1 eN t1 E' Q' hE hQ => ?_⟩
        have e1 := (LamX.ExtN.of s2).trans eN
        have dd : Fit (.list [.str "order", .int (-1)]) := ⟨by decide, by decide +kernel⟩
        refine ⟨_, rfl, _, rfl, p, q, l, ds, dv, xs, es, rfl, hq.en e1, e1 _ _ hl (fun _ z => nomatch z), datL_en r e1, by omega, ?_, pn, fun o => ?_, fun _ H' d s3 hd => hE _ _ _ ⟨rfl, d, "order", -1, rfl, upd_same, fun t nt => ?_⟩⟩
        · obtain ⟨o, ho⟩ := hp
          exact ⟨_, e1 _ _ ho (fun _ z => nomatch z)⟩
        · rw [no] at o
          cases o
        · have s5 := (s3.trans (Gx.sameU hd (o := .xd [("position", .int (-1)), ("problem", .str "order")]))).trans (Gx.sameU nt (o := .lst [.str "order", .int (-1)]))
          have hu5 := s5 _ _ (eN _ _ hu2 (fun _ z => nomatch z))
          refine ⟨_, rfl, .list [.str "order", .int (-1)], .list [.str "order", .int (-1)], .lst (SqL.of upd_same) (.cons (.str _) (.cons (.int _) .nil)), .lst (SqL.of hu5) (.cons (.str _) (.cons (.int _) .nil)), dd.2, dd.2, ?_⟩
          rw [show PyData.eqv (.list [.str "order", .int (-1)]) (.list [.str "order", .int (-1)]) = true by decide +kernel]
          exact qq _ (e1.trans (LamX.ExtN.of s5)) (t1.ext s5)
end
end My
namespace My
open PySem PySem.Spec PyProof.Rows L2
/-! ### all but the pot and the tables stay -/
def KpN (p : Addr) (H H' : Hp) : Prop := ∀ b o, b ≠ p → (∀ ps, o ≠ .tbl ps) → H b = some o → H' b = some o
theorem KpN.kp {p : Addr} {H H' : Hp} (k : Gx.Kp p H H') : KpN p H H' := fun b o n _ e => k b o n e
theorem KpN.en {p : Addr} {H H' : Hp} (k : LamX.ExtN H H') : KpN p H H' := fun b o _ t e => k b o e t
theorem KpN.trans {p : Addr} {H H1 H2 : Hp} (a : KpN p H H1) (b : KpN p H1 H2) : KpN p H H2 := fun c o n t e => b c o n t (a c o n t e)
theorem KpN.kd {p : Addr} {H H' : Hp} (k : KpN p H H') : Kd p H H' := fun b o n i e => k b o n (fun ps w => by
  rw [w] at i
  cases i) e
theorem QryAt.kpn {mg : Str → Option Value} {p : Addr} {H H' : Hp} {q : Addr} {ds : List PyData} {dv : PyData} (h : QryAt mg p H q ds dv) (n : q ≠ p) (k : KpN p H H') : QryAt mg p H' q ds dv := by
  obtain ⟨dx, l, v, xs, h1, h2, h3, h4, h5⟩ := h
  exact ⟨dx, l, v, xs, k _ _ n (fun _ z => nomatch z) h1, k _ _ h3 (fun _ z => nomatch z) h2, h3, datL_kd k.kd h4, dat_kd k.kd h5⟩
theorem tabs_kp {p : Addr} {T : List (Addr × Str)} {H H' : Hp} (t : LamX.Tabs T H) (hp : ∃ xs, H p = some (.lst xs)) (k : Gx.Kp p H H') : LamX.Tabs T H' := fun z hz => by
  obtain ⟨xs, hp⟩ := hp
  obtain ⟨ps, h1, h2, h3⟩ := t z hz
  refine ⟨ps, k _ _ (fun e => ?_) h1, h2, fun pos cv hc => ?_⟩
  · rw [e, hp] at h1
    cases h1
  · obtain ⟨c, e1, e2⟩ := h3 pos cv hc
    refine ⟨c, e1, k _ _ (fun e => ?_) e2⟩
    rw [e, hp] at e2
    cases e2
theorem Pot.lst {p : Addr} {H : Hp} (h : Pot p H) : ∃ xs, H p = some (.lst xs) := let ⟨_, _, e, _⟩ := h; ⟨_, e⟩
theorem Pot.en {p : Addr} {H H' : Hp} (h : Pot p H) (e : LamX.ExtN H H') : Pot p H' := let ⟨a, b, z, r⟩ := h; ⟨a, b, e _ _ z (fun _ w => nomatch w), r⟩
mutual
theorem dat_dq {K : PySem.W.Frag} {N : Addr → Prop} {H : Hp} : ∀ {v : V} {d : PyData}, Gx.DatN N H v d → d.hasDict = false → Gx.Dq K H v d
  | _, _, .non, _ => .non
  | _, _, .bl b, _ => .bl b
  | _, _, .int i _, _ => .int i
  | _, _, .str z _ _, _ => .str z
  | _, _, .lst _ h r, e => .lst (SqL.of h) (datL_dq r (by simpa only [PyData.hasDict] using e))
  | _, _, .tup _ h r, e => .tup (SqT.of h) (datL_dq r (by simpa only [PyData.hasDict] using e))
  | _, _, .nil _ _, e => by simp [PyData.hasDict] at e
  | _, _, .one _ _ _ _, e => by simp [PyData.hasDict] at e
theorem datL_dq {K : PySem.W.Frag} {N : Addr → Prop} {H : Hp} : ∀ {vs : List V} {ds : List PyData}, Gx.DatNL N H vs ds → PyData.hasDictAll ds = false → Gx.DqAll K H vs ds
  | _, _, .nil, _ => .nil
  | _, _, .cons h r, e => by
    simp only [PyData.hasDictAll, Bool.or_eq_false_iff] at e
    exact .cons (dat_dq h e.1) (datL_dq r e.2)
end
theorem perm_strs {ys : List V} {ws : List Str} (pm : ys.Perm (ws.map V.str)) : ∃ us : List Str, ys = us.map V.str ∧ us.Perm ws := by
  let f : V → Str := fun v => match v with
    | .str z => z
    | _ => ""
  have e1 : (ws.map V.str).map f = ws := by
    rw [List.map_map]
    exact (List.map_congr_left fun _ _ => rfl).trans (List.map_id _)
  refine ⟨ys.map f, ?_, by simpa only [e1] using pm.map f⟩
  rw [List.map_map]
  have : ∀ y ∈ ys, (V.str ∘ f) y = y := fun y hy => by
    obtain ⟨z, _, rfl⟩ := List.mem_map.mp (pm.mem_iff.mp hy)
    rfl
  exact ((List.map_congr_left this).trans (List.map_id _)).symm
theorem eqv_self {d : PyData} (h : Fit d) : PyData.eqv d d = true := by
  have := h.2
  unfold SeqAt.shaped at this
  rw [Bool.and_eq_true] at this
  exact PySem.SeqAt.eqv_refl d this.1
theorem eqv_tstr (a b : List Str) : PyData.eqv (.tuple (a.map .str)) (.tuple (b.map .str)) = decide (a = b) := by
  rw [PyData.eqv]
  exact eqv_strs a b
theorem eqv_lstr (a b : List Str) : PyData.eqv (.list (a.map .str)) (.list (b.map .str)) = decide (a = b) := by
  rw [PyData.eqv]
  exact eqv_strs a b
/-- what is wrong, the literals being right -/
theorem prob_ord {ds : List PyData} {dl dy : PyData} (e : itemsD dl = some ds) (h : probD dl .none = none) (n : nonD dy = false) (o : orderD dy (varsD ds) = false) : probD dl dy = some (("order" : Str), (-1 : Int)) := by
  simp only [probD, e] at h ⊢
  by_cases c : ds.length = 0 ∨ 8 < ds.length
  · rw [if_pos c] at h
    cases h
  · rw [if_neg c] at h ⊢
    cases b : badD ds with
    | some i =>
      rw [b] at h
      cases h
    | none =>
      rw [b] at h
      dsimp only at h ⊢
      by_cases c5 : 5 < (varsD ds).length
      · rw [if_pos c5] at h
        cases h
      · rw [if_neg c5, n, o]
        rfl
/-- values that stand for an order, not longer than six -/
structure Lane (p : Addr) (H : Hp) (a : Addr) (ys : List V) (es : List PyData) : Prop where
  at_ : H a = some (.lst ys)
  ne : a ≠ p
  dat : Gx.DatL p H ys es
  le : es.length ≤ 10
  pu : ∀ x ∈ es, Pu 100 1 x
theorem Lane.kpn {p : Addr} {H H' : Hp} {a : Addr} {ys : List V} {es : List PyData} (h : Lane p H a ys es) (k : KpN p H H') : Lane p H' a ys es :=
  ⟨k _ _ h.ne (fun _ z => nomatch z) h.at_, h.ne, datL_kd k.kd h.dat, h.le, h.pu⟩
theorem Lane.same {p : Addr} {H H' : Hp} {a : Addr} {ys : List V} {es : List PyData} (h : Lane p H a ys es) (k : Same H H') : Lane p H' a ys es := h.kpn (.kp (Gx.Kp.of k))
theorem Lane.fit {p : Addr} {H : Hp} {a : Addr} {ys : List V} {es : List PyData} (h : Lane p H a ys es) : Fit (.list es) :=
  (Pu.lst (m := 1100) (j := 2) h.pu (by have := h.le; omega) (by decide)).fit (by decide)
theorem Pu.dsh {n k : Nat} {d : PyData} (g : Pu n k d) (h : n ≤ 4900) (h2 : k ≤ 30) : d.shown.length ≤ sizeLine := Nat.le_trans (g.shp h h2).2.2 (by decide)
theorem eqv_ordne : PyData.eqv (.list [.str "order", .int (-1)]) (.list [.str "order", .int (-1)]) = true := by decide +kernel
end My
namespace My
open PySem PySem.Spec PyProof.Rows L2
theorem bneF (b : Bool) : (b != false) = b := by cases b <;> rfl
theorem bneT (b : Bool) : (b != true) = !b := by cases b <;> rfl
theorem neSelf {x : V} {A B : Prop} (h : B) : if (!decide (x = x)) = true then A else B := by
  rw [decide_eq_true rfl]
  exact h
section
variable {P : Program} {w : World} {K : PySem.W.Frag} {mg : Str → Option Value} {base : Heap}
def spOrd (K : PySem.W.Frag) (mg : Str → Option Value) : Sp := fun vs H Q _ => ∃ (p l q t : Addr) (xs : List V) (ds : List PyData), vs = [.ref p, .ref l, .ref q, .ref t] ∧ LamX.Tabs (TBS K) H ∧ Pot p H ∧ l ≠ p ∧ t ≠ p ∧ H l = some (.lst xs) ∧ Gx.DatL p H xs ds ∧ QryAt mg p H q ds (.tuple ((varsD ds).map .str)) ∧
  H t = some (.lst ((varsD ds).map V.str)) ∧ 1 ≤ ds.length ∧ ds.length ≤ 7 ∧ (∀ d ∈ ds, litD d = true) ∧ (varsD ds).length ≤ 5 ∧ ∀ H', Pot p H' → LamX.Tabs (TBS K) H' → KpN p H H' → Q (.bl true) H'
theorem p__law_orders_right (T : Mo K mg) (B : Tb2 K mg base) : Gx.PrG P w K mg base CX0 19 "_law_orders_right" s__law_orders_right ["_law_pot_here", "_law_parts", "_law_asked", "_law_sequence"] (spOrd K mg) := by
  refine T.d__law_orders_right.okG sc__law_orders_right (fun vs H Q E h => ?_) (fun f A outer s H vs Q E hgd hr h => ?_)
  · obtain ⟨p, l, q, t, xs, ds, rfl, _⟩ := h
    rfl
  · obtain ⟨p, l, q, t, xs, ds, rfl, hT, hp, nlp, ntp, hl, r, hq, ht, l1, l7, good, v5, qq⟩ := h
    have hu64 := hr.units
    have p__law_is_refused := fun T' : Mo K mg => p__law_is_refused (P := P) (w := w) (base := base) T' B
    refine ⟨_, (pss_cons (ps_set (i := 4) sc__law_orders_right.nd rfl (Or.inl rfl) (Gx.pe_pos (p__law_mixed T) hr (by decide) (by rfl) b__law_mixed pass0 (pa_cons (pv 0) (pa_cons (pv 3) pa_nil))))
      (Evl.pss_cut (ps_set (i := 5) sc__law_orders_right.nd rfl (Or.inl rfl) (pe_ifExp (pt_cmpR (op_neD hu64) (pv 4) (pe_lst pa_nil) (nomark _)) (Gx.pe_pos (E := E0) (p__law_in_order T) hr (by decide) (by rfl) b__law_in_order passL (pa_cons (pv 2) (pa_cons (pv 4) pa_nil))) (Gx.pe_mets0 (E := E0) (p_Query_in_order T) T.m_Query_in_order hr (by decide) passL (pv 2))))
      (pss_cons (ps_if (PW.pt (pw_or (pt_cmpR (op_neD hu64) (Gx.pe_prq (p_Query_variables T) hr (by decide) (pv 5)) (pe_callTy (Gx.call_tuple_ofF (K := K) rfl) (by rfl) T.b_tuple (by decide +kernel) (pa_cons (pv 4) pa_nil)) (nomark _)) (pw_or (pt_cmpR (op_neD hu64) (Gx.pe_met0 (p_Query_literals T) T.m_Query_literals hr (by decide) bm_Query_literals pass0 (pv 5)) (pv 1) (nomark _)) (pw_or1 (pt_cmpR (Gx.op_neMF (K := K) (mg := mg) (j := 18) rfl rfl (p_Query___eq__ T) T.m_Query___eq__ T.ne_Query bm_Query___eq__ hr (by decide)) (pv 5) (Gx.pe_mkP (E := fun _ => E0) (p_Query___init__ T) T.mk_Query hr (by decide) (by rfl) (by simp) mb_Query_2 (fun _ pins H s e s' I z => passL pins _ H s e s' I z) (pa_cons (pv 1) (pa_cons (pe_callTy (Gx.call_tuple_ofF (K := K) rfl) (by rfl) T.b_tuple (by decide +kernel) (pa_cons (pv 4) pa_nil)) pa_nil))) (nomark _)))))) (pss_one (ps_ret pe_bl)) pss_nil)
      (pss_cons (ps_if (PW.pt (pw_or (pt_cmpR op_ne (pe_cmpR (Gx.op_eqMF (K := K) (mg := mg) (j := 18) rfl rfl (p_Query___eq__ T) T.m_Query___eq__ T.ne_Query bm_Query___eq__ hr (by decide)) (pv 5) (pv 2) (nomark _)) (pe_cmpR (op_eqD hu64) (pv 4) (pv 3) (nomark _)) (nomark _)) (pw_or1 (pt_cmpR op_ne (pe_cmpR (Gx.op_neMF (K := K) (mg := mg) (j := 18) rfl rfl (p_Query___eq__ T) T.m_Query___eq__ T.ne_Query bm_Query___eq__ hr (by decide)) (pv 5) (pv 2) (nomark _)) (pe_cmpR (op_neD hu64) (pv 4) (pv 3) (nomark _)) (nomark _))))) (pss_one (ps_ret pe_bl)) pss_nil)
      (pss_cons (ps_set (i := 6) sc__law_orders_right.nd rfl (Or.inl rfl) (Gx.pe_pos (p__law_pick T) hr (by decide) (by rfl) b__law_pick pass0 (pa_cons (pv 0) (pa_cons (pe_lst (pa_cons pe_non (pa_cons pe_int (pa_cons pe_str (pa_cons pe_str (pa_cons pe_str (pa_cons (pe_tup pa_nil) (pa_cons pe_str (pa_cons pe_int pa_nil))))))))) pa_nil))))
      (Evl.pss_cut (ps_set (i := 7) sc__law_orders_right.nd rfl (Or.inl rfl) (pe_lst (pa_cons (pe_slice sl_list (pv 4) (po_some pe_int) po_none) (pa_cons (pe_op op_cat (pv 4) (pe_lst (pa_cons (pv 6) pa_nil))) (pa_cons (pe_op op_cat (pv 4) (pe_slice sl_list (pv 4) po_none (po_some pe_int))) (pa_cons (pe_op op_cat (pe_slice sl_list (pv 4) (po_some pe_int) po_none) (pe_lst (pa_cons (pv 6) pa_nil))) pa_nil))))))
      (Evl.pss_cut (ps_setLc (i := 8) (own := [("_law_names", 9)]) (g := gName 9) rfl sc__law_orders_right.nd rfl rfl (sw_true rfl rfl rfl (by decide +kernel)) (pi_list (pv 7)) (blkOk_by (N := N__law_orders_right) (sc := defScope s__law_orders_right) (by decide +kernel)) (fun _ _ _ _ _ => (pg_name (i := 9) sc__law_orders_right.nd rfl (Or.inl rfl))) (fun _ _ _ _ _ => (pts_one (pt_cmpR (Gx.op_neP (K := K) rfl hu64) (pe_callB (Gx.cr_sortedQF (K := K) rfl) (by rfl) T.b_sorted (show bootBuiltins "sorted" = some (.builtin "sorted") by decide +kernel) (pa_cons (pe_lc (own := [("_law_one", 10)]) (g := gName 10) (tt := tYes) rfl sc__law_orders_right.nd (Gx.pi_listF (K := K) rfl (pv 9)) (blkOk_by (N := N__law_orders_right) (sc := { kind := .function, names := [(".0", .local), ("_law_names", .local), ("sorted", .globalImplicit), ("_law_sequence", .cell)], isGenerator := false, isCoroutine := false }) (by decide +kernel)) (fun _ _ _ _ _ => (pg_name (i := 10) sc__law_orders_right.nd rfl (Or.inl rfl))) (fun _ _ _ _ _ => pts_nil) (fun _ _ _ _ _ => (pe_callB (Gx.call_reprK (K := K) rfl hgd hu64) (by rfl) T.b_repr (show bootBuiltins "repr" = some (.builtin "repr") by decide +kernel) (pa_cons (pv 10) pa_nil)))) pa_nil)) (pe_callB (Gx.cr_sortedQF (K := K) rfl) (by rfl) T.b_sorted (show bootBuiltins "sorted" = some (.builtin "sorted") by decide +kernel) (pa_cons (pe_lc (own := [("_law_one", 10)]) (g := gName 10) (tt := tYes) rfl sc__law_orders_right.nd (Gx.pi_listF (K := K) rfl (pv 3)) (blkOk_by (N := N__law_orders_right) (sc := { kind := .function, names := [(".0", .local), ("_law_names", .local), ("sorted", .globalImplicit), ("_law_sequence", .cell)], isGenerator := false, isCoroutine := false }) (by decide +kernel)) (fun _ _ _ _ _ => (pg_name (i := 10) sc__law_orders_right.nd rfl (Or.inl rfl))) (fun _ _ _ _ _ => pts_nil) (fun _ _ _ _ _ => (pe_callB (Gx.call_reprK (K := K) rfl hgd hu64) (by rfl) T.b_repr (show bootBuiltins "repr" = some (.builtin "repr") by decide +kernel) (pa_cons (pv 10) pa_nil)))) pa_nil)) (nomark _)))) (fun _ _ _ _ _ => (pv 9)))
      (Evl.pss_cut (ps_if (pt_not (pt_val (pe_callB (cr_all rfl) (by rfl) T.b_all (by decide +kernel) (pa_cons (pe_lc (own := [("_law_names", 9)]) (g := gName 9) (tt := tYes) rfl sc__law_orders_right.nd (pi_list (pv 8)) (blkOk_by (N := N__law_orders_right) (sc := defScope s__law_orders_right) (by decide +kernel)) (fun _ _ _ _ _ => (pg_name (i := 9) sc__law_orders_right.nd rfl (Or.inl rfl))) (fun _ _ _ _ _ => pts_nil) (fun _ _ _ _ _ => (Gx.pe_posG hgd (p__law_is_refused T) hr (by decide) (by rfl) b__law_is_refused pass0 (pa_cons (pv 2) (pa_cons (pv 9) pa_nil))))) pa_nil)))) (pss_one (ps_ret pe_bl)) pss_nil)
      (Evl.pss_cut (ps_for PassesOwn.never rfl (pi_list (pv 8)) (pg_name (i := 9) sc__law_orders_right.nd rfl (Or.inr rfl)) (pss_one (ps_if (pt_cmpR (op_neD hu64) (Gx.pe_lam (Tb := TBS K) (y := "_law_orders_right") (k := 16) T.d__law_told rfl sc__law_told rfl (Or.inl rfl) b__law_told (fun g cdg => told_gives T) rfl B.t2 rfl (List.mem_cons_of_mem _ List.mem_cons_self) B.u2 hr (LamX.lamS_by (sc := defScope s__law_orders_right) (by decide +kernel)) rfl (fun _ _ _ _ _ => rfl) (fun A outer s H E f c' hr2 => (Gx.pe_mkPt (mg := mg) (E := fun _ => E) rfl (p_Query___init__ T) T.mk_Query hr2 (by decide) (by rfl) (by simp) mb_Query_2 (fun _ pins H s e s' I z => (passes_call (takes_of rfl rfl rfl rfl) fun _ _ _ _ h => h) pins _ H s e s' I z) (pa_cons (pv 1) (pa_cons (pe_callTy (Gx.call_tuple_ofF (K := K) rfl) (by rfl) T.b_tuple (by decide +kernel) (pa_cons (pv 9) pa_nil)) pa_nil))))) (pe_lst (pa_cons pe_str (pa_cons (pe_un un_neg pe_int) pa_nil))) (nomark _)) (pss_one (ps_ret pe_bl)) pss_nil)))
      (pss_one (ps_ret (pe_or (pe_cmpR (op_eqD hu64) (pv 3) (pe_lst pa_nil) (nomark _)) (pe_one (pe_cmpR (op_eqD hu64) (Gx.pe_lam (Tb := TBS K) (y := "_law_orders_right") (k := 16) T.d__law_told rfl sc__law_told rfl (Or.inl rfl) b__law_told (fun g cdg => told_gives T) rfl B.t2 rfl (List.mem_cons_of_mem _ List.mem_cons_self) B.u2 hr (LamX.lamS_by (sc := defScope s__law_orders_right) (by decide +kernel)) rfl (fun _ _ _ _ _ => rfl) (fun A outer s H E f c' hr2 => (Gx.pe_mkPt (mg := mg) (E := fun _ => E) rfl (p_Query___init__ T) T.mk_Query hr2 (by decide) (by rfl) (by simp) mb_Query_2 (fun _ pins H s e s' I z => (passes_call (takes_of rfl rfl rfl rfl) fun _ _ _ _ h => h) pins _ H s e s' I z) (pa_cons (pv 1) (pa_cons (pe_callTy (Gx.call_list_ofF (K := K) rfl) (by rfl) T.b_list (by decide +kernel) (pa_cons (pv 3) pa_nil)) pa_nil))))) (pe_lst (pa_cons pe_str (pa_cons (pe_un un_neg pe_int) pa_nil))) (nomark _))))))))))))))), ?_⟩
    have wok := vars_ok good
    have pdl : Pu 1700 3 (.list ds) := .lst (fun x hx => pu_lit (good x hx)) (by omega) (by decide)
    have pdt : Pu 1700 3 (.tuple ds) := .tup (fun x hx => pu_lit (good x hx)) (by omega) (by decide)
    have pn : probD (.tuple ds) .none = none := prob_goodN (ds := ds) rfl l1 (by omega) good v5
    have pnl : probD (.list ds) .none = none := prob_goodN (ds := ds) rfl l1 (by omega) good v5
    have pvs : Pu 600 1 (.tuple ((varsD ds).map .str)) := .tup (pu_oks wok) (by rw [List.length_map]; omega) (by decide)
    refine ⟨_, rfl, _, rfl, p, t, _, rfl, hp, ntp, .inl ht, by rw [List.length_map]; omega, fun x hx => ?_, fun o ys H1 pm no ho hp1 k1 => ?_⟩
    · obtain ⟨z, hz, rfl⟩ := List.mem_map.mp hx
      exact .str z (by have := (wok z hz).1; omega) (wok z hz).2
    obtain ⟨us, rfl, pu⟩ := perm_strs pm
    have uok : ∀ z ∈ us, okZ z := fun z hz => wok z (pu.mem_iff.mp hz)
    have lu : us.length ≤ 5 := by rw [pu.length_eq]; exact v5
    have nop := hp.ne no
    have hT1 := tabs_kp hT hp.lst k1
    have nqp : q ≠ p := fun e => by
      obtain ⟨dx, lq, v, ys, h1, _⟩ := hq
      obtain ⟨a, b, e2, _⟩ := hp
      rw [e, e2] at h1
      cases h1
    have hq1 := hq.kp nqp k1
    have r1 := r.kp k1
    have hl1 := k1 _ _ nlp hl
    have ht1 := k1 _ _ ntp ht
    have oru : orderD (.tuple (us.map .str)) (varsD ds) = true := by
      rw [order_strs (vars_nodup ds)]
      exact decide_eq_true pu
    have pus : Pu 600 1 (.tuple (us.map .str)) := .tup (pu_oks uok) (by rw [List.length_map]; omega) (by decide)
    have pul : Pu 600 1 (.list (us.map .str)) := .lst (pu_oks uok) (by rw [List.length_map]; omega) (by decide)
    have pwl : Pu 600 1 (.list ((varsD ds).map .str)) := .lst (pu_oks wok) (by rw [List.length_map]; omega) (by decide)
    have ft0 : Fit (.list ([] : List PyData)) := ⟨by decide, by decide⟩
    -- the other order
    refine ⟨fun σ' H' => ∃ q', σ' = [some (.ref p), some (.ref l), some (.ref q), some (.ref t), some (.ref o), some (.ref q'), none, none, none, none, none] ∧ Same H1 H' ∧ q' ≠ p ∧ QryAt mg p H' q' ds (.tuple (us.map .str)), ?_, fun σ' H2 h2 => ?_⟩
    · refine ⟨_, rfl, Nat.zero_le _, fun e ne => ?_⟩
      have s1 := Gx.sameU ne (o := .lst [])
      refine ⟨.list (us.map .str), .list [], .lst (SqL.of (s1 _ _ ho)) (dpStrs us), .lst (SqL.of upd_same) .nil, (pul.fit (by decide)).2, ft0.2, _, rfl, ?_⟩
      rw [eqv_emp]
      have io : ∀ (Q' : VK), (∀ q' H', Same (L2.upd H1 e (.lst [])) H' → q' ≠ p → QryAt mg p H' q' ds (.tuple (us.map .str)) → Q' (.ref q') H') → InOrd mg p q ds (us.map .str) (L2.upd H1 e (.lst [])) Q' C8.E0 := fun Q' h => ⟨fun _ => h, fun z => by
        rw [oru] at z
        cases z⟩
      have hq2 := hq1.same s1
      have hpe := hp1.same s1
      cases us with
      | nil =>
        refine iteF ?_
        obtain ⟨dx, lq, v, ys, h1, _⟩ := id hq2
        refine ⟨_, rfl, q, _, _, rfl, h1, rfl, _, _, rfl, by show 0 ≤ _; omega, fun t2 ht2 => ?_⟩
        have s2 : Same _ (L2.upd (L2.upd H1 e (.lst [])) t2 (.tup [])) := Gx.sameU ht2
        exact ⟨p, q, t2, ds, _, [], [], rfl, hq2.same s2, upd_same, hpe.ne ht2, .nil, by decide, hpe.lst.elim fun o ho => ⟨_, s2 _ _ ho⟩, pn, (io _ fun q' H' s nq hq' => ⟨q', rfl, s1.trans s, nq, hq'⟩).same s2⟩
      | cons u0 us' =>
        refine iteT ?_
        refine ⟨_, rfl, _, rfl, p, q, o, ds, _, _, _, rfl, hq2, s1 _ _ ho, datL_strs _ uok, by rw [List.length_map]; omega, hpe.lst.elim fun o ho => ⟨_, ho⟩, pn, io _ fun q' H' s nq hq' => ⟨q', rfl, s1.trans s, nq, hq'⟩⟩
    obtain ⟨q', rfl, s2, nqp', hq2⟩ := h2
    have hp2 := hp1.same s2
    have ho2 := s2 _ _ ho
    have hl2 := s2 _ _ hl1
    have ht2 := s2 _ _ ht1
    have r2 := r1.kp (Gx.Kp.of s2)
    have hT2 := hT1.ext s2
    have hqa := hq1.same s2
    have k2 : KpN p H H2 := (KpN.kp k1).trans (.kp (Gx.Kp.of s2))
    obtain ⟨x2, y2, v2, z2, i2, _⟩ := id hq2
    obtain ⟨xa, ya, va, za, ia, _⟩ := id hqa
    have fds := pdt.fit (by decide)
    have fdl := pdl.fit (by decide)
    have fus := pus.fit (by decide)
    have fvs := pvs.fit (by decide)
    have ful := pul.fit (by decide)
    have fwl := pwl.fit (by decide)
    clear hq1 ho hl1 ht1 r1 hT1 hp1 hp hT s2 k1
    -- the same literals in the other order
    refine ⟨_, rfl, q', _, _, rfl, i2, p, q', ds, _, rfl, hq2, fun v hv => ?_⟩
    refine ⟨_, rfl, o, _, rfl, .inl ⟨SqL.of ho2, fun a1 n1 => ?_⟩⟩
    have g1 := Gx.sameU n1 (o := .tup (us.map V.str))
    refine ⟨.tuple (us.map .str), .tuple (us.map .str), (hv.kp (Gx.Kp.of g1)).dp fus.1, .tup (SqT.of upd_same) (dpStrs us), fus.2, fus.2, _, rfl, ?_⟩
    rw [eqv_self fus]
    refine iteF ?_
    refine ⟨_, rfl, q', _, _, rfl, g1 _ _ i2, rfl, p, q', ds, _, rfl, hq2.same g1, fun l2 ys hy nl => ?_⟩
    have g2 := Gx.sameU nl (o := .lst ys)
    have g12 := g1.trans g2
    refine ⟨_, rfl, .list ds, .list ds, .lst (SqL.of upd_same) ((hy.kp (Gx.Kp.of g2)).dp (by simpa only [PyData.hasDict] using fdl.1)), .lst (SqL.of (g12 _ _ hl2)) ((r2.kp (Gx.Kp.of g12)).dp (by simpa only [PyData.hasDict] using fdl.1)), fdl.2, fdl.2, _, rfl, ?_⟩
    rw [eqv_self fdl]
    refine iteF ?_
    refine ⟨_, rfl, _, rfl, _, rfl, o, _, rfl, .inl ⟨SqL.of (g12 _ _ ho2), fun a3 n3 => ?_⟩⟩
    have g3 := Gx.sameU n3 (o := .tup (us.map V.str))
    have g13 := g12.trans g3
    obtain ⟨w1, w2, ep, _⟩ := hp2.same g13
    have pg : probD (.list ds) (.tuple (us.map .str)) = none := prob_good (ds := ds) rfl l1 (by omega) good v5 oru
    refine ⟨rfl, rfl, mk_ok (dx := .list ds) (dy := .tuple (us.map .str)) (.lst nlp (g13 _ _ hl2) (r2.kp (Gx.Kp.of g13))) (.tup ((hp2.same g12).ne n3) upd_same (datL_strs _ uok)) ep (fun fs e => by cases e; rw [List.length_map]; omega) _ _ (fun q3 H3 fs s3 nq e c hq3 => ?_) fun z i H' d s3 c hd => ?_⟩
    rotate_left
    · rw [pg] at c
      cases c
    obtain rfl : ds = fs := Option.some.inj e
    have hq3 : QryAt mg p H3 q3 ds (.tuple (us.map .str)) := hq3
    have g23 := g13.trans s3
    obtain ⟨x3, y3, v3, z3, i3, _⟩ := id hq3
    refine ⟨q', _, _, _, rfl, g23 _ _ i2, .ins i3, Gx.first_self, p, q', _, ds, _, rfl, hq2.same g23, .inl ⟨q3, ds, _, rfl, hq3, fds, fds, fus, fus, ?_⟩⟩
    rw [eqv_self fds, eqv_self fus]
    refine ⟨_, rfl, _, rfl, iteF ?_⟩
    -- equal exactly if the orders are
    have hq4 := hq2.same g23
    have ha4 := hqa.same g23
    have i4 := g23 _ _ i2
    have j4 := g23 _ _ ia
    refine ⟨_, rfl, _, rfl, q', _, _, _, rfl, i4, .ins j4, Gx.first_self, p, q', _, ds, _, rfl, hq4, .inl ⟨q, ds, _, rfl, ha4, fds, fds, fus, fvs, ?_⟩⟩
    refine ⟨_, rfl, _, rfl, _, rfl, .list (us.map .str), .list ((varsD ds).map .str), .lst (SqL.of (g23 _ _ ho2)) (dpStrs us), .lst (SqL.of (g23 _ _ ht2)) (dpStrs _), ful.2, fwl.2, ?_⟩
    rw [eqv_self fds, eqv_tstr, eqv_lstr, Bool.true_and, bneF]
    refine ⟨rfl, _, rfl, ?_⟩
    refine neSelf ?_
    refine ⟨_, rfl, _, rfl, q', _, _, _, rfl, i4, .ins j4, Gx.first_self, p, q', _, ds, _, rfl, hq4, .inl ⟨q, ds, _, rfl, ha4, fds, fds, fus, fvs, ?_⟩⟩
    refine ⟨_, rfl, _, rfl, _, rfl, .list (us.map .str), .list ((varsD ds).map .str), .lst (SqL.of (g23 _ _ ho2)) (dpStrs us), .lst (SqL.of (g23 _ _ ht2)) (dpStrs _), ful.2, fwl.2, ?_⟩
    rw [eqv_self fds, eqv_tstr, eqv_lstr, Bool.true_and, bneT]
    refine ⟨rfl, _, rfl, ?_⟩
    refine neSelf ?_
    -- orders that are none
    have hp3 := hp2.same g23
    have ho3 := g23 _ _ ho2
    have hT3 := hT2.ext g23
    have k3 : KpN p H H3 := k2.trans (.kp (Gx.Kp.of g23))
    clear g1 g2 g3 g12 g13 g23 s3 hq2 i2 i4 hq3 i3 hqa ia hp2 ho2 hl2 ht2 r2 hT2 k2 hy hv n1 nl n3 hq4 ha4 j4 c
    refine ⟨_, rfl, by show 0 ≤ sizeLine; decide, fun e0 n0 => ⟨by show 8 ≤ sizeLine; decide, fun a6 n6 => ?_⟩⟩
    have s1 := (Gx.sameU n0 (o := .tup [])).trans (Gx.sameU n6 (o := .lst [.non, .int 0, .str "", .str "A", .str "zzzzzzzz", .ref e0, .str "not", .int 5]))
    have he0 := (Gx.sameU n6 (o := .lst [.non, .int 0, .str "", .str "A", .str "zzzzzzzz", .ref e0, .str "not", .int 5])) _ _ (upd_same (H := H3) (a := e0) (o := .tup []))
    have ne0 := hp3.ne n0
    refine ⟨p, _, rfl, hp3.same s1, .inl ⟨a6, _, rfl, (hp3.same (Gx.sameU n0)).ne n6, upd_same, by show 0 < 8; decide, by show 8 ≤ 1000; decide, fun x H4 hx hp4 k4 => ?_⟩⟩
    obtain ⟨dx, hdx, px⟩ : ∃ dx, Gx.Dat p H4 x dx ∧ Pu 100 1 dx := by
      simp only [List.mem_cons, List.not_mem_nil, or_false] at hx
      have sm : ∀ z : Str, (z.length ≤ 11 ∧ ∀ c ∈ z.cps.toList, c < 128) → ∃ dx, Gx.Dat p H4 (.str z) dx ∧ Pu 100 1 dx := fun z hz => ⟨.str z, .str z (by omega) hz.2, (pu_str hz).mono (by decide) (by decide)⟩
      rcases hx with rfl | rfl | rfl | rfl | rfl | rfl | rfl | rfl
      · exact ⟨.none, .non, ⟨by decide, by decide, by decide +kernel, by decide, by decide, by decide⟩⟩
      · exact ⟨.int 0, .int 0 (by decide), (pu_int (by decide)).mono (by decide) (by decide)⟩
      · exact sm _ (by decide +kernel)
      · exact sm _ (by decide +kernel)
      · exact sm _ (by decide +kernel)
      · exact ⟨.tuple [], .tup ne0 (k4 _ _ ne0 he0) .nil, .tup (n := 0) (k := 0) (fun _ h => nomatch h) (by decide) (by decide)⟩
      · exact sm _ (by decide +kernel)
      · exact ⟨.int 5, .int 5 (by decide), (pu_int (by decide)).mono (by decide) (by decide)⟩
    have hT4 := tabs_kp (hT3.ext s1) (hp3.same s1).lst k4
    have ho4 := k4 _ _ nop (s1 _ _ ho3)
    have k4' : KpN p H H4 := k3.trans ((KpN.kp (Gx.Kp.of s1)).trans (.kp k4))
    clear s1 he0 hx k4 hT3 ho3 k3 hp3
    refine ⟨fun σ' H' => ∃ (W : Addr) (vs : List V), σ' = [some (.ref p), some (.ref l), some (.ref q), some (.ref t), some (.ref o), some (.ref q'), some x, some (.ref W), none, none, none] ∧ Pot p H' ∧ LamX.Tabs (TBS K) H' ∧ KpN p H H' ∧ H' W = some (.lst vs) ∧ vs.length ≤ 4 ∧ ∀ v ∈ vs, ∃ a ys es, v = .ref a ∧ Lane p H' a ys es, ?_, fun σ' H5 h5 => ?_⟩
    · have du := datL_strs (p := p) (H := H4) us uok
      have lo : (us.map V.str).length ≤ 5 := by rw [List.length_map]; exact lu
      have lo2 : (us.map PyData.str).length ≤ 5 := by rw [List.length_map]; exact lu
      have pu1 : ∀ y ∈ us.map PyData.str, Pu 100 1 y := fun y hy => (pu_oks uok y hy).mono (by decide) (by decide)
      generalize us.map V.str = xu at ho4 du lo
      generalize us.map PyData.str = du' at du lo2 pu1
      have b4 : ∀ n : Nat, n ≤ 12 → n ≤ sizeLine := fun n h => Nat.le_trans h (by decide)
      have c1 : cutV xu (some 1) none = xu.drop 1 := cut_from xu 1
      have c2 : cutV xu none (some 1) = xu.take 1 := cut_to xu 1
      have ld : (xu.drop 1).length ≤ 4 := by rw [List.length_drop]; omega
      have lt : (xu.take 1).length ≤ 1 := by rw [List.length_take]; omega
      refine ⟨_, rfl, 1, rfl, o, _, rfl, SqL.of ho4, fun b1 m1 => ?_⟩
      rw [c1]
      have u1 := Gx.sameU m1 (o := .lst (xu.drop 1))
      refine ⟨_, rfl, _, rfl, by show 1 ≤ sizeLine; decide, fun b2 m2 => ?_⟩
      have u2 := Gx.sameU m2 (o := .lst [x])
      refine ⟨o, b2, _, _, rfl, rfl, u2 _ _ (u1 _ _ ho4), upd_same, b4 _ (by show _ + 1 ≤ 12; omega), fun b3 m3 => ?_⟩
      have u3 := Gx.sameU m3 (o := .lst (xu ++ [x]))
      have u13 := u1.trans (u2.trans u3)
      refine ⟨_, rfl, _, rfl, 1, rfl, o, _, rfl, SqL.of (u13 _ _ ho4), fun d4 m4 => ?_⟩
      rw [c2]
      have u4 := Gx.sameU m4 (o := .lst (xu.take 1))
      refine ⟨o, d4, _, _, rfl, rfl, u4 _ _ (u13 _ _ ho4), upd_same, b4 _ (by omega), fun b5 m5 => ?_⟩
      have u5 := Gx.sameU m5 (o := .lst (xu ++ xu.take 1))
      have u15 := u13.trans (u4.trans u5)
      refine ⟨_, rfl, 1, rfl, o, _, rfl, SqL.of (u15 _ _ ho4), fun b6 m6 => ?_⟩
      rw [c1]
      have u6 := Gx.sameU m6 (o := .lst (xu.drop 1))
      refine ⟨_, rfl, by show 1 ≤ sizeLine; decide, fun b7 m7 => ?_⟩
      have u7 := Gx.sameU m7 (o := .lst [x])
      refine ⟨b6, b7, _, _, rfl, rfl, u7 _ _ upd_same, upd_same, b4 _ (by show _ + 1 ≤ 12; omega), fun b8 m8 => ?_⟩
      have u8 := Gx.sameU m8 (o := .lst (xu.drop 1 ++ [x]))
      refine ⟨by show 4 ≤ sizeLine; decide, fun b9 m9 => ?_⟩
      have u9 := Gx.sameU m9 (o := .lst [.ref b1, .ref b3, .ref b5, .ref b8])
      have u29 := u2.trans (u3.trans (u4.trans (u5.trans (u6.trans (u7.trans (u8.trans u9))))))
      have u19 := u1.trans u29
      have kx := Gx.Kp.of (p := p) u19
      refine ⟨b9, _, rfl, hp4.same u19, hT4.ext u19, k4'.trans (.kp kx), upd_same, by show 4 ≤ 4; decide, fun v hv => ?_⟩
      have hdx' := hdx.kp kx
      have du9 := du.kp kx
      have h1 : b1 ≠ p := hp4.ne m1
      have h3 : b3 ≠ p := ((hp4.same u1).same u2).ne m3
      have h5 : b5 ≠ p := ((hp4.same u13).same u4).ne m5
      have h8 : b8 ≠ p := (((hp4.same u15).same u6).same u7).ne m8
      have e1 := u29 _ _ (upd_same (H := H4) (a := b1) (o := .lst (xu.drop 1)))
      have e3 := (u4.trans (u5.trans (u6.trans (u7.trans (u8.trans u9))))) _ _ (upd_same (a := b3) (o := .lst (xu ++ [x])))
      have e5 := (u6.trans (u7.trans (u8.trans u9))) _ _ (upd_same (a := b5) (o := .lst (xu ++ xu.take 1)))
      have e8 := u9 _ _ (upd_same (a := b8) (o := .lst (xu.drop 1 ++ [x])))
      clear u1 u2 u3 u4 u5 u6 u7 u8 u9 u13 u15 u29 u19 m1 m2 m3 m4 m5 m6 m7 m8 m9
      generalize L2.upd _ b9 _ = H9 at *
      have pt : ∀ y ∈ du'.take 1, Pu 100 1 y := fun y hy => pu1 y (List.mem_of_mem_take hy)
      have pd : ∀ y ∈ du'.drop 1, Pu 100 1 y := fun y hy => pu1 y (List.mem_of_mem_drop hy)
      have p1 : ∀ y ∈ [dx], Pu 100 1 y := fun y hy => by
        rw [List.mem_singleton.mp hy]
        exact px
      have ap : ∀ {as bs : List PyData}, (∀ y ∈ as, Pu 100 1 y) → (∀ y ∈ bs, Pu 100 1 y) → ∀ y ∈ as ++ bs, Pu 100 1 y := fun h1 h2 y hy => (List.mem_append.mp hy).elim (h1 y) (h2 y)
      simp only [List.mem_cons, List.not_mem_nil, or_false] at hv
      rcases hv with rfl | rfl | rfl | rfl
      · exact ⟨b1, _, _, rfl, e1, h1, du9.drop 1, by rw [List.length_drop]; omega, pd⟩
      · exact ⟨b3, _, _, rfl, e3, h3, du9.snoc hdx', by rw [List.length_append]; show _ + 1 ≤ 10; omega, ap pu1 p1⟩
      · exact ⟨b5, _, _, rfl, e5, h5, du9.app (du9.take 1), by rw [List.length_append, List.length_take]; omega, ap pu1 pt⟩
      · exact ⟨b8, _, _, rfl, e8, h8, (du9.drop 1).snoc hdx', by rw [List.length_append, List.length_drop]; show _ + 1 ≤ 10; omega, ap pd p1⟩
    obtain ⟨W, vs, rfl, hp5, hT5, k5, hW, lv, lanes⟩ := h5
    -- those that differ
    refine ⟨fun σ' H' => ∃ (D : Addr) (acc : List V), σ' = [some (.ref p), some (.ref l), some (.ref q), some (.ref t), some (.ref o), some (.ref q'), some x, some (.ref W), some (.ref D), none, none] ∧ Same H5 H' ∧ H' D = some (.lst acc) ∧ acc.length ≤ 4 ∧ ∀ v ∈ acc, ∃ a ys es, v = .ref a ∧ Lane p H5 a ys es ∧ orderD (.tuple es) (varsD ds) = false, ?_, fun σ' H6 h6 => ?_⟩
    · refine ⟨_, rfl, W, rfl, ⟨_, SqL.of hW⟩, fun D hD => ?_⟩
      refine lc_it (walk_list (K := K) (a := W) (xs := vs)) (fun i H' => Same H5 H' ∧ ∃ acc, H' D = some (.lst acc) ∧ acc.length ≤ i ∧ ∀ v ∈ acc, ∃ a ys es, v = .ref a ∧ Lane p H5 a ys es ∧ orderD (.tuple es) (varsD ds) = false) ⟨Gx.sameU hD, [], upd_same, Nat.le_refl _, fun _ h => nomatch h⟩ (fun i H' _ h' => .inl (.inl (h'.1 _ _ hW))) (fun i v Ha Hc hi h' Y => ?_) fun H6 h' => ?_
      · obtain ⟨s6, acc, hD6, la, bad⟩ := h'
        obtain ⟨rfl, he⟩ := Y
        obtain ⟨a, ys, es, rfl, ln0⟩ := lanes v (List.mem_of_getElem? he)
        have ln := ln0.same s6
        have nD := hp5.ne hD
        refine ⟨rfl, ?_⟩
        -- the texts of the one
        refine ⟨_, rfl, a, rfl, ⟨_, SqL.of ln.at_⟩, fun D2 hD2 => ?_⟩
        refine lc_it (walk_list (K := K) (a := a) (xs := ys)) (fun j H' => Same Hc H' ∧ H' D2 = some (.lst (((es.take j).map PyData.shown).map V.str))) ⟨Gx.sameU hD2, upd_same⟩ (fun j H' _ h' => .inl (.inl (h'.1 _ _ ln.at_))) (fun j y Hx H7 hj h' Y => ?_) fun H7 h' => ?_
        · obtain ⟨s7, hD7⟩ := h'
          obtain ⟨rfl, hy⟩ := Y
          obtain ⟨d, hd, ty⟩ := ln.dat.get hy
          have pd := ln.pu d (List.mem_of_getElem? hd)
          refine ⟨rfl, _, rfl, y, d, rfl, dat_dq (ty.kp (Gx.Kp.of s7)) pd.nd, pd.sh, (fun z => by rw [pd.nd] at z; cases z), Nat.le_trans pd.dp (by decide), pd.dsh (by decide) (by decide), _, hD7, ?_, fun b u e => ?_, ?_⟩
          · have := ln.le
            rw [List.length_map, List.length_map, List.length_take]
            exact Nat.lt_of_le_of_lt (show _ ≤ 10 by omega) (by decide)
          · rw [upd_ne (ne_of_none e hD2)]
            exact s7 b u e
          · have hj' : j < es.length := (List.getElem?_eq_some_iff.mp hd).1
            rw [upd_same, List.take_add_one, hd]
            simp
        obtain ⟨s7, hD7⟩ := h'
        rw [ln.dat.len, List.take_length] at hD7
        refine ⟨D2, es.map PyData.shown, rfl, .inl (SqL.of hD7), by rw [List.length_map]; have := ln.le; omega, fun zs b1 pz sz m1 => ?_⟩
        have u1 := Gx.sameU m1 (o := .lst (zs.map V.str))
        have s67 := s7.trans u1
        -- the texts of the sequence
        have ht6 : H5 t = some (.lst ((varsD ds).map V.str)) := k5 _ _ ntp (fun _ z => nomatch z) ht
        have ht7 := s67 _ _ (s6 _ _ ht6)
        refine ⟨_, rfl, t, rfl, ⟨_, SqL.of ht7⟩, fun D3 hD3 => ?_⟩
        refine lc_it (walk_list (K := K) (a := t) (xs := (varsD ds).map V.str)) (fun j H' => Same (L2.upd H7 b1 (.lst (zs.map V.str))) H' ∧ H' D3 = some (.lst (((((varsD ds).map PyData.str).take j).map PyData.shown).map V.str))) ⟨Gx.sameU hD3, upd_same⟩ (fun j H' _ h' => .inl (.inl (h'.1 _ _ ht7))) (fun j y Hx H8 hj h' Y => ?_) fun H8 h' => ?_
        · obtain ⟨s8, hD8⟩ := h'
          obtain ⟨rfl, hy⟩ := Y
          obtain ⟨d, hd, ty⟩ := (datL_strs (p := p) (H := H8) _ wok).get hy
          have pd := (pu_oks wok) d (List.mem_of_getElem? hd)
          refine ⟨rfl, _, rfl, y, d, rfl, dat_dq ty pd.nd, pd.sh, (fun z => by rw [pd.nd] at z; cases z), Nat.le_trans pd.dp (by decide), pd.dsh (by decide) (by decide), _, hD8, ?_, fun b u e => ?_, ?_⟩
          · rw [List.length_map, List.length_map, List.length_take, List.length_map]
            exact Nat.lt_of_le_of_lt (show _ ≤ 10 by omega) (by decide)
          · rw [upd_ne (ne_of_none e hD3)]
            exact s8 b u e
          · rw [upd_same, List.take_add_one, hd]
            simp
        obtain ⟨s8, hD8⟩ := h'
        rw [List.length_map, List.take_of_length_le (by rw [List.length_map]; exact Nat.le_refl _)] at hD8
        refine ⟨D3, ((varsD ds).map PyData.str).map PyData.shown, rfl, .inl (SqL.of hD8), by rw [List.length_map, List.length_map]; omega, fun zs2 b2 pz2 sz2 m2 => ?_⟩
        have u2 := Gx.sameU m2 (o := .lst (zs2.map V.str))
        have s8' := s8.trans u2
        refine ⟨.list (zs.map .str), .list (zs2.map .str), .lst (SqL.of (s8' _ _ upd_same)) (dpStrs zs), .lst (SqL.of upd_same) (dpStrs zs2), Nat.le_trans (Nat.min_le_left _ _) (by rw [PyData.depth, strs_depth]; decide), _, rfl, ?_⟩
        rw [eqv_lstr]
        have sX := s67.trans s8'
        by_cases c : zs = zs2
        · rw [decide_eq_true c]
          exact iteF ⟨s6.trans sX, acc, sX _ _ hD6, by omega, bad⟩
        · rw [decide_eq_false c]
          refine iteT ⟨_, rfl, acc, sX _ _ hD6, Nat.lt_of_le_of_lt (show acc.length ≤ 4 by omega) (by decide), fun b u e => ?_, acc ++ [.ref a], upd_same, by rw [List.length_append]; show _ + 1 ≤ _; omega, fun v hv => ?_⟩
          · rw [upd_ne (ne_of_none e hD)]
            exact (s6.trans sX) b u e
          · rcases List.mem_append.mp hv with hv | hv
            · exact bad v hv
            · refine ⟨a, ys, es, List.mem_singleton.mp hv, ln0, ?_⟩
              cases oc : orderD (.tuple es) (varsD ds) with
              | false => rfl
              | true =>
                have pe := (order_perm (vars_nodup ds) oc).map PyData.shown
                have := sorted_eq pz pz2 sz sz2
                rw [decide_eq_false c, decide_eq_true pe] at this
                cases this
      · obtain ⟨s6, acc, hD6, la, bad⟩ := h'
        exact ⟨D, acc, rfl, s6, hD6, by omega, bad⟩
    obtain ⟨D, acc, rfl, s6, hD6, la, bad⟩ := h6
    have bad : ∀ v ∈ acc, ∃ a ys es, v = .ref a ∧ Lane p H6 a ys es ∧ orderD (.tuple es) (varsD ds) = false := fun v hv => by
      obtain ⟨a, ys, es, e, ln, o⟩ := bad v hv
      exact ⟨a, ys, es, e, ln.same s6, o⟩
    have hp6 := hp5.same s6
    have hT6 := hT5.ext s6
    have k6 : KpN p H H6 := k5.trans (.kp (Gx.Kp.of s6))
    clear hp5 hT5 k5 s6 hW lv lanes hdx px hT4 ho4 k4' hp4
    have kxs : ∀ {H'}, LamX.ExtN H6 H' → KpN p H H' := fun e => k6.trans (.en e)
    have tU : ∀ {H' : Hp} {b : Addr} {xs : List V} {o : HO}, LamX.Tabs (TBS K) H' → H' b = some (.lst xs) → LamX.Tabs (TBS K) (L2.upd H' b o) := fun t e => tabs_kp t ⟨_, e⟩ Gx.Kp.at
    -- no order, by in_order
    refine ⟨fun σ' H' => σ' = [some (.ref p), some (.ref l), some (.ref q), some (.ref t), some (.ref o), some (.ref q'), some x, some (.ref W), some (.ref D), none, none] ∧ LamX.ExtN H6 H' ∧ LamX.Tabs (TBS K) H', ?_, fun σ' H7 h7 => ?_⟩
    · refine ⟨_, rfl, D, rfl, ⟨_, SqL.of hD6⟩, fun D2 hD2 => ?_⟩
      refine lc_it (walk_list (K := K) (a := D) (xs := acc)) (fun i H' => LamX.ExtN H6 H' ∧ LamX.Tabs (TBS K) H' ∧ H' D2 = some (.lst ((List.replicate i true).map V.bl))) ⟨.of (Gx.sameU hD2), hT6.ext (Gx.sameU hD2), upd_same⟩ (fun i H' _ h' => .inl (.inl (h'.1 _ _ hD6 (fun _ z => nomatch z)))) (fun i v Ha Hc hi h' Y => ?_) fun H7 h' => ?_
      · obtain ⟨e7, t7, d7⟩ := h'
        obtain ⟨rfl, he⟩ := Y
        obtain ⟨a, ys, es, rfl, ln, oe⟩ := bad v (List.mem_of_getElem? he)
        have ln7 := ln.kpn (.en e7)
        have kx := kxs e7
        refine ⟨rfl, _, rfl, _, rfl, p, q, a, ds, _, ys, es, rfl, t7, hq.kpn nqp kx, ln7.at_, ln7.dat, (hp6.en e7).lst, pn, oe, ln7.fit, fun H8 e8 t8 => ?_⟩
        have d8 := e8 _ _ d7 (fun _ z => nomatch z)
        refine ⟨_, d8, ?_, fun b u e n => ?_, tU t8 d8, ?_⟩
        · have la' : acc.length ≤ 4 := la
          rw [List.length_map, List.length_replicate]
          exact Nat.lt_of_le_of_lt (show i ≤ 4 by omega) (by decide)
        · rw [upd_ne (ne_of_none e hD2)]
          exact (e7.trans e8) b u e n
        · rw [upd_same, List.replicate_succ', List.map_append]
          rfl
      · obtain ⟨e7, t7, d7⟩ := h'
        refine ⟨D2, List.replicate acc.length true, rfl, SqL.of d7, ?_⟩
        rw [show (List.replicate acc.length true).all id = true by simp]
        exact ⟨_, rfl, iteF ⟨rfl, e7, t7⟩⟩
    obtain ⟨rfl, e7, t7⟩ := h7
    have told : ∀ (H8 : Hp) (dy : PyData) (Q' : VK) (d : Addr) (z : Str) (i : Int), nonD dy = false → orderD dy (varsD ds) = false → probD (.list ds) dy = some (z, i) → (∀ r H9, Same H8 H9 → H9 r = some (.lst [.str "order", .int (-1)]) → Q' (.ref r) H9) → H8 d = none →
        ToldE mg Q' (.ref (Gx.cl mg "InvalidQuery")) (some d) (L2.upd H8 d (.xd [("position", .int i), ("problem", .str z)])) := fun H8 dy Q' d z i n o c h hd => by
      rw [prob_ord rfl pnl n o] at c
      cases c
      exact ⟨rfl, d, "order", -1, rfl, upd_same, fun r nr => h r _ ((Gx.sameU hd).trans (Gx.sameU nr)) upd_same⟩
    -- no order, in the creation
    refine ⟨fun σ' H' => (∃ u, σ' = [some (.ref p), some (.ref l), some (.ref q), some (.ref t), some (.ref o), some (.ref q'), some x, some (.ref W), some (.ref D), u, none]) ∧ LamX.ExtN H6 H' ∧ LamX.Tabs (TBS K) H', ?_, fun σ' H8 h8 => ?_⟩
    · refine ⟨_, rfl, D, rfl, ⟨_, SqL.of (e7 _ _ hD6 (fun _ z => nomatch z))⟩, ?_⟩
      refine for_it (walk_list (K := K) (a := D) (xs := acc)) (fun i σ H' => (∃ u, σ = [some (.ref p), some (.ref l), some (.ref q), some (.ref t), some (.ref o), some (.ref q'), some x, some (.ref W), some (.ref D), u, none]) ∧ LamX.ExtN H6 H' ∧ LamX.Tabs (TBS K) H') ⟨⟨_, rfl⟩, e7, t7⟩ (fun i σ H' _ h => SqL.of (h.2.1 _ _ hD6 (fun _ z => nomatch z))) (fun i v σ Ha Hb hi h Y => ?_) fun σ H8 h => h
      obtain ⟨⟨u, rfl⟩, e8, t8⟩ := h
      obtain ⟨rfl, he⟩ := Y
      obtain ⟨a, ys, es, rfl, ln, oe⟩ := bad v (List.mem_of_getElem? he)
      refine ⟨t8, fun H1 eN t1 E' Q' hE hQ => ?_⟩
      have e81 := e8.trans eN
      have ln1 := ln.kpn (.en e81)
      have kx := kxs e81
      have lx := ln1.dat.len
      have hp1 := hp6.en e81
      refine ⟨_, rfl, _, rfl, a, _, rfl, .inl ⟨SqL.of ln1.at_, fun c1 n1 => ?_⟩⟩
      have g1 := Gx.sameU n1 (o := .tup ys)
      obtain ⟨w1, w2, ep, _⟩ := hp1.same g1
      have hlx : H1 l = some (.lst xs) := kx _ _ nlp (fun _ z => nomatch z) hl
      have rx := datL_kd kx.kd r
      refine ⟨rfl, rfl, mk_ok (dx := .list ds) (dy := .tuple es) (.lst nlp (g1 _ _ hlx) (rx.kp (Gx.Kp.of g1))) (.tup (hp1.ne n1) upd_same (ln1.dat.kp (Gx.Kp.of g1))) ep (fun fs e => by cases e; have := ln1.le; omega) _ _ (fun q3 H3 fs s3 nq e c hq3 => ?_) fun z i H' d s3 c hd => ?_⟩
      · rw [prob_ord rfl pnl rfl oe] at c
        cases c
      · refine hE _ _ _ (told H' _ _ d z i rfl oe c (fun r H9 e9 h9 => ?_) hd)
        refine ⟨_, rfl, by show 2 ≤ sizeLine; decide, fun b2 n2 => ?_⟩
        have g2 := Gx.sameU n2 (o := .lst [.str "order", .int (-1)])
        refine ⟨.list [.str "order", .int (-1)], .list [.str "order", .int (-1)], .lst (SqL.of (g2 _ _ h9)) (.cons (.str _) (.cons (.int _) .nil)), .lst (SqL.of upd_same) (.cons (.str _) (.cons (.int _) .nil)), by decide +kernel, by decide +kernel, _, rfl, ?_⟩
        rw [eqv_ordne]
        have sX := g1.trans (s3.trans (e9.trans g2))
        exact iteF ⟨⟨_, rfl⟩, e81.trans (.of sX), t1.ext sX⟩
    obtain ⟨⟨u, rfl⟩, e8, t8⟩ := h8
    clear e7 t7
    have hp8 := hp6.en e8
    have k8 := kxs e8
    have ht8 : H8 t = some (.lst ((varsD ds).map V.str)) := k8 _ _ ntp (fun _ z => nomatch z) ht
    refine ⟨_, rfl, Nat.zero_le _, fun e ne => ?_⟩
    have g1 := Gx.sameU ne (o := .lst [])
    refine ⟨.list ((varsD ds).map .str), .list [], .lst (SqL.of (g1 _ _ ht8)) (dpStrs _), .lst (SqL.of upd_same) .nil, fwl.2, ft0.2, _, rfl, ?_⟩
    rw [eqv_emp]
    cases c0 : ((varsD ds).map PyData.str).isEmpty with
    | true => exact qq _ (hp8.same g1) (t8.ext g1) (k8.trans (.kp (Gx.Kp.of g1)))
    | false =>
      refine ⟨t8.ext g1, fun H1 eN t1 E' Q' hE hQ => ?_⟩
      have e81 := (LamX.ExtN.of g1).trans eN
      have kx := k8.trans (.en e81)
      have hp1 := hp8.en e81
      have ht1 : H1 t = some (.lst ((varsD ds).map V.str)) := kx _ _ ntp (fun _ z => nomatch z) ht
      have hl1 : H1 l = some (.lst xs) := kx _ _ nlp (fun _ z => nomatch z) hl
      have r1 := datL_kd kx.kd r
      refine ⟨_, rfl, _, rfl, t, _, rfl, .inl (SqL.of ht1), fun c1 n1 => ?_⟩
      have g2 := Gx.sameU n1 (o := .lst ((varsD ds).map V.str))
      obtain ⟨w1, w2, ep, _⟩ := hp1.same g2
      refine ⟨rfl, rfl, mk_ok (dx := .list ds) (dy := .list ((varsD ds).map .str)) (.lst nlp (g2 _ _ hl1) (r1.kp (Gx.Kp.of g2))) (.lst (hp1.ne n1) upd_same (datL_strs _ wok)) ep (fun fs e => nomatch e) _ _ (fun q3 H3 fs s3 nq e c hq3 => ?_) fun z i H' d s3 c hd => ?_⟩
      · rw [prob_ord rfl pnl rfl rfl] at c
        cases c
      · refine hE _ _ _ (told H' _ _ d z i rfl rfl c (fun r H9 e9 h9 => ?_) hd)
        refine ⟨_, rfl, by show 2 ≤ sizeLine; decide, fun b2 n2 => ?_⟩
        have g3 := Gx.sameU n2 (o := .lst [.str "order", .int (-1)])
        refine ⟨.list [.str "order", .int (-1)], .list [.str "order", .int (-1)], .lst (SqL.of (g3 _ _ h9)) (.cons (.str _) (.cons (.int _) .nil)), .lst (SqL.of upd_same) (.cons (.str _) (.cons (.int _) .nil)), by decide +kernel, by decide +kernel, ?_⟩
        rw [eqv_ordne]
        have sX := g2.trans (s3.trans (e9.trans g3))
        exact qq _ (hp1.same sX) (t1.ext sX) (kx.trans (.kp (Gx.Kp.of sX)))
end
end My
namespace My
open PySem PySem.Spec PyProof.Rows L2
/-! ### data of tuples alone -/
mutual
def flatD : PyData → Bool
  | .tuple ds => flatL ds
  | .list _ => false
  | .dict _ => false
  | .none => true
  | .bool _ => true
  | .int _ => true
  | .str _ => true
def flatL : List PyData → Bool
  | [] => true
  | d :: r => flatD d && flatL r
end
theorem flatL_iff : ∀ {ds : List PyData}, flatL ds = true ↔ ∀ d ∈ ds, flatD d = true
  | [] => by simp [flatL]
  | d :: r => by simp [flatL, flatL_iff (ds := r)]
theorem term_flat {d : PyData} (h : termD d = true) : flatD d = true := by
  cases d with
  | str z => rfl
  | int i => rfl
  | _ => cases h
theorem lit_flat {d : PyData} (h : litD d = true) : flatD d = true := by
  obtain ⟨k, b, o, rfl, hk, _, ht, h1, h2⟩ := lit_inv h
  have fk : flatD k = true := by
    cases k with
    | str z => rfl
    | _ => cases hk
  cases c : rowW k with
  | true =>
    obtain ⟨es, rfl, e⟩ := h1 c
    rw [e] at ht
    have fb : flatD b = true := by
      simp only [litD, c, if_true, Bool.and_eq_true] at h
      cases b with
      | str z => rfl
      | _ => cases h.1
    have fo : flatL es = true := flatL_iff.mpr fun x hx => term_flat (ht x hx)
    simp [flatD, flatL, fk, fb, fo]
  | false =>
    rw [h2 c] at ht
    simp [flatD, flatL, fk, term_flat (ht b (by simp)), term_flat (ht o (by simp))]
theorem strs_flat (l : List Str) : flatD (.tuple (l.map .str)) = true := by
  show flatL (l.map .str) = true
  refine flatL_iff.mpr fun x hx => ?_
  obtain ⟨z, _, rfl⟩ := List.mem_map.mp hx
  rfl
/-- all but lists is as it was -/
def Kt (H H' : Hp) : Prop := ∀ b o, (∀ xs, o ≠ HO.lst xs) → H b = some o → H' b = some o
theorem Kt.of {H H' : Hp} (s : Same H H') : Kt H H' := fun b o _ e => s b o e
theorem Kt.trans {H H1 H2 : Hp} (a : Kt H H1) (b : Kt H1 H2) : Kt H H2 := fun c o n e => b c o n (a c o n e)
theorem Kt.at {H : Hp} {b : Addr} {xs ys : List V} (h : H b = some (.lst xs)) : Kt H (L2.upd H b (.lst ys)) := fun c o n e => by
  by_cases z : c = b
  · rw [z, h] at e
    cases e
    exact absurd rfl (n xs)
  · rw [upd_ne z]
    exact e
section
variable {p : Addr} {H H' : Hp}
mutual
theorem dat_kt (k : Kt H H') : ∀ {v : V} {d : PyData}, Gx.Dat p H v d → flatD d = true → Gx.Dat p H' v d
  | _, _, .non, _ => .non
  | _, _, .bl b, _ => .bl b
  | _, _, .int i h, _ => .int i h
  | _, _, .str z h a, _ => .str z h a
  | _, _, .lst _ _ _, e => by cases e
  | _, _, .tup n h r, e => .tup n (k _ _ (fun _ z => by cases z) h) (datL_kt k r e)
  | _, _, .nil _ _, e => by cases e
  | _, _, .one _ _ _ _, e => by cases e
theorem datL_kt (k : Kt H H') : ∀ {vs : List V} {ds : List PyData}, Gx.DatL p H vs ds → flatL ds = true → Gx.DatL p H' vs ds
  | _, _, .nil, _ => .nil
  | _, _, .cons h r, e => by
    simp only [flatL, Bool.and_eq_true] at e
    exact .cons (dat_kt k h e.1) (datL_kt k r e.2)
end
end
mutual
theorem flat_nd : ∀ {d : PyData}, flatD d = true → d.hasDict = false
  | .none, _ => by simp [PyData.hasDict]
  | .bool _, _ => by simp [PyData.hasDict]
  | .int _, _ => by simp [PyData.hasDict]
  | .str _, _ => by simp [PyData.hasDict]
  | .tuple ds, h => by simpa only [PyData.hasDict] using flatL_nd (ds := ds) h
  | .list _, h => by cases h
  | .dict _, h => by cases h
theorem flatL_nd : ∀ {ds : List PyData}, flatL ds = true → PyData.hasDictAll ds = false
  | [], _ => by simp [PyData.hasDictAll]
  | d :: r, h => by
    simp only [flatL, Bool.and_eq_true] at h
    simp [PyData.hasDictAll, flat_nd h.1, flatL_nd h.2]
end
theorem QryAt.kt {mg : Str → Option Value} {p : Addr} {H H' : Hp} {q : Addr} {ds : List PyData} {dv : PyData} (h : QryAt mg p H q ds dv) (k : Kt H H') (f1 : flatL ds = true) (f2 : flatD dv = true) : QryAt mg p H' q ds dv := by
  obtain ⟨dx, l, v, xs, h1, h2, h3, h4, h5⟩ := h
  exact ⟨dx, l, v, xs, k _ _ (fun _ z => by cases z) h1, k _ _ (fun _ z => by cases z) h2, h3, datL_kt k h4 f1, dat_kt k h5 f2⟩

theorem addS_in {acc : List Str} {t : PyData} {z : Str} (h : z ∈ addS acc t) : z ∈ acc ∨ t = .str z := by
  cases t with
  | str y =>
    simp only [addS] at h
    split at h
    · exact .inl h
    · rcases List.mem_append.mp h with h | h
      · exact .inl h
      · rw [List.mem_singleton.mp h]
        exact .inr rfl
  | _ => exact .inl h
theorem foS_in : ∀ {ts : List PyData} {acc : List Str} {z : Str}, z ∈ foS acc ts → z ∈ acc ∨ PyData.str z ∈ ts
  | [], _, _, h => .inl h
  | t :: r, acc, z, h => by
    rcases foS_in (ts := r) (acc := addS acc t) h with h | h
    · rcases addS_in h with h | rfl
      · exact .inl h
      · exact .inr (by simp)
    · exact .inr (List.mem_cons_of_mem _ h)
theorem vars_in0 : ∀ {ds : List PyData} {acc : List Str} {z : Str}, z ∈ ds.foldl (fun acc d => foS acc (termsOf d)) acc → z ∈ acc ∨ ∃ d ∈ ds, PyData.str z ∈ termsOf d
  | [], _, _, h => .inl h
  | d :: r, acc, z, h => by
    rcases vars_in0 (ds := r) h with h | ⟨e, he, hz⟩
    · rcases foS_in h with h | h
      · exact .inl h
      · exact .inr ⟨d, by simp, h⟩
    · exact .inr ⟨e, List.mem_cons_of_mem _ he, hz⟩
theorem vars_in {ds : List PyData} {z : Str} (h : z ∈ varsD ds) : ∃ d ∈ ds, PyData.str z ∈ termsOf d := by
  rcases vars_in0 h with h | h
  · cases h
  · exact h
theorem nodup_len : ∀ {l zs : List Str}, l.Nodup → (∀ z ∈ l, z ∈ zs) → l.length ≤ zs.length
  | [], _, _, _ => Nat.zero_le _
  | z :: r, zs, nd, h => by
    have nd' := List.nodup_cons.mp nd
    have hz := h z (by simp)
    have := nodup_len (l := r) (zs := zs.erase z) nd'.2 fun y hy => (List.mem_erase_of_ne fun e => nd'.1 (by rw [← e]; exact hy)).mpr (h y (List.mem_cons_of_mem _ hy))
    rw [List.length_erase_of_mem hz] at this
    have := List.length_pos_of_mem hz
    rw [List.length_cons]
    omega
theorem neEq {x y : V} (e : x = y) {A B : Prop} (h : B) : if (!decide (x = y)) = true then A else B := by
  rw [decide_eq_true e]
  exact h
theorem Pot.qne {mg : Str → Option Value} {p q : Addr} {H : Hp} {ds : List PyData} {dv : PyData} (h : Pot p H) (hq : QryAt mg p H q ds dv) : q ≠ p := fun e => by
  obtain ⟨dx, lq, v, ys, h1, _⟩ := hq
  obtain ⟨a, b, e2, _⟩ := h
  rw [e, e2] at h1
  cases h1
section
variable {P : Program} {w : World} {K : PySem.W.Frag} {mg : Str → Option Value} {base : Heap}
def spRight (K : PySem.W.Frag) : Sp := fun vs H Q _ => ∃ (p : Addr), vs = [.ref p] ∧ LamX.Tabs (TBS K) H ∧ Pot p H ∧ ∀ H', Pot p H' → LamX.Tabs (TBS K) H' → KpN p H H' → Q (.bl true) H'
theorem p__law_right (T : Mo K mg) (hsys : Gx.SysD base) (B : Tb2 K mg base) : Gx.PrG P w K mg base CX0 20 "_law_right" s__law_right ["_law_pot_here"] (spRight K) := by
  refine T.d__law_right.okG sc__law_right (fun vs H Q E h => ?_) (fun f cdv A outer s H vs Q E hgd hr h => ?_)
  · obtain ⟨p, rfl, _⟩ := h
    rfl
  · obtain ⟨p, rfl, hT, hp, qq⟩ := h
    have hu64 := hr.units
    have p__law_orders_right := fun T' : Mo K mg => p__law_orders_right (P := P) (w := w) (base := base) T' B
    have p__law_others_right := fun T' : Mo K mg => p__law_others_right (P := P) (w := w) (base := base) T' hsys
    have p_Query___repr__ := fun T' : Mo K mg => p_Query___repr__ (P := P) (w := w) (base := base) T' hsys
    refine ⟨_, (pss_cons (ps_set (i := 1) sc__law_right.nd rfl (Or.inr rfl) (pe_lc (own := [("_law_at", 2)]) (g := gName 2) (tt := tYes) rfl sc__law_right.nd (pi_range1 (by rfl) T.b_range (pa_cons (Gx.pe_pos (p__law_take T) hr (by decide) (by rfl) b__law_take pass0 (pa_cons (pv 0) (pa_cons pe_int pa_nil))) pa_nil)) (blkOk_by (N := N__law_right) (sc := defScope s__law_right) (by decide +kernel)) (fun _ _ _ _ _ => (pg_name (i := 2) sc__law_right.nd rfl (Or.inl rfl))) (fun _ _ _ _ _ => pts_nil) (fun _ _ _ _ _ => (Gx.pe_pos (p__law_word T) hr (by decide) (by rfl) b__law_word pass0 (pa_cons (pv 0) (pa_cons (pe_ix ix_str pe_str (pv 2) (fun _ _ => rfl)) pa_nil))))))
      (Evl.pss_cut (ps_setLc (i := 3) (own := [("_law_at", 2)]) (g := gName 2) (tt := tYes) rfl sc__law_right.nd rfl rfl (sw_true rfl rfl rfl (by decide +kernel)) (pi_range1 (by rfl) T.b_range (pa_cons (pe_op op_add pe_int (Gx.pe_pos (p__law_take T) hr (by decide) (by rfl) b__law_take pass0 (pa_cons (pv 0) (pa_cons pe_int pa_nil)))) pa_nil)) (blkOk_by (N := N__law_right) (sc := defScope s__law_right) (by decide +kernel)) (fun _ _ _ _ _ => (pg_name (i := 2) sc__law_right.nd rfl (Or.inl rfl))) (fun _ _ _ _ _ => pts_nil) (fun _ _ _ _ _ => (Gx.pe_pos (p__law_literal T) hr (by decide) (by rfl) b__law_literal pass0 (pa_cons (pv 0) (pa_cons (pv 1) pa_nil)))))
      (pss_cons (ps_par (i := 4) (j := 5) rfl sc__law_right.nd rfl rfl (by decide) rfl rfl (pa_cons (Gx.pe_pos (p__law_first_order T) hr (by decide) (by rfl) b__law_first_order pass0 (pa_cons (pv 3) pa_nil)) (pa_cons (pe_callTy call_list_of (by rfl) T.b_list (by decide +kernel) (pa_cons (pv 3) pa_nil)) pa_nil)) (by rfl))
      (pss_cons (ps_set (i := 6) sc__law_right.nd rfl (Or.inr rfl) (Gx.pe_mkP (E := fun _ => E0) (p_Query___init__ T) T.mk_Query hr (by decide) (by rfl) (by simp) mb_Query_1 (fun _ pins H s e s' I z => passL pins _ H s e s' I z) (pa_cons (pv 5) pa_nil)))
      (pss_cons (ps_expr (pe_bm PySem.F.plainAttrs_list PySem.F.slot_list_append PySem.F.type_list_append mt_append (pv 5) (pa_cons (pe_tup (pa_cons pe_str (pa_cons pe_str (pa_cons (pe_tup (pa_cons pe_int pa_nil)) pa_nil)))) pa_nil)))
      (pss_cons (ps_expr (pe_bm PySem.F.plainAttrs_list PySem.F.slot_list_pop PySem.F.type_list_pop mt_popAt (pv 5) (pa_cons pe_int pa_nil)))
      (pss_cons (ps_set (i := 7) sc__law_right.nd rfl (Or.inl rfl) (Gx.pe_met0 (p_Query_literals T) T.m_Query_literals hr (by decide) bm_Query_literals pass0 (pv 6)))
      (pss_cons (ps_expr (pe_bm0 PySem.F.plainAttrs_list PySem.F.slot_list_clear PySem.F.type_list_clear mt_clear (pv 7)))
      (pss_cons (ps_if (PW.pt (pw_or (pt_cmpR (op_neD hu64) (Gx.pe_prq (p_Query_variables T) hr (by decide) (pv 6)) (pe_callTy call_tuple_of (by rfl) T.b_tuple (by decide +kernel) (pa_cons (pv 4) pa_nil)) (nomark _)) (pw_or (pt_cmpR (op_neD hu64) (Gx.pe_met0 (p_Query_literals T) T.m_Query_literals hr (by decide) bm_Query_literals pass0 (pv 6)) (pv 3) (nomark _)) (pw_or1 (pt_cmpR op_ne (pe_callB (Gx.call_lenM (p_Query___len__ T) T.m_Query___len__ bm_Query___len__ hr (by decide)) (by rfl) T.b_len (by decide +kernel) (pa_cons (pv 6) pa_nil)) (pe_callB call_len_seq (by rfl) T.b_len (by decide +kernel) (pa_cons (pv 3) pa_nil)) (nomark _)))))) (pss_one (ps_ret pe_bl)) pss_nil)
      (pss_cons (ps_if (pt_cmpR op_ne (pe_callB (Gx.call_reprMG (p_Query___repr__ T) T.m_Query___repr__ hgd bm_Query___repr__ hr (by decide)) (by rfl) T.b_repr (by decide +kernel) (pa_cons (pv 6) pa_nil)) (pe_op op_add_str (pe_op op_add_str (pe_op op_add_str (pe_op op_add_str pe_str (pe_callB (Gx.call_reprK (K := K) rfl hgd hu64) (by rfl) T.b_repr (show bootBuiltins "repr" = some (.builtin "repr") by decide +kernel) (pa_cons (pv 3) pa_nil))) pe_str) (pe_callB (Gx.call_reprK (K := K) rfl hgd hu64) (by rfl) T.b_repr (show bootBuiltins "repr" = some (.builtin "repr") by decide +kernel) (pa_cons (pe_callTy call_tuple_of (by rfl) T.b_tuple (by decide +kernel) (pa_cons (pv 4) pa_nil)) pa_nil))) pe_str) (nomark _)) (pss_one (ps_ret pe_bl)) pss_nil)
      (pss_cons (ps_set (i := 8) sc__law_right.nd rfl (Or.inl rfl) (pe_lst (pa_cons (Gx.pe_mkP (E := fun _ => E0) (p_Query___init__ T) T.mk_Query hr (by decide) (by rfl) (by simp) mb_Query_2 (fun _ pins H s e s' I z => passL pins _ H s e s' I z) (pa_cons (pv 3) (pa_cons pe_non pa_nil))) (pa_cons (Gx.pe_mkP (E := fun _ => E0) (p_Query___init__ T) T.mk_Query hr (by decide) (by rfl) (by simp) mb_Query_1 (fun _ pins H s e s' I z => passL pins _ H s e s' I z) (pa_cons (pe_callTy call_tuple_of (by rfl) T.b_tuple (by decide +kernel) (pa_cons (pv 3) pa_nil)) pa_nil)) (pa_cons (Gx.pe_mkP (E := fun _ => E0) (p_Query___init__ T) T.mk_Query hr (by decide) (by rfl) (by simp) mb_Query_2 (fun _ pins H s e s' I z => passL pins _ H s e s' I z) (pa_cons (pv 3) (pa_cons (pe_callTy call_tuple_of (by rfl) T.b_tuple (by decide +kernel) (pa_cons (pv 4) pa_nil)) pa_nil))) pa_nil)))))
      (pss_cons (ps_expr (pe_bm PySem.F.plainAttrs_list PySem.F.slot_list_append PySem.F.type_list_append mt_append (pv 8) (pa_cons (Gx.pe_mkK (E := fun _ => E0) (p_Query___init__ T) T.mk_Query hr (by decide) (by rfl) (by simp) mb_Query_0_order_literals (fun _ pins H s e s' I z => passL pins _ H s e s' I z) (pk_cons (pe_callTy call_tuple_of (by rfl) T.b_tuple (by decide +kernel) (pa_cons (pv 4) pa_nil)) (pk_cons (pv 3) pk_nil))) pa_nil)))
      (pss_cons (ps_if (pt_not (pt_val (pe_callB (cr_all rfl) (by rfl) T.b_all (by decide +kernel) (pa_cons (pe_lc (own := [("_law_one", 9)]) (g := gName 9) (tt := tYes) rfl sc__law_right.nd (pi_list (pv 8)) (blkOk_by (N := N__law_right) (sc := defScope s__law_right) (by decide +kernel)) (fun _ _ _ _ _ => (pg_name (i := 9) sc__law_right.nd rfl (Or.inl rfl))) (fun _ _ _ _ _ => pts_nil) (fun _ _ _ _ _ => (pe_and (pe_cmpR (Gx.op_eqMF (K := K) (mg := mg) (j := 19) rfl rfl (p_Query___eq__ T) T.m_Query___eq__ T.ne_Query bm_Query___eq__ hr (by decide)) (pv 9) (pv 6) (nomark _)) (pe_and (pe_cmpR (Gx.op_eqMF (K := K) (mg := mg) (j := 19) rfl rfl (p_Query___eq__ T) T.m_Query___eq__ T.ne_Query bm_Query___eq__ hr (by decide)) (pv 6) (pv 9) (nomark _)) (pe_one (pe_not (pe_cmpR (Gx.op_neMF (K := K) (mg := mg) (j := 19) rfl rfl (p_Query___eq__ T) T.m_Query___eq__ T.ne_Query bm_Query___eq__ hr (by decide)) (pv 9) (pv 6) (nomark _)))))))) pa_nil)))) (pss_one (ps_ret pe_bl)) pss_nil)
      (pss_one (ps_ret (pe_and (Gx.pe_posG hgd (p__law_orders_right T) hr (by decide) (by rfl) b__law_orders_right pass0 (pa_cons (pv 0) (pa_cons (pv 3) (pa_cons (pv 6) (pa_cons (pv 4) pa_nil))))) (pe_one (Gx.pe_posG hgd (p__law_others_right T) hr (by decide) (by rfl) b__law_others_right pass0 (pa_cons (pv 0) (pa_cons (pv 3) (pa_cons (pv 6) (pa_cons (pv 4) pa_nil)))))))))))))))))))))), ?_⟩
    refine ⟨_, rfl, p, _, rfl, hp, by decide, by decide, fun r H1 r0 r1 hp1 k1 => ⟨r, rfl, by omega, by omega, fun D hD => ?_⟩⟩
    obtain ⟨m, rfl⟩ : ∃ m : Nat, r = (m : Int) := ⟨r.toNat, by omega⟩
    rw [Int.toNat_natCast]
    have nDp := hp1.ne hD
    refine lc_range (lo := 0) (n := m) (fun i H' => Pot p H' ∧ Gx.Kp p H1 H' ∧ ∃ zs : List Str, zs.length = i ∧ (∀ z ∈ zs, nameZ z = true) ∧ H' D = some (.lst (zs.map V.str)))
      ⟨hp1.same (Gx.sameU hD), Gx.Kp.of (Gx.sameU hD), [], rfl, (fun _ h => nomatch h), upd_same⟩ (fun i H4 hi h => ?_) fun H2 h => ?_
    · obtain ⟨R4, k4, l, hl, hs, hd⟩ := h
      have at_ : (("pqrst" : String) : Str).cps.toList[i]? = some (112 + i) := (by decide +kernel : ∀ i, i < 5 → (("pqrst" : String) : Str).cps.toList[i]? = some (112 + i)) i (by omega)
      have lw : isLw (112 + i) = true := by
        simp only [isLw, Bool.and_eq_true, decide_eq_true_eq]
        omega
      refine ⟨rfl, _, rfl, _, rfl, "pqrst", _, 112 + i, rfl, rfl, by decide +kernel, (by rw [Int.zero_add]; exact atI_nat at_), p, 112 + i, rfl, R4, lw, by omega, by omega, fun y H5 hy R5 k5 => ⟨_, k5 _ _ nDp hd, ?_, ?_, ?_, l ++ [y], ?_, ?_, ?_⟩⟩
      · rw [List.length_map, hl]
        exact Nat.lt_of_le_of_lt (show i ≤ 12 by omega) (by decide)
      · obtain ⟨a, b, e, o⟩ := R5
        exact ⟨a, b, by rw [upd_ne nDp.symm]; exact e, o⟩
      · intro b o nb e
        rw [upd_ne (ne_of_none e hD)]
        exact (k4.trans k5) b o nb e
      · rw [List.length_append, hl]
        rfl
      · intro z hz
        rcases List.mem_append.mp hz with h | h
        · exact hs z h
        · rw [List.mem_singleton.mp h]
          exact hy
      · rw [upd_same, List.map_append]
        rfl
    obtain ⟨hp2, k2, zs, zl, zn, hD2⟩ := h
    have kk2 := k1.trans k2
    refine ⟨fun σ' H' => ∃ (l : List V) (ds : List PyData) (D' : Addr), σ' = [some (.ref p), some (.ref D), none, some (.ref D'), none, none, none, none, none, none] ∧ Pot p H' ∧ Gx.Kp p H H' ∧ D' ≠ p ∧ H' D' = some (.lst l) ∧ Gx.DatL p H' l ds ∧ 1 ≤ ds.length ∧ ds.length ≤ 7 ∧ (∀ d ∈ ds, litD d = true) ∧ (varsD ds).length ≤ 5, ?_, fun σ' H3 h3 => ?_⟩
    · refine ⟨_, rfl, p, _, rfl, hp2, by decide, by decide, fun r H3 r0' r1' hp3 k3 => ⟨_, _, rfl, rfl, 1 + r, rfl, by omega, by omega, fun D' hD' => ?_⟩⟩
      obtain ⟨n, rfl⟩ : ∃ n : Nat, r = (n : Int) := ⟨r.toNat, by omega⟩
      rw [show (1 + (n : Int)).toNat = n + 1 by omega]
      have nDp' := hp3.ne hD'
      have hD3 := k3 _ _ nDp hD2
      refine lc_range (lo := 0) (n := n + 1) (fun i H' => Pot p H' ∧ Gx.Kp p H3 H' ∧ ∃ (l : List V) (ds : List PyData), Gx.DatL p H' l ds ∧ l.length = i ∧ (∀ d ∈ ds, litD d = true) ∧ (∀ d ∈ ds, ∀ z, PyData.str z ∈ termsOf d → z ∈ zs) ∧ H' D' = some (.lst l))
        ⟨hp3.same (Gx.sameU hD'), Gx.Kp.of (Gx.sameU hD'), [], [], .nil, rfl, (fun _ h => nomatch h), (fun _ h => nomatch h), upd_same⟩ (fun i H4 hi h => ?_) fun H4 h => ?_
      · obtain ⟨R4, k4, l, ds, dl, hl, hs, ht, hd⟩ := h
        refine ⟨rfl, _, rfl, _, rfl, p, D, zs, rfl, R4, ⟨nDp, k4 _ _ nDp hD3, by omega, zn⟩, fun t d H5 tp td tl tt R5 k5 => ⟨_, k5 _ _ nDp' hd, ?_, ?_, ?_, l ++ [.ref t], ds ++ [d], ?_, ?_, ?_, ?_, upd_same⟩⟩
        · rw [hl]
          exact Nat.lt_of_le_of_lt (show i ≤ 12 by omega) (by decide)
        · obtain ⟨a, b, e, o⟩ := R5
          exact ⟨a, b, by rw [upd_ne nDp'.symm]; exact e, o⟩
        · intro b o nb e
          rw [upd_ne (ne_of_none e hD')]
          exact (k4.trans k5) b o nb e
        · refine datL_kt (Kt.at (k5 _ _ nDp' hd)) ((dl.kp k5).snoc td) (flatL_iff.mpr fun x hx => ?_)
          rcases List.mem_append.mp hx with h | h
          · exact lit_flat (hs x h)
          · rw [List.mem_singleton.mp h]
            exact lit_flat tl
        · rw [List.length_append, hl]
          rfl
        · intro x hx
          rcases List.mem_append.mp hx with h | h
          · exact hs x h
          · rw [List.mem_singleton.mp h]
            exact tl
        · intro x hx z hz
          rcases List.mem_append.mp hx with h | h
          · exact ht x h z hz
          · rw [List.mem_singleton.mp h] at hz
            exact tt z hz
      · obtain ⟨hp4, k4, xs, ds, dl, xl, good, tin, hP⟩ := h
        have dsl := dl.len
        have vz : ∀ z ∈ varsD ds, z ∈ zs := fun z hz => let ⟨d, hd, h⟩ := vars_in hz; tin d hd z h
        have vl : (varsD ds).length ≤ 5 := Nat.le_trans (nodup_len (vars_nodup ds) vz) (by omega)
        exact ⟨xs, ds, D', rfl, hp4, (kk2.trans k3).trans k4, nDp', hP, dl, by omega, by omega, good, vl⟩
    obtain ⟨xs, ds, l, rfl, hp3, k3, nlp, hl, dl, l1, l7, good, v5⟩ := h3
    have hT3 := tabs_kp hT hp.lst k3
    clear hp1 k1 hD hp2 k2 kk2 hD2 zn zl r0 r1
    -- the query; what was passed and told is changed
    have fl : flatL ds = true := flatL_iff.mpr fun x hx => lit_flat (good x hx)
    have pnl : probD (.list ds) .none = none := prob_goodN (ds := ds) rfl l1 (by omega) good v5
    have wok := vars_ok good
    refine ⟨_, rfl, p, l, xs, ds, rfl, hl, dl, by omega, good, fun t H4 s4 nt hv => ⟨_, rfl, l, xs, rfl, .inl (SqL.of (s4 _ _ hl)), fun b nb => ⟨_, _, rfl, ?_⟩⟩⟩
    have hp4 := hp3.same s4
    have s5 := Gx.sameU nb (o := .lst xs)
    have nbp := hp4.ne nb
    have s35 := s4.trans s5
    obtain ⟨w1, w2, ep, _⟩ := hp3.same s35
    refine ⟨_, rfl, rfl, rfl, mk_ok (dx := .list ds) (dy := .none) (.lst nbp upd_same (dl.kp (Gx.Kp.of s35))) .non ep (fun fs e => nomatch e) _ _ (fun q H6 fs s6 nq e c hq => ?_) fun z i H' d s c hd => ?_⟩
    rotate_left
    · rw [pnl] at c
      cases c
    obtain rfl : ds = fs := Option.some.inj e
    have hq : QryAt mg p H6 q ds (.tuple ((varsD ds).map .str)) := hq
    have hb6 := s6 _ _ (upd_same (H := H4) (a := b) (o := .lst xs))
    have s36 := s35.trans s6
    -- append
    refine ⟨_, rfl, .inl ⟨rfl, _, SqL.of hb6⟩, by show 1 ≤ sizeLine; decide, fun t1 n1 => ⟨by show 3 ≤ sizeLine; decide, fun t2 n2 => ?_⟩⟩
    have s7 := (Gx.sameU n1 (o := .tup [.int 3])).trans (Gx.sameU n2 (o := .tup [.str "row", .str "late", .ref t1]))
    have lx := dl.len
    refine ⟨b, xs, _, rfl, rfl, s7 _ _ hb6, Nat.lt_of_le_of_lt (show xs.length ≤ 7 by omega) (by decide), ?_⟩
    -- pop
    have e8 := upd_same (H := L2.upd (L2.upd H6 t1 (.tup [.int 3])) t2 (.tup [.str "row", .str "late", .ref t1])) (a := b) (o := .lst (xs ++ [.ref t2]))
    obtain ⟨x0, xr, exs⟩ : ∃ x0 xr, xs ++ [V.ref t2] = x0 :: xr := by
      cases xs with
      | nil => exact ⟨_, _, rfl⟩
      | cons a r => exact ⟨_, _, rfl⟩
    refine ⟨_, rfl, .inl ⟨rfl, _, SqL.of e8⟩, b, _, 0, 0, x0, rfl, rfl, e8, by decide, by decide, by rw [exs]; simp [seqIndex?], by rw [exs]; rfl, ?_⟩
    have e9 := upd_same (H := L2.upd (L2.upd (L2.upd H6 t1 (.tup [.int 3])) t2 (.tup [.str "row", .str "late", .ref t1])) b (.lst (xs ++ [.ref t2]))) (a := b) (o := .lst ((xs ++ [V.ref t2]).eraseIdx 0))
    have k9 : Kt H6 (L2.upd (L2.upd (L2.upd (L2.upd H6 t1 (.tup [.int 3])) t2 (.tup [.str "row", .str "late", .ref t1])) b (.lst (xs ++ [.ref t2]))) b (.lst ((xs ++ [V.ref t2]).eraseIdx 0))) := ((Kt.of s7).trans (Kt.at (s7 _ _ hb6))).trans (Kt.at e8)
    have kp9 : Gx.Kp b H6 (L2.upd (L2.upd (L2.upd (L2.upd H6 t1 (.tup [.int 3])) t2 (.tup [.str "row", .str "late", .ref t1])) b (.lst (xs ++ [.ref t2]))) b (.lst ((xs ++ [V.ref t2]).eraseIdx 0))) := ((Gx.Kp.of s7).trans Gx.Kp.at).trans Gx.Kp.at
    generalize L2.upd (L2.upd (L2.upd (L2.upd H6 t1 (.tup [.int 3])) t2 (.tup [.str "row", .str "late", .ref t1])) b (.lst (xs ++ [.ref t2]))) b (.lst ((xs ++ [V.ref t2]).eraseIdx 0)) = H9 at k9 kp9 e9 ⊢
    have hq9 := hq.kt k9 fl (strs_flat _)
    obtain ⟨x9, y9, v9, z9, i9, _⟩ := id hq9
    refine ⟨_, rfl, q, _, _, rfl, i9, rfl, p, q, ds, _, rfl, hq9, fun l2 ys hy nl => ?_⟩
    refine ⟨_, rfl, .inl ⟨rfl, _, SqL.of upd_same⟩, l2, _, rfl, rfl, upd_same, ?_⟩
    have sC := Gx.sameU nl (o := .lst ys)
    have k39 : ∀ c o, H3 c = some o → L2.upd (L2.upd H9 l2 (.lst ys)) l2 (.lst []) c = some o := fun c o e => by
      have e6 := s36 c o e
      have e9' := kp9 c o (fun z => by
        have := s4 c o e
        rw [z, nb] at this
        cases this) e6
      rw [upd_ne (ne_of_none e9' nl)]
      exact sC c o e9'
    have ht4 : L2.upd (L2.upd H9 l2 (.lst ys)) l2 (.lst []) t = some (.lst ((varsD ds).map V.str)) := by
      have e4 := (s5.trans s6) _ _ hv
      have e9t := kp9 t _ (fun z => by
        rw [z, nb] at hv
        cases hv) e4
      rw [upd_ne (ne_of_none e9t nl)]
      exact sC _ _ e9t
    have hqC := (hq9.same sC).kt (Kt.at (ys := []) upd_same) fl (strs_flat _)
    generalize L2.upd (L2.upd H9 l2 (.lst ys)) l2 (.lst []) = H4' at k39 ht4 hqC ⊢
    have hp4 := hp3.same k39
    have k4 := k3.trans (Gx.Kp.of k39)
    have hl4 := k39 _ _ hl
    have dl4 := dl.kp (Gx.Kp.of k39)
    have ntp := hp3.ne nt
    have hT4 := tabs_kp hT hp.lst k4
    clear k39 sC e9 hq9 i9 kp9 k9 e8 hb6 s7 n1 n2 hy nl hq s36 s6 c ep s35 s5 nb nt hv s4 hp3 k3 hl dl hT3 exs
    have pdl : Pu 1700 3 (.list ds) := .lst (fun x hx => pu_lit (good x hx)) (by omega) (by decide)
    have pdt : Pu 1700 3 (.tuple ds) := .tup (fun x hx => pu_lit (good x hx)) (by omega) (by decide)
    have pvs : Pu 600 1 (.tuple ((varsD ds).map .str)) := .tup (pu_oks wok) (by rw [List.length_map]; omega) (by decide)
    have fds := pdt.fit (by decide)
    have fdl := pdl.fit (by decide)
    have fvs := pvs.fit (by decide)
    have shl := pdl.shp (by decide) (by decide)
    have shv := pvs.shp (by decide) (by decide)
    have ndl : PyData.hasDictAll ds = false := by simpa only [PyData.hasDict] using fdl.1
    have pnt : probD (.tuple ds) .none = none := prob_goodN (ds := ds) rfl l1 (by omega) good v5
    have orw : orderD (.tuple ((varsD ds).map .str)) (varsD ds) = true := order_self ds
    have pgl : probD (.list ds) (.tuple ((varsD ds).map .str)) = none := prob_good (ds := ds) rfl l1 (by omega) good v5 orw
    obtain ⟨x4, y4, v4, z4, i4, _⟩ := id hqC
    -- the query told
    refine ⟨_, rfl, q, _, _, rfl, i4, p, q, ds, _, rfl, hqC, fun v hv => ?_⟩
    refine ⟨_, rfl, t, _, rfl, .inl ⟨SqL.of ht4, fun a1 n1 => ?_⟩⟩
    have g1 := Gx.sameU n1 (o := .tup ((varsD ds).map V.str))
    refine ⟨.tuple ((varsD ds).map .str), .tuple ((varsD ds).map .str), (hv.kp (Gx.Kp.of g1)).dp fvs.1, .tup (SqT.of upd_same) (dpStrs _), fvs.2, fvs.2, _, rfl, ?_⟩
    rw [eqv_self fvs]
    refine iteF ?_
    refine ⟨_, rfl, q, _, _, rfl, g1 _ _ i4, rfl, p, q, ds, _, rfl, hqC.same g1, fun l3 ys3 hy nl3 => ?_⟩
    have g2 := g1.trans (Gx.sameU nl3 (o := .lst ys3))
    refine ⟨_, rfl, .list ds, .list ds, .lst (SqL.of upd_same) ((hy.kp (Gx.Kp.of (Gx.sameU nl3))).dp ndl), .lst (SqL.of (g2 _ _ hl4)) ((dl4.kp (Gx.Kp.of g2)).dp ndl), fdl.2, fdl.2, _, rfl, ?_⟩
    rw [eqv_self fdl]
    refine iteF ?_
    refine ⟨_, rfl, q, _, _, rfl, g2 _ _ i4, p, q, ds, _, rfl, hqC.same g2, _, rfl, by show _ ≤ 16777216; omega, ?_⟩
    refine ⟨_, rfl, l, xs, rfl, .inl (SqL.of (g2 _ _ hl4)), rfl, _, rfl, ?_⟩
    refine neEq (by rw [dl4.len]) ?_
    refine ⟨_, rfl, q, _, _, rfl, g2 _ _ i4, p, q, ds, _, rfl, hqC.same g2, shl, shv, fun H5 s5 => ?_⟩
    have g3 := g2.trans s5
    have g0 : (Str.ofString "Query(").length ≤ 6 := Nat.le_refl _
    have e1 := jl g0 shl.2.2
    have e2 := jl e1 (show (Str.ofString ", ").length ≤ 2 from Nat.le_refl _)
    have e3 := jl e2 shv.2.2
    have ad : ∀ {m n k l : Nat}, m ≤ k → n ≤ l → k + l ≤ 3000000 → m + n ≤ sizeLine := fun h1 h2 h3 => Nat.le_trans (Nat.le_trans (Nat.add_le_add h1 h2) h3) (by decide)
    refine ⟨_, rfl, _, rfl, .ref l, .list ds, rfl, .lst (SqL.of (g3 _ _ hl4)) (datL_dq (dl4.kp (Gx.Kp.of g3)) ndl), shl.1, (fun z => by rw [fdl.1] at z; cases z), shl.2.1, Nat.le_trans shl.2.2 (by decide), _, _, rfl, rfl, ad g0 shl.2.2 (by decide), _, _, rfl, rfl, ad e1 (Nat.le_refl 2) (by decide), ?_⟩
    refine ⟨_, rfl, t, _, rfl, .inl ⟨SqL.of (g3 _ _ ht4), fun a5 n5 => ?_⟩⟩
    have g4 := g3.trans (Gx.sameU n5 (o := .tup ((varsD ds).map V.str)))
    refine ⟨.ref a5, .tuple ((varsD ds).map .str), rfl, .tup (SqT.of upd_same) (datL_dq (datL_strs (p := p) _ wok) (by simpa only [PyData.hasDict] using fvs.1)), shv.1, (fun z => by rw [fvs.1] at z; cases z), shv.2.1, Nat.le_trans shv.2.2 (by decide), _, _, rfl, rfl, ad e2 shv.2.2 (by decide), _, _, rfl, rfl, ad e3 (Nat.le_refl 1) (by decide), rfl, _, rfl, ?_⟩
    refine neEq rfl ?_
    -- four like it
    have hp5 := hp4.same g4
    have hl5 := g4 _ _ hl4
    have dl5 := dl4.kp (Gx.Kp.of g4)
    have ht5 := g4 _ _ ht4
    have hq5 := hqC.same g4
    have k5 := k4.trans (Gx.Kp.of g4)
    clear g1 g2 s5 g3 hy nl3 n1 hv i4
    generalize L2.upd H5 a5 (.tup ((varsD ds).map V.str)) = H6 at g4 hp5 hl5 dl5 ht5 hq5 k5 ⊢
    clear g4 n5 hp4 k4 hl4 dl4 ht4 hqC
    obtain ⟨w1, w2, ep6, _⟩ := id hp5
    refine ⟨_, rfl, rfl, rfl, mk_ok (dx := .list ds) (dy := .none) (.lst nlp hl5 dl5) .non ep6 (fun fs e => nomatch e) _ _ (fun q1 H7 fs s7 n1 e c hq1 => ?_) fun z i H' d s c hd => by rw [pnl] at c; cases c⟩
    obtain rfl : ds = fs := Option.some.inj e
    have hq1 : QryAt mg p H7 q1 ds (.tuple ((varsD ds).map .str)) := hq1
    refine ⟨_, rfl, l, _, rfl, .inl ⟨SqL.of (s7 _ _ hl5), fun a2 m2 => ?_⟩⟩
    have s8 := s7.trans (Gx.sameU m2 (o := .tup xs))
    obtain ⟨w1, w2, ep8, _⟩ := hp5.same s8
    refine ⟨rfl, rfl, mk_ok (dx := .tuple ds) (dy := .none) (.tup ((hp5.same s7).ne m2) upd_same (dl5.kp (Gx.Kp.of s8))) .non ep8 (fun fs e => nomatch e) _ _ (fun q2 H9 fs s9 n2 e2 c2 hq2 => ?_) fun z i H' d s c hd => by rw [pnt] at c; cases c⟩
    obtain rfl : ds = fs := Option.some.inj e2
    have hq2 : QryAt mg p H9 q2 ds (.tuple ((varsD ds).map .str)) := hq2
    have s10 := s8.trans s9
    refine ⟨_, rfl, _, rfl, t, _, rfl, .inl ⟨SqL.of (s10 _ _ ht5), fun a3 m3 => ?_⟩⟩
    have s11 := s10.trans (Gx.sameU m3 (o := .tup ((varsD ds).map V.str)))
    obtain ⟨w1, w2, ep11, _⟩ := hp5.same s11
    refine ⟨rfl, rfl, mk_ok (dx := .list ds) (dy := .tuple ((varsD ds).map .str)) (.lst nlp (s11 _ _ hl5) (dl5.kp (Gx.Kp.of s11))) (.tup ((hp5.same s10).ne m3) upd_same (datL_strs _ wok)) ep11 (fun fs e => by cases e; rw [List.length_map]; omega) _ _ (fun q3 H12 fs s12 n3 e3 c3 hq3 => ?_) fun z i H' d s c hd => by rw [pgl] at c; cases c⟩
    obtain rfl : ds = fs := Option.some.inj e3
    have hq3 : QryAt mg p H12 q3 ds (.tuple ((varsD ds).map .str)) := hq3
    have s13 := s11.trans s12
    refine ⟨by show 3 ≤ sizeLine; decide, fun a8 m8 => ?_⟩
    have s14 := s13.trans (Gx.sameU m8 (o := .lst [.ref q1, .ref q2, .ref q3]))
    refine ⟨_, rfl, .inl ⟨rfl, _, SqL.of upd_same⟩, ?_⟩
    refine ⟨_, rfl, t, _, rfl, .inl ⟨SqL.of (s14 _ _ ht5), fun a4 m4 => ?_⟩⟩
    have s15 := s14.trans (Gx.sameU m4 (o := .tup ((varsD ds).map V.str)))
    obtain ⟨w1, w2, ep15, _⟩ := hp5.same s15
    refine ⟨_, rfl, rfl, rfl, mk_ok (dx := .list ds) (dy := .tuple ((varsD ds).map .str)) (.lst nlp (s15 _ _ hl5) (dl5.kp (Gx.Kp.of s15))) (.tup ((hp5.same s14).ne m4) upd_same (datL_strs _ wok)) ep15 (fun fs e => by cases e; rw [List.length_map]; omega) _ _ (fun q4 H16 fs s16 n4 e4 c4 hq4 => ?_) fun z i H' d s c hd => by rw [pgl] at c; cases c⟩
    obtain rfl : ds = fs := Option.some.inj e4
    have hq4 : QryAt mg p H16 q4 ds (.tuple ((varsD ds).map .str)) := hq4
    have s17 := s15.trans s16
    have h8 : H16 a8 = some (.lst [.ref q1, .ref q2, .ref q3]) := s16 _ _ ((Gx.sameU m4) _ _ upd_same)
    refine ⟨a8, _, _, rfl, rfl, h8, by show 3 < sizeLine; decide, ?_⟩
    have u4 : Same (L2.upd H12 a8 (.lst [.ref q1, .ref q2, .ref q3])) H16 := (Gx.sameU m4).trans s16
    have u3 : Same H12 H16 := (Gx.sameU m8).trans u4
    have u2 : Same H9 H16 := (Gx.sameU m3).trans (s12.trans u3)
    have u1 : Same H7 H16 := (Gx.sameU m2).trans (s9.trans u2)
    have h8' := upd_same (H := H16) (a := a8) (o := .lst [.ref q1, .ref q2, .ref q3, .ref q4])
    have kt : Kt H16 (L2.upd H16 a8 (.lst [.ref q1, .ref q2, .ref q3, .ref q4])) := Kt.at h8
    have kx : ∀ c o, H6 c = some o → L2.upd H16 a8 (.lst [.ref q1, .ref q2, .ref q3, .ref q4]) c = some o := fun c o e => by
      rw [upd_ne (ne_of_none (s13 c o e) m8)]
      exact s17 c o e
    have fl2 := strs_flat (varsD ds)
    have all4 : ∀ v ∈ ([.ref q1, .ref q2, .ref q3, .ref q4] : List V), ∃ q', v = .ref q' ∧ QryAt mg p (L2.upd H16 a8 (.lst [.ref q1, .ref q2, .ref q3, .ref q4])) q' ds (.tuple ((varsD ds).map .str)) := fun v hv => by
      simp only [List.mem_cons, List.not_mem_nil, or_false] at hv
      rcases hv with rfl | rfl | rfl | rfl
      · exact ⟨_, rfl, (hq1.same u1).kt kt fl fl2⟩
      · exact ⟨_, rfl, (hq2.same u2).kt kt fl fl2⟩
      · exact ⟨_, rfl, (hq3.same u3).kt kt fl fl2⟩
      · exact ⟨_, rfl, hq4.kt kt fl fl2⟩
    have l4 : ([.ref q1, .ref q2, .ref q3, .ref q4] : List V).length = 4 := rfl
    rw [show ([.ref q1, .ref q2, .ref q3] : List V) ++ [.ref q4] = [.ref q1, .ref q2, .ref q3, .ref q4] from rfl]
    generalize L2.upd H16 a8 (.lst [.ref q1, .ref q2, .ref q3, .ref q4]) = H18 at h8' kx all4 ⊢
    generalize ([.ref q1, .ref q2, .ref q3, .ref q4] : List V) = items at h8' all4 l4
    have hq18 := hq5.same kx
    have hp18 := hp5.same kx
    have ht18 := kx _ _ ht5
    have hl18 := kx _ _ hl5
    have dl18 := dl5.kp (Gx.Kp.of kx)
    have k18 := k5.trans (Gx.Kp.of kx)
    obtain ⟨x5, y5, v5', z5, i5, _⟩ := id hq18
    clear kx kt h8 s17 u1 u2 u3 u4 hq1 hq2 hq3 hq4 s16 s15 s14 s13 s12 s11 s10 s9 s8 s7 m2 m3 m4 m8 ep6 ep8 ep11 ep15
    refine ⟨_, rfl, a8, rfl, ⟨_, SqL.of h8'⟩, fun D2 hD2 => ?_⟩
    refine lc_it (walk_list (K := K) (a := a8) (xs := items)) (fun i H' => Same H18 H' ∧ H' D2 = some (.lst ((List.replicate i true).map V.bl))) ⟨Gx.sameU hD2, upd_same⟩ (fun i H' _ h' => .inl (.inl (h'.1 _ _ h8'))) (fun i v Ha Hc hi h' Y => ?_) fun H19 h' => ?_
    · obtain ⟨s19, d19⟩ := h'
      obtain ⟨rfl, he⟩ := Y
      obtain ⟨q', rfl, hq'⟩ := all4 v (List.mem_of_getElem? he)
      have hqA := hq'.same s19
      have hqB := hq18.same s19
      obtain ⟨x6, y6, v6, z6, i6, _⟩ := id hqA
      have i5' := s19 _ _ i5
      refine ⟨rfl, _, rfl, _, rfl, q', _, _, _, rfl, i6, .ins i5', Gx.first_self, p, q', _, ds, _, rfl, hqA, .inl ⟨q, ds, _, rfl, hqB, fds, fds, fvs, fvs, ?_⟩⟩
      rw [eqv_self fds, eqv_self fvs]
      refine ⟨_, rfl, _, rfl, iteT ?_⟩
      refine ⟨_, rfl, _, rfl, q, _, _, _, rfl, i5', .ins i6, Gx.first_self, p, q, _, ds, _, rfl, hqB, .inl ⟨q', ds, _, rfl, hqA, fds, fds, fvs, fvs, ?_⟩⟩
      rw [eqv_self fds, eqv_self fvs]
      refine ⟨_, rfl, _, rfl, iteT ?_⟩
      refine ⟨_, rfl, _, rfl, q', _, _, _, rfl, i6, .ins i5', Gx.first_self, p, q', _, ds, _, rfl, hqA, .inl ⟨q, ds, _, rfl, hqB, fds, fds, fvs, fvs, ?_⟩⟩
      rw [eqv_self fds, eqv_self fvs]
      refine ⟨_, rfl, _, rfl, _, d19, ?_, fun b u e => ?_, ?_⟩
      · rw [List.length_map, List.length_replicate]
        exact Nat.lt_of_le_of_lt (show i ≤ 4 by omega) (by decide)
      · rw [upd_ne (ne_of_none e hD2)]
        exact s19 b u e
      · rw [upd_same, List.replicate_succ', List.map_append]
        rfl
    obtain ⟨s19, d19⟩ := h'
    refine ⟨D2, List.replicate items.length true, rfl, SqL.of d19, ?_⟩
    rw [show (List.replicate items.length true).all id = true by simp]
    refine ⟨_, rfl, iteF ?_⟩
    have hT19 := (tabs_kp hT hp.lst k18).ext s19
    refine ⟨_, rfl, _, rfl, _, rfl, _, rfl, p, l, q, t, xs, ds, rfl, hT19, hp18.same s19, nlp, ntp, s19 _ _ hl18, dl18.kp (Gx.Kp.of s19), hq18.same s19, s19 _ _ ht18, l1, l7, good, v5, fun H20 hp20 hT20 k20 => ⟨_, rfl, iteT ?_⟩⟩
    have kA : KpN p H H20 := ((KpN.kp k18).trans (.kp (Gx.Kp.of s19))).trans k20
    refine ⟨_, rfl, _, rfl, _, rfl, _, rfl, p, l, q, t, xs, ds, rfl, hp20, nlp, ntp, k20 _ _ nlp (fun _ z => nomatch z) (s19 _ _ hl18), datL_kd k20.kd (dl18.kp (Gx.Kp.of s19)), (hq18.same s19).kpn (hp18.qne hq18) k20, k20 _ _ ntp (fun _ z => nomatch z) (s19 _ _ ht18), l1, l7, good, v5, fun H21 hp21 k21 => ?_⟩
    exact qq _ hp21 (tabs_kp hT20 hp20.lst k21) (kA.trans (.kp k21))
end
end My
namespace My
open PySem PySem.Spec PyProof.Rows L2
theorem seq_en {K : PySem.W.Frag} {H H' : Hp} {a : Addr} {xs : List V} (h : SqL K H a xs) (e : LamX.ExtN H H') : SqL K H' a xs := by
  rcases h with (h | ⟨o, h⟩) | h
  · exact .inl (.inl (e _ _ h (fun _ z => nomatch z)))
  · exact .inl (.inr ⟨o, e _ _ h (fun _ z => nomatch z)⟩)
  · exact .inr h
section
variable {P : Program} {w : World} {K : PySem.W.Frag} {mg : Str → Option Value} {base : Heap}
def spLaw (K : PySem.W.Frag) : Sp := fun vs H Q _ => ∃ (a : Addr) (ns : List Int), vs = [.ref a] ∧ SqL K H a (ns.map V.int) ∧ ns.length ≤ 63 ∧ LamX.Tabs (TBS K) H ∧ ∀ H', Q (.bl true) H'
theorem p_law (T : Mo K mg) (hsys : Gx.SysD base) (B : Tb2 K mg base) : Gx.PrG P w K mg base CX0 21 "law" s_law ["_law_script"] (spLaw K) := by
  refine T.d_law.okG sc_law (fun vs H Q E h => ?_) (fun f cdv A outer s H vs Q E hgd hr h => ?_)
  · obtain ⟨a, ns, rfl, _⟩ := h
    rfl
  · obtain ⟨a, ns, rfl, hS, hl, hT, q⟩ := h
    have hu64 := hr.units
    have p__law_right := fun T' : Mo K mg => p__law_right (P := P) (w := w) (base := base) T' hsys B
    refine ⟨_, (pss_cons (ps_if (pt_cmpR (op_neD hu64) (pe_lst (pa_cons (Gx.pe_cint T.k_Query_MAX_LITERALS rfl) (pa_cons (Gx.pe_cint T.k_Query_MAX_VARIABLES rfl) (pa_cons (Gx.pe_cint T.k_Query_MAX_INTEGER rfl) pa_nil)))) (pe_lst (pa_cons pe_int (pa_cons pe_int (pa_cons pe_int pa_nil)))) (nomark _)) (pss_one (ps_ret pe_bl)) pss_nil)
      (pss_one (ps_ret (pe_callB (cr_all rfl) (by rfl) T.b_all (by decide +kernel) (pa_cons (pe_lc (own := [("_law_k", 1)]) (g := gName 1) (tt := tYes) rfl sc_law.nd (pi_range1 (by rfl) T.b_range (pa_cons (pe_callB (call_max2 rfl) (by rfl) T.b_max (by decide +kernel) (pa_cons pe_int (pa_cons (pe_callB (call_min2 rfl) (by rfl) T.b_min (by decide +kernel) (pa_cons (pe_callB call_len_seq (by rfl) T.b_len (by decide +kernel) (pa_cons (pv 0) pa_nil)) (pa_cons pe_int pa_nil))) pa_nil))) pa_nil)) (blkOk_by (N := N_law) (sc := defScope s_law) (by decide +kernel)) (fun _ _ _ _ _ => (pg_name (i := 1) sc_law.nd rfl (Or.inl rfl))) (fun _ _ _ _ _ => pts_nil) (fun _ _ _ _ _ => (Gx.pe_posG hgd (p__law_right T) hr (by decide) (by rfl) b__law_right pass0 (pa_cons (Gx.pe_pos (p__law_pot T) hr (by decide) (by rfl) b__law_pot pass0 (pa_cons (pv 0) (pa_cons (pv 1) pa_nil))) pa_nil)))) pa_nil))))), ?_⟩
    refine ⟨by show 3 ≤ sizeLine; decide, fun e1 n1 => ⟨by show 3 ≤ sizeLine; decide, fun e2 n2 => ?_⟩⟩
    have s2 := (Gx.sameU n1 (o := .lst [.int 8, .int 5, .int 1023])).trans (Gx.sameU n2 (o := .lst [.int 8, .int 5, .int 1023]))
    refine ⟨.list [.int 8, .int 5, .int 1023], .list [.int 8, .int 5, .int 1023], .lst (SqL.of ((Gx.sameU n2) _ _ upd_same)) (.cons (.int _) (.cons (.int _) (.cons (.int _) .nil))), .lst (SqL.of upd_same) (.cons (.int _) (.cons (.int _) (.cons (.int _) .nil))), by decide +kernel, by decide +kernel, _, rfl, ?_⟩
    rw [show PyData.eqv (.list [.int 8, .int 5, .int 1023]) (.list [.int 8, .int 5, .int 1023]) = true by decide +kernel]
    refine iteF ?_
    have top : ∃ m : Nat, m ≤ 8 ∧ (if (if (8 : Int) < ((ns.map V.int).length : Int) then (8 : Int) else ((ns.map V.int).length : Int)) > 1 then (if (8 : Int) < ((ns.map V.int).length : Int) then (8 : Int) else ((ns.map V.int).length : Int)) else 1) = (m : Int) := by
      rw [List.length_map]
      refine ⟨(if (if (8 : Int) < (ns.length : Int) then (8 : Int) else (ns.length : Int)) > 1 then (if (8 : Int) < (ns.length : Int) then (8 : Int) else (ns.length : Int)) else 1).toNat, ?_, ?_⟩ <;> split <;> split <;> omega
    obtain ⟨m, hm, em⟩ := top
    refine ⟨_, rfl, a, _, rfl, .inl (s2.seq hS), _, _, rfl, _, _, rfl, (m : Int), by rw [← em], by omega, by omega, fun D hD => ?_⟩
    rw [Int.toNat_natCast]
    have hT2 := hT.ext s2
    have hS2 := s2.seq hS
    refine lc_range (lo := 0) (n := m) (fun i H' => LamX.ExtN (L2.upd (L2.upd H e1 (.lst [.int 8, .int 5, .int 1023])) e2 (.lst [.int 8, .int 5, .int 1023])) H' ∧ LamX.Tabs (TBS K) H' ∧ H' D = some (.lst ((List.replicate i true).map V.bl))) ⟨.of (Gx.sameU hD), hT2.ext (Gx.sameU hD), upd_same⟩ (fun i H4 hi h => ?_) fun H4 h => ?_
    · obtain ⟨e4, t4, d4⟩ := h
      refine ⟨rfl, _, rfl, _, rfl, a, ns, i, by rw [Int.zero_add]; rfl, seq_en hS2 e4, by omega, fun p H5 np hp s5 => ⟨p, rfl, t4.ext s5, hp, fun H6 hp6 t6 k6 => ?_⟩⟩
      have e46 : LamX.ExtN H4 H6 := fun b o e n => k6 b o (ne_of_none e np) n (s5 _ _ e)
      have d6 := e46 _ _ d4 (fun _ z => nomatch z)
      refine ⟨_, d6, ?_, fun b u e n => ?_, tabs_kp t6 ⟨_, d6⟩ Gx.Kp.at, ?_⟩
      · rw [List.length_map, List.length_replicate]
        exact Nat.lt_of_le_of_lt (show i ≤ 8 by omega) (by decide)
      · rw [upd_ne (ne_of_none e hD)]
        exact (e4.trans e46) b u e n
      · rw [upd_same, List.replicate_succ', List.map_append]
        rfl
    · obtain ⟨e4, t4, d4⟩ := h
      refine ⟨D, List.replicate m true, rfl, SqL.of d4, ?_⟩
      rw [show (List.replicate m true).all id = true by simp]
      exact q _
end
end My
namespace My
open PySem PySem.Spec PyProof.Rows L2
def hfa : List He.Fa := ([.glo "is_int", .glo "is_place", .glo "is_list", .glo "is_name", .glo "is_term", .glo "are_terms", .glo "is_literal", .glo "terms_of", .glo "variables_of", .glo "is_order_of", .glo "problem_with", .glo "text_of", .glo "text_of_query", .glo "_law_pot", .glo "_law_take", .glo "_law_pick", .glo "_law_word", .glo "_law_mixed", .glo "_law_terms", .glo "_law_first_order", .glo "_law_term", .glo "_law_literal", .glo "_law_in_order", .glo "_law_told", .glo "_law_is_refused", .glo "_law_orders_right", .glo "_law_others_right", .glo "_law_right", .glo "law", .free "ValueError"] : List He.Fa) ++ ([.free "abs", .free "all", .free "any", .free "bool", .free "enumerate", .free "int", .free "isinstance", .free "len", .free "list", .free "max", .free "min", .free "range", .free "repr", .free "sorted", .free "str", .free "tuple", .str "BEFORE_DENIED" "not ", .str "BEFORE_ORDER" " by ", .str "LETTERS" "abcdefghijklmnopqrstuvwxyz", .int "MAX_NAME" (8), .int "MAX_TERMS" (4), .glo "RESERVED_WORDS", .glo "ROW_KINDS", .glo "SIGNS", .glo "Query", .cls "Query", .mkr "Query", .meth "Query" "literals", .meth "Query" "__len__", .meth "Query" "in_order"] : List He.Fa) ++ ([.meth "Query" "__eq__", .meth "Query" "__str__", .meth "Query" "__repr__", .noat "Query" "_literals", .noat "Query" "_variables", .glo "CoverError", .glo "InvalidQuery", .meth "InvalidQuery" "__init__"] : List He.Fa)
def hfn : List He5.DefA := ([Gx.defN "is_int" s_is_int [], Gx.defN "is_place" s_is_place [], Gx.defN "is_list" s_is_list [], Gx.defN "is_name" s_is_name [], Gx.defN "is_term" s_is_term [], Gx.defN "are_terms" s_are_terms [], Gx.defN "is_literal" s_is_literal [], Gx.defN "terms_of" s_terms_of [], Gx.defN "variables_of" s_variables_of [], Gx.defN "is_order_of" s_is_order_of [], Gx.defN "problem_with" s_problem_with [], Gx.defN "text_of" s_text_of [], Gx.defN "text_of_query" s_text_of_query [], Gx.defN "_law_pot" s__law_pot [], Gx.defN "_law_take" s__law_take [], Gx.defN "_law_pick" s__law_pick [], Gx.defN "_law_word" s__law_word [], Gx.defN "_law_mixed" s__law_mixed [], Gx.defN "_law_terms" s__law_terms [], Gx.defN "_law_first_order" s__law_first_order [], Gx.defN "_law_term" s__law_term [], Gx.defN "_law_literal" s__law_literal [], Gx.defN "_law_in_order" s__law_in_order [], Gx.defN "_law_told" s__law_told [], Gx.defN "_law_is_refused" s__law_is_refused [], Gx.defN "_law_orders_right" s__law_orders_right [], Gx.defN "_law_others_right" s__law_others_right [], Gx.defN "_law_right" s__law_right [], Gx.defN "law" s_law [], Gx.metN "Query" "__init__" "Query.__init__" s_Query___init__ [.non]] : List He5.DefA) ++ ([Gx.getN "Query" "variables" "Query.variables" s_Query_variables, Gx.metN "Query" "literals" "Query.literals" s_Query_literals [], Gx.metN "Query" "__len__" "Query.__len__" s_Query___len__ [], Gx.metN "Query" "in_order" "Query.in_order" s_Query_in_order [], Gx.metN "Query" "__eq__" "Query.__eq__" s_Query___eq__ [], Gx.metN "Query" "__str__" "Query.__str__" s_Query___str__ [], Gx.metN "Query" "__repr__" "Query.__repr__" s_Query___repr__ [], Gx.metN "InvalidQuery" "__init__" "InvalidQuery.__init__" i_InvalidQuery []] : List He5.DefA)
def hexs (K : PySem.W.Frag) : List Bool := ([Gx.lamB K "_law_is_refused", Gx.lamB K "_law_orders_right", He.tupB K "RESERVED_WORDS" [.str "not", .str "by"], He.tupB K "ROW_KINDS" [.str "row", .str "none"], He.tupB K "SIGNS" [.str "<", .str "<=", .str "=", .str "!="], Gx.prpB K "Query" "variables", Gx.neB K (He.ga K "Query"), Gx.isiB K (He.ga K "Query"), Gx.cvalB K "Query" "MAX_INTEGER" (1023), Gx.cvalB K "Query" "MAX_LITERALS" (8), Gx.cvalB K "Query" "MAX_VARIABLES" (5), Gx.clsB K (He.ga K "CoverError"), Gx.clsB K (He.ga K "InvalidQuery"), Gx.ecQ K Gx.fV (He.ga K "InvalidQuery") Gx.tlV "ValueError.__new__", Gx.subB K (He.ga K "InvalidQuery") (He.ga K "InvalidQuery") true, Gx.subB K (He.ga K "InvalidQuery") (He.ga K "CoverError") true, decide (PySem.W.subIn K (.ref (He.ga K "InvalidQuery")) (.type "ValueError") = some true), decide ((Gx.tb K "_law_is_refused").2 ≠ (Gx.tb K "_law_orders_right").2)] : List Bool)
section
variable {K : PySem.W.Frag} {h : Heap} {mg : Str → Option Value}
theorem mo_of (X : K.In h) (G : h.Ns mainGlobals mg) (c : He5.SaysA hfa hfn K) (e : (hexs K).all id = true) : Mo K mg := ⟨Gx.defAt_n X G (c.fact 0 rfl) (c.def_ 0 (d := Gx.defN "is_int" s_is_int []) rfl),
    Gx.defAt_n X G (c.fact 1 rfl) (c.def_ 1 (d := Gx.defN "is_place" s_is_place []) rfl),
    Gx.defAt_n X G (c.fact 2 rfl) (c.def_ 2 (d := Gx.defN "is_list" s_is_list []) rfl),
    Gx.defAt_n X G (c.fact 3 rfl) (c.def_ 3 (d := Gx.defN "is_name" s_is_name []) rfl),
    Gx.defAt_n X G (c.fact 4 rfl) (c.def_ 4 (d := Gx.defN "is_term" s_is_term []) rfl),
    Gx.defAt_n X G (c.fact 5 rfl) (c.def_ 5 (d := Gx.defN "are_terms" s_are_terms []) rfl),
    Gx.defAt_n X G (c.fact 6 rfl) (c.def_ 6 (d := Gx.defN "is_literal" s_is_literal []) rfl),
    Gx.defAt_n X G (c.fact 7 rfl) (c.def_ 7 (d := Gx.defN "terms_of" s_terms_of []) rfl),
    Gx.defAt_n X G (c.fact 8 rfl) (c.def_ 8 (d := Gx.defN "variables_of" s_variables_of []) rfl),
    Gx.defAt_n X G (c.fact 9 rfl) (c.def_ 9 (d := Gx.defN "is_order_of" s_is_order_of []) rfl),
    Gx.defAt_n X G (c.fact 10 rfl) (c.def_ 10 (d := Gx.defN "problem_with" s_problem_with []) rfl),
    Gx.defAt_n X G (c.fact 11 rfl) (c.def_ 11 (d := Gx.defN "text_of" s_text_of []) rfl),
    Gx.defAt_n X G (c.fact 12 rfl) (c.def_ 12 (d := Gx.defN "text_of_query" s_text_of_query []) rfl),
    Gx.defAt_n X G (c.fact 13 rfl) (c.def_ 13 (d := Gx.defN "_law_pot" s__law_pot []) rfl),
    Gx.defAt_n X G (c.fact 14 rfl) (c.def_ 14 (d := Gx.defN "_law_take" s__law_take []) rfl),
    Gx.defAt_n X G (c.fact 15 rfl) (c.def_ 15 (d := Gx.defN "_law_pick" s__law_pick []) rfl),
    Gx.defAt_n X G (c.fact 16 rfl) (c.def_ 16 (d := Gx.defN "_law_word" s__law_word []) rfl),
    Gx.defAt_n X G (c.fact 17 rfl) (c.def_ 17 (d := Gx.defN "_law_mixed" s__law_mixed []) rfl),
    Gx.defAt_n X G (c.fact 18 rfl) (c.def_ 18 (d := Gx.defN "_law_terms" s__law_terms []) rfl),
    Gx.defAt_n X G (c.fact 19 rfl) (c.def_ 19 (d := Gx.defN "_law_first_order" s__law_first_order []) rfl),
    Gx.defAt_n X G (c.fact 20 rfl) (c.def_ 20 (d := Gx.defN "_law_term" s__law_term []) rfl),
    Gx.defAt_n X G (c.fact 21 rfl) (c.def_ 21 (d := Gx.defN "_law_literal" s__law_literal []) rfl),
    Gx.defAt_n X G (c.fact 22 rfl) (c.def_ 22 (d := Gx.defN "_law_in_order" s__law_in_order []) rfl),
    Gx.defAt_n X G (c.fact 23 rfl) (c.def_ 23 (d := Gx.defN "_law_told" s__law_told []) rfl),
    Gx.lamAt_n X G (c.fact 24 rfl) (Gx.all_at e 0 rfl) (c.def_ 24 (d := Gx.defN "_law_is_refused" s__law_is_refused []) rfl),
    Gx.lamAt_n X G (c.fact 25 rfl) (Gx.all_at e 1 rfl) (c.def_ 25 (d := Gx.defN "_law_orders_right" s__law_orders_right []) rfl),
    Gx.defAt_n X G (c.fact 26 rfl) (c.def_ 26 (d := Gx.defN "_law_others_right" s__law_others_right []) rfl),
    Gx.defAt_n X G (c.fact 27 rfl) (c.def_ 27 (d := Gx.defN "_law_right" s__law_right []) rfl),
    Gx.defAt_n X G (c.fact 28 rfl) (c.def_ 28 (d := Gx.defN "law" s_law []) rfl),
    He.free_ok X G (c.fact 29 rfl),
    He.free_ok X G (c.fact 30 rfl),
    He.free_ok X G (c.fact 31 rfl),
    He.free_ok X G (c.fact 32 rfl),
    He.free_ok X G (c.fact 33 rfl),
    He.free_ok X G (c.fact 34 rfl),
    He.free_ok X G (c.fact 35 rfl),
    He.free_ok X G (c.fact 36 rfl),
    He.free_ok X G (c.fact 37 rfl),
    He.free_ok X G (c.fact 38 rfl),
    He.free_ok X G (c.fact 39 rfl),
    He.free_ok X G (c.fact 40 rfl),
    He.free_ok X G (c.fact 41 rfl),
    He.free_ok X G (c.fact 42 rfl),
    He.free_ok X G (c.fact 43 rfl),
    He.free_ok X G (c.fact 44 rfl),
    He.free_ok X G (c.fact 45 rfl),
    Gx.known_str X G (c.fact 46 rfl),
    Gx.known_str X G (c.fact 47 rfl),
    Gx.known_str X G (c.fact 48 rfl),
    Gx.known_int X G (c.fact 49 rfl),
    Gx.known_int X G (c.fact 50 rfl),
    (show Gx.TupAt K mg "RESERVED_WORDS" [.str "not", .str "by"] from Gx.TupAt.of (vs := [.str "not", .str "by"]) X G (c.fact 51 rfl) (Gx.all_at e 2 rfl)),
    (show Gx.TupAt K mg "ROW_KINDS" [.str "row", .str "none"] from Gx.TupAt.of (vs := [.str "row", .str "none"]) X G (c.fact 52 rfl) (Gx.all_at e 3 rfl)),
    (show Gx.TupAt K mg "SIGNS" [.str "<", .str "<=", .str "=", .str "!="] from Gx.TupAt.of (vs := [.str "<", .str "<=", .str "=", .str "!="]) X G (c.fact 53 rfl) (Gx.all_at e 4 rfl)),
    Gx.metAt_n (dvs := [.non]) X G (c.fact 54 rfl) (c.fact 55 rfl) (c.def_ 29 (d := Gx.metN "Query" "__init__" "Query.__init__" s_Query___init__ [.non]) rfl),
    (by rw [Gx.cl_ga X G (c.fact 54 rfl)]; exact He.mkr_ok (c.fact 56 rfl)),
    Gx.getAt_n X G (c.fact 54 rfl) (c.fact 55 rfl) (Gx.all_at e 5 rfl) (c.def_ 30 (d := Gx.getN "Query" "variables" "Query.variables" s_Query_variables) rfl),
    Gx.metAt_n (dvs := []) X G (c.fact 54 rfl) (c.fact 55 rfl) (c.def_ 31 (d := Gx.metN "Query" "literals" "Query.literals" s_Query_literals []) rfl),
    (by rw [Gx.cl_ga X G (c.fact 54 rfl)]; exact He.meth_ok (c.fact 57 rfl)),
    Gx.metAt_n (dvs := []) X G (c.fact 54 rfl) (c.fact 55 rfl) (c.def_ 32 (d := Gx.metN "Query" "__len__" "Query.__len__" s_Query___len__ []) rfl),
    (by rw [Gx.cl_ga X G (c.fact 54 rfl)]; exact He.meth_ok (c.fact 58 rfl)),
    Gx.metAt_n (dvs := []) X G (c.fact 54 rfl) (c.fact 55 rfl) (c.def_ 33 (d := Gx.metN "Query" "in_order" "Query.in_order" s_Query_in_order []) rfl),
    (by rw [Gx.cl_ga X G (c.fact 54 rfl)]; exact He.meth_ok (c.fact 59 rfl)),
    Gx.metAt_n (dvs := []) X G (c.fact 54 rfl) (c.fact 55 rfl) (c.def_ 34 (d := Gx.metN "Query" "__eq__" "Query.__eq__" s_Query___eq__ []) rfl),
    (by rw [Gx.cl_ga X G (c.fact 54 rfl)]; exact He.meth_ok (c.fact 60 rfl)),
    Gx.neOf_b X G (c.fact 54 rfl) (Gx.all_at e 6 rfl),
    Gx.isiC_b X G (c.fact 54 rfl) (c.fact 55 rfl) (Gx.all_at e 7 rfl),
    Gx.metAt_n (dvs := []) X G (c.fact 54 rfl) (c.fact 55 rfl) (c.def_ 35 (d := Gx.metN "Query" "__str__" "Query.__str__" s_Query___str__ []) rfl),
    (by rw [Gx.cl_ga X G (c.fact 54 rfl)]; exact He.meth_ok (c.fact 61 rfl)),
    Gx.metAt_n (dvs := []) X G (c.fact 54 rfl) (c.fact 55 rfl) (c.def_ 36 (d := Gx.metN "Query" "__repr__" "Query.__repr__" s_Query___repr__ []) rfl),
    (by rw [Gx.cl_ga X G (c.fact 54 rfl)]; exact He.meth_ok (c.fact 62 rfl)),
    (by rw [Gx.cl_ga X G (c.fact 54 rfl)]; exact He.noat_ok (c.fact 63 rfl)),
    (by rw [Gx.cl_ga X G (c.fact 54 rfl)]; exact He.noat_ok (c.fact 64 rfl)),
    Gx.cvalB_ok X G (c.fact 54 rfl) (Gx.all_at e 8 rfl),
    Gx.cvalB_ok X G (c.fact 54 rfl) (Gx.all_at e 9 rfl),
    Gx.cvalB_ok X G (c.fact 54 rfl) (Gx.all_at e 10 rfl),
    Gx.clsAt_b X G (c.fact 65 rfl) (Gx.all_at e 11 rfl),
    Gx.clsAt_b X G (c.fact 66 rfl) (Gx.all_at e 12 rfl),
    Gx.errAt_q X G (c.fact 66 rfl) Gx.etV (Gx.all_at e 13 rfl) (c.fact 67 rfl) (c.def_ 37 (d := Gx.metN "InvalidQuery" "__init__" "InvalidQuery.__init__" i_InvalidQuery []) rfl),
    (by rw [Gx.cl_ga X G (c.fact 66 rfl)]; exact (Gx.ecQ_of Gx.etV (Gx.all_at e 13 rfl)).2 _ (by decide)),
    (by rw [Gx.cl_ga X G (c.fact 66 rfl)]; exact (Gx.ecQ_of Gx.etV (Gx.all_at e 13 rfl)).2 _ (by decide)),
    Gx.subAt_b X G (c.fact 66 rfl) (c.fact 66 rfl) (Gx.all_at e 14 rfl),
    Gx.subAt_b X G (c.fact 66 rfl) (c.fact 65 rfl) (Gx.all_at e 15 rfl),
    (by rw [Gx.cl_ga X G (c.fact 66 rfl)]; exact (of_decide_eq_true (Gx.all_at e 16 rfl)))⟩
end
def hob (s : PySem.W.SharedT) : Gx.AlM := Gx.obsN 5 hfa hfn (fun K => (hexs K).all id) (HandSHeadRun.getT s)
theorem hob_eq (s : PySem.W.SharedT) : hob s = (Gx.hookN 5 hfa hfn (fun K => (hexs K).all id)).obs s.abs := Gx.obsN_eq (HandSHeadRun.getT_eq s)
def hloose : List Str := (["CoverError", "InvalidQuery", "InvalidText", "Query", "is_int", "is_place", "is_list", "is_name", "is_term", "are_terms", "is_literal", "terms_of", "variables_of", "is_order_of", "problem_with", "text_of", "text_of_query", "read_literal", "read_row", "read_term", "_law_pot", "_law_take", "_law_pick", "_law_word", "_law_mixed", "_law_terms", "_law_first_order", "_law_term", "_law_literal", "_law_in_order"] : List Str) ++ (["_law_told", "_law_others_right", "_law_right", "MAX_NAME", "LETTERS", "RESERVED_WORDS", "ROW_KINDS", "SIGNS", "MAX_TERMS", "MAX_DIGITS", "BEFORE_ORDER", "BEFORE_DENIED"] : List Str)
abbrev hrow := PySem.W.OpenLaw.row PySem.Challenge.rw_coverstore_k33_orders_and_equal_queries
abbrev hview := PySem.W.view hrow.prog [44, 45, 48]
open PySem.W PySem.Calls in
theorem hr1 (w : World) (os : OsState) : (HandSHeadRun.endF (HandSHeadRun.stepQ (HandSHeadRun.denQ HandSHeadRun.tabQ) hrow.prog w) 8000 hrow.prog w os).map (fun s => (HandSHeadRun.looksF hrow.prog (boot_heap w.params) s.abs, HandSHeadRun.seenQ hview hloose (importedModules hrow.prog.main.body) (fun s => PySem.W.xlAt hview [] s && PySem.W.recOk hrow.toRowW.records s) s.abs)) = some (true, PySem.W.openGood hview hloose) := by
  kernel_rfl
theorem hr2 (w : World) (os : OsState) : (HandSHeadRun.endF (HandSHeadRun.stepQ (HandSHeadRun.denQ HandSHeadRun.tabQ) hrow.prog w) 8000 hrow.prog w os).map (fun s => He5.obsA hfa hfn (He.frG (HandSHeadRun.getT s) (Gx.asN (HandSHeadRun.getT s) 5))) = some (He5.valA hfn) := by
  kernel_rfl
theorem hr3 (w : World) (os : OsState) : (HandSHeadRun.endF (HandSHeadRun.stepQ (HandSHeadRun.denQ HandSHeadRun.tabQ) hrow.prog w) 8000 hrow.prog w os).map (fun s => ((hexs (He.frG (HandSHeadRun.getT s) (Gx.asN (HandSHeadRun.getT s) 5))).all id, Gx.sysB (HandSHeadRun.getT s))) = some (true, true) := by
  kernel_rfl
theorem hrun (w : World) : HandSHeadRun.RunEq hrow hview (Gx.hookN 5 hfa hfn (fun K => (hexs K).all id)) hob 8000 hloose w := Gx.run_threeN (fun s => rfl) (hr1 w) (hr2 w) (hr3 w)
end My
open PySem PySem.W PySem.Calls PyProof.Rows
set_option maxRecDepth 100000 in
set_option maxHeartbeats 0 in
theorem PySem.Challenge.cw_coverstore_k33_orders_and_equal_queries_holds : PySem.Challenge.rw_coverstore_k33_orders_and_equal_queries.Holds := by
  w_on; o_law
  refine HandSHeadRun.head_any (r := OpenLaw.row PySem.Challenge.rw_coverstore_k33_orders_and_equal_queries) (q := view (OpenLaw.row PySem.Challenge.rw_coverstore_k33_orders_and_equal_queries).prog [44, 45, 48]) (H := Gx.hookN 5 My.hfa My.hfn (fun K => (My.hexs K).all id)) (ob := My.hob) (M := 8000) (loose := My.hloose) (d := HandSHeadRun.topDef (OpenLaw.row PySem.Challenge.rw_coverstore_k33_orders_and_equal_queries).prog 48) (kwd := []) My.hob_eq
    (by kernel_rfl) (fun s => by kernel_rfl) My.hrun (by kernel_rfl) (by kernel_rfl) (by kernel_rfl) (by rfl) (by first | assumption | decide +kernel) (by decide +kernel) ⟨rfl, rfl, rfl, rfl, rfl, by decide +kernel⟩ ?hw ?hc
  case hw => w_witness2
  case hc =>
    refine Gx.walkT (l := PySem.Challenge.rw_coverstore_k33_orders_and_equal_queries) (n := 63) (k := 21) (sp := fun K _ => My.spLaw K) (xs := ["_law_is_refused", "_law_orders_right"]) rfl (by decide) (by kernel_rfl) ⟨rfl, by decide, by decide⟩ (by kernel_rfl) My.b_law (by kernel_rfl) ?F (fun K mg H a ns hl hT hS => ⟨a, ns, rfl, hS, hl, (fun z hz => by simp only [My.TBS, List.mem_cons, List.not_mem_nil, or_false] at hz; rcases hz with rfl | rfl <;> exact LamX.TabS.nil (hT _ (by simp))), fun _ => rfl⟩)
    intro w mg h Y G
    obtain ⟨K, KX, c, e, S⟩ := Y
    refine ⟨K, KX, S, fun y hy => ?_, fun base kb nb sb tt => My.p_law (My.mo_of KX G c e) sb ⟨tt _ (by simp), tt _ (by simp), (of_decide_eq_true (Gx.all_at e 17 rfl))⟩⟩
    simp only [List.mem_cons, List.not_mem_nil, or_false] at hy
    rcases hy with rfl | rfl
    · exact Gx.lamB_tab (Gx.all_at e 0 rfl)
    · exact Gx.lamB_tab (Gx.all_at e 1 rfl)
