import PyProof.Rows.All
import Wide.All
import OpenK.AllK
import Wide.FinOn
import HandS.Base
import HandS.Call
import HandS.List
import HandS.Comp
import HandS.Ends
import HandS.Words
import HandS.WordsList
import HandS.IsInst
import HandS.Conv
import HandS.StrMore
import HandS.WideBits
import HandS.Wide
import HandS.Iter
import HandS.Text
import HandS.Dict
import HandS.Evl
import HandS.Style
import HandS.RaiseMore
import HandS.WordsDict
import HandS.Exc
import HandS.ExcOwn
import HandS.ExcInit
import HandS.ExcField
import HandS.ExcIs
import HandS.TryMany
import HandS.HotCalls
import HandS.SetFor
import HandS.WordsExc
import KE.KExcIs
import PyProof.Rows.StrIntSpec
import PyProof.FString3
import PyProof.Rows.StrPadFill
import HandS.IntHex
import HandS.FStr
import KE.KIntText
import KE.IntTextLaws
import HandS.Defaults
import HandS.Walk
import KE.KStateDown
import HandS.Head0
import HandS.Head1
import HandS.Head2
import HandS.HeadHook1
import HandS.HeadHook2
import HandS.HeadNt
import KE.KExcInit
import HandS.ExcBuiltin
import HandS.ExcValue
import HandS.Deep
import KE.GoesEnum
import PyProof.Rows.SortStr
import HandS.ClsMeth
import HandS.Property
import HandS.MakeKw
import HandS.MakeKwOnly
import HandS.NamedTupGet
import HandS.TupMul
import HandS.TupAny
import PySem.Challenge.RW_coverstore_k31_queries_judged
set_option Elab.async false
set_option maxRecDepth 100000
set_option maxHeartbeats 4000000
/-! My layer beside HandS: defs below which no repr is under way (guards known), repr of data. -/
namespace Gx
open PySem PySem.Spec PyProof.Rows L2
section
variable (P : Program) (w : World) (K : PySem.W.Frag) (mg : Str → Option Value) (base : Heap)
/-- as FnOk, where it is known that no repr is under way at the call -/
structure GOk (CX : CXT) (k : Nat) (f : Addr) (fd : FuncData) (ps : List Str) (sp : Sp) : Prop where
  many : ∀ {vs H Q E}, sp vs H Q E → vs.length = ps.length
  go : ∀ {A : Around} {outer : List Env} {s : Shared} {H : Hp} {args : Args} {us : List Value} {vs : List V} {Q : VK} {E : XK},
    A.guards = some [] → Room k A → Env0 P w K mg base A outer s H → BindsTo s fd args (ps.zip us) → Vals vs us → sp vs H Q E →
    codeAny (model P w) A (.call (.ref f) args) (CR CX outer P w H s Q E) s
end
section
variable {P : Program} {w : World} {K : PySem.W.Frag} {mg : Str → Option Value} {base : Heap} {CX : CXT} {j k : Nat} {f : Addr} {fd : FuncData} {ps : List Str} {sp : Sp}
theorem GOk.of (F : FnOk P w K mg base CX k f fd ps sp) : GOk P w K mg base CX k f fd ps sp :=
  ⟨fun {vs H Q E} z => F.len vs H Q E z, fun {A outer s H args us vs Q E} _ r e b v z => F.run A outer s H args us vs Q E r e b v z⟩
/-- a def by its body -/
theorem gok_body {x qual : Str} {st : Stmt} {N : List Str} (F : Fun K x qual st f fd) (S : FnScope N ps (defScope st)) (hm : ∀ {vs H Q E}, sp vs H Q E → vs.length = ps.length)
    (body : ∀ (cdv : Value) (A : Around) (outer : List Env) (s : Shared) (H : Hp) (vs : List V) (Q : VK) (E : XK), A.guards = some [] →
      Room k (A.deeper (envOfC qual (defScope st) s.heap.objs.size f cdv)) → sp vs H Q E →
      ∃ t, PSs (cxOf CX P w K mg base N qual (defScope st) f cdv A outer s H E) (defBody st) t ∧ t { nx := fun _ H' => Q .non H', rt := Q } (start N vs) H) :
    GOk P w K mg base CX (k + 1) f fd ps sp := by
  obtain ⟨oc, od, kV, doc, pm, an, cdv, ct, osl, rfl, lk, hcd⟩ := F.ex
  refine ⟨hm, fun {A outer s H args us vs Q E} hgd hr e0 hb r hsp => ?_⟩
  have up : ∀ b o, base.get? b = some o → s.heap.get? b = some o := fun b o e => (e0.bs b o e).1
  have inK : K.In s.heap := e0.mod.kin.keeps up
  have nl : s.heap.NoLimit := e0.mod.nolimit.keeps up
  refine codeAny_call_function hr.depth (inK _ _ lk) rfl S.co S.gen rfl (PySem.W.codeRec_of inK hcd) (hb _ _ _ _ ?_)
  refine wpAny_newFunctionEnv_cells S.kind (fun y hy => (S.par y.1 (List.of_mem_zip hy).1).imp id fun z => ⟨z, PySem.W.cellsFrom_some _ _ _ (.inl z)⟩) fun env he s1 new => ?_
  cases he
  obtain ⟨t, ht, q⟩ := body cdv A outer s H vs Q E hgd (hr.deeper _) hsp
  have I := inv_start (CX := CX) (P := P) (w := w) (K := K) (mg := mg) (base := base) (E := E) S hr.hd e0 (hm hsp) r new
  refine ⟨nl.keeps new.toInCall.keep, codeAny_func (wpAny_mono (ht.run [] s1 _ H _ I q) (fun fl s' z => ?_) fun _ _ z => z)⟩
  cases fl with
  | next => exact let ⟨_, H', J, z⟩ := z; ⟨V.non, H', J.os, J.bare, J.base, J.hok, rfl, z⟩
  | ret u => exact let ⟨v, _, H', J, rv, z⟩ := z; ⟨v, H', J.os, J.bare, J.base, J.hok, rv, z⟩
  | brk => exact False.elim (let ⟨_, _, _, z⟩ := z; z)
  | cont => exact False.elim (let ⟨_, _, _, z⟩ := z; z)
end
section
variable {X : Cx} {CX : CXT} {k : Nat} {f : Addr} {fd : FuncData} {ps : List Str} {sp : Sp} {dvs : List V} {ds : List Value} {E : XK} {x : Str} {p pos : Pos} {e : Expr} {es : List Expr} {t : TA}
/-- a call of such a def by its name -/
theorem pe_gcall (F : GOk X.prog X.w X.K X.mg X.base CX k f fd ps sp) (hgd : X.A.guards = some []) (hr : Room k X.A) (hg : Gl X x) (hm : X.mg x = some (.ref f)) (hk : PySem.W.keepIn X.K (.ref f) = true) (hb : Binds X.K fd ps ds)
    (hd : Vals dvs ds) (hx : Passes CX X E) (ha : PA X (e :: es) t) (n0 : (x == ("__debug__" : Str)) = false := by decide)
    (n1 : starEach (e :: es) X.env = (false, eval e X.env) :: starEach es X.env := by rfl) (n2 : (backTo pos (starEach es X.env)).any (·.1) = false := by rfl) :
    PE X (.Call (.Name x p) (e :: es) [] pos) (tCall sp dvs E t) := by
  constructor
  intro pins s σ H Q I h
  refine wpAny_Call_Name_kw (ld_glob I hg hm ?_ n0)
  refine PySem.W.callWith_K (h₀ := X.base) I.ok.mod.kin hk (thn (ha.run pos pins s σ H _ I h) fun us s1 ⟨vs, H1, I1, r, q⟩ => ⟨I1.kIn, ?_⟩) n1 n2
  have rr := r.append hd
  have many : (us ++ ds).length = ps.length := (Paired.length rr).symm.trans (F.many q)
  refine wpAny_call (codeAny_mono (F.go hgd hr I1.env0 (hb s1 us I1.kIn many) rr q) fun res s' z => ?_)
  cases res with
  | error er => exact hx pins σ H1 s1 er s' I1 z
  | ok fl =>
    cases fl with
    | ret u => exact I1.after z
    | next => exact False.elim z
    | brk => exact False.elim z
    | cont => exact False.elim z
end
/-! ### what a value shows -/
mutual
/-- as Dp, with empty dicts -/
inductive Dq (K : PySem.W.Frag) (H : Hp) : V → PyData → Prop
  | non : Dq K H .non .none
  | bl (b : Bool) : Dq K H (.bl b) (.bool b)
  | int (i : Int) : Dq K H (.int i) (.int i)
  | str (x : Str) : Dq K H (.str x) (.str x)
  | lst {a : Addr} {xs : List V} {ds : List PyData} : SqL K H a xs → DqAll K H xs ds → Dq K H (.ref a) (.list ds)
  | tup {a : Addr} {xs : List V} {ds : List PyData} : SqT K H a xs → DqAll K H xs ds → Dq K H (.ref a) (.tuple ds)
  | nil {a : Addr} : H a = some (.dK []) → Dq K H (.ref a) (.dict [])
inductive DqAll (K : PySem.W.Frag) (H : Hp) : List V → List PyData → Prop
  | nil : DqAll K H [] []
  | cons {v : V} {vs : List V} {d : PyData} {ds : List PyData} : Dq K H v d → DqAll K H vs ds → DqAll K H (v :: vs) (d :: ds)
end
end Gx
namespace Gx
open PySem PySem.Spec PyProof.Rows L2
section
variable {X : Cx} {pins : List (Addr × Obj)} {σ : L2.St} {H : Hp} {s : Shared}
theorem nil_reads {a : Addr} (I : Inv X pins σ H s) (e : H a = some (.dK [])) : Reads s.heap (.ref a) (.dict []) [a] := by
  obtain ⟨_, _, vs, kv, o, es, ep, ho, ex, hd, _, hp, _⟩ := I.hok _ _ e
  cases kv
  have e0 : es = #[] := by
    have e1 : es.toList = [] := by
      cases q : es.toList with
      | nil => rfl
      | cons y r =>
        rw [q] at hp
        exact absurd hp (by intro z; cases z)
    simpa using e1
  subst e0
  exact .dict (as := []) (bs := []) ho ex.1 hd .nil .nil
mutual
theorem Dq.reads (I : Inv X pins σ H s) : ∀ (d : PyData) (v : V) (u : Value), Dq X.K H v d → RelV v u → ∃ as, Reads s.heap u d as
  | .none, _, _, h, r => by
    cases h; cases r
    exact ⟨_, .none⟩
  | .bool b, _, _, h, r => by
    cases h; cases r
    exact ⟨_, .bool b⟩
  | .int i, _, _, h, r => by
    cases h
    obtain ⟨t, rfl⟩ := r
    exact ⟨_, .int i t⟩
  | .str x, _, _, h, r => by
    cases h
    obtain ⟨t, rfl⟩ := r
    exact ⟨_, .str x t⟩
  | .list ds, _, _, h, r => by
    cases h with
    | lst hs ha =>
      cases r
      obtain ⟨its, rv, ⟨o, n, ho, hc, _, hd⟩, _⟩ := I.list hs
      obtain ⟨as, q⟩ := DqAll.reads I ds _ its ha rv
      exact ⟨_, .list ho hc hd q⟩
  | .tuple ds, _, _, h, r => by
    cases h with
    | tup hs ha =>
      cases r
      obtain ⟨its, rv, ⟨o, ho, hc, n, hd⟩, _⟩ := I.tuple hs
      obtain ⟨as, q⟩ := DqAll.reads I ds _ its ha rv
      exact ⟨_, .tuple ho hc hd q⟩
  | .dict kvs, _, _, h, r => by
    cases h with
    | nil e =>
      cases r
      exact ⟨_, nil_reads I e⟩
theorem DqAll.reads (I : Inv X pins σ H s) : ∀ (ds : List PyData) (vs : List V) (us : List Value), DqAll X.K H vs ds → Vals vs us → ∃ as, ReadsAll s.heap us ds as
  | [], _, _, h, r => by
    cases h; cases r
    exact ⟨_, .nil⟩
  | d :: ds, _, _, h, r => by
    cases h with
    | cons h1 h2 =>
      cases r with
      | cons r1 r2 =>
        obtain ⟨as, q1⟩ := Dq.reads I d _ _ h1 r1
        obtain ⟨bs, q2⟩ := DqAll.reads I ds _ _ h2 r2
        exact ⟨_, .cons q1 q2⟩
end
end
/-- repr(x) of data -/
def rRepr (K : PySem.W.Frag) : List V → Hp → VK → Prop := fun xs H Q => ∃ x d, xs = [x] ∧ Dq K H x d ∧ d.showable = true ∧ (d.hasDict = true → d = .dict []) ∧ d.depth ≤ 30 ∧ d.shown.length ≤ sizeLine ∧ Q (.str d.shown) H
theorem call_repr {X : Cx} (hgd : X.A.guards = some []) (hu : X.A.units + 64 < cLine) : CallR X (.builtin "repr") (rRepr X.K) := by
  intro pins s σ H xs us Q I r h
  obtain ⟨x, d, rfl, hd, hs, hdict, hdep, hsz, q⟩ := h
  obtain ⟨u, rfl, rx⟩ := vals1 r
  obtain ⟨as, rd⟩ := Dq.reads I d x u hd rx
  have fin : ∀ h' (u : Tok) tk, (∀ b o, s.heap.get? b = some o → h'.get? b = some o) → EP X pins σ Q (.str d.shown u) { s with heap := h', toks := tk } :=
    fun h' u tk k => ⟨.str d.shown, H, I.kept k, ⟨u, rfl⟩, q⟩
  have big : ∀ a, u = .ref a → wpAny (model X.prog X.w) X.A (call (.builtin "repr") [u]) (EP X pins σ Q) X.xe s := fun a e => by
    subst e
    by_cases z : d.hasDict = true
    · have e0 := hdict z
      subst e0
      cases hd with
      | nil e =>
        obtain ⟨_, nm, _⟩ := I.hok _ _ e
        cases rx
        exact repr_of_reads' (nil_reads I e) hs (fun _ y => by
          rw [← List.mem_singleton.mp y] at nm
          simp at nm) hgd (by omega) (fun _ _ e => e) fin hsz
    · exact repr_of_reads' rd hs (fun y => absurd y z) hgd (by omega) (fun _ _ e => e) fin hsz
  cases hd with
  | non => cases rx; exact P.repr_of_none (by simpa only [PyData.shown] using fin s.heap _ _ fun _ _ e => e)
  | bl b => cases rx; exact P.repr_of_bool (by simpa only [PyData.shown] using fin s.heap _ _ fun _ _ e => e)
  | int i =>
    obtain ⟨t, rfl⟩ := rx
    exact P.repr_of_int (by simpa [PyData.showable] using hs) (by simpa only [PyData.shown] using fin s.heap _ _ fun _ _ e => e)
  | str y =>
    obtain ⟨t, rfl⟩ := rx
    exact P.repr_of_str (by simpa only [PyData.shown] using fin s.heap _ _ fun _ _ e => e) (by simpa only [PyData.shown] using hsz)
  | lst _ _ => exact big _ rx
  | tup _ _ => exact big _ rx
  | nil _ => exact big _ rx
end Gx
namespace Gx
open PySem PySem.Spec PyProof.Rows L2
/-! ### the module's defs and constants -/
def DefAt (K : PySem.W.Frag) (mg : Str → Option Value) (x : Str) (st : Stmt) : Prop := ∃ f fd, mg x = some (.ref f) ∧ Fun K x x st f fd
def KnownAt (mg : Str → Option Value) (x : Str) (v : V) : Prop := ∃ u, mg x = some u ∧ RelV v u
/-- positional arguments, all of them -/
def PosB (x : Str) (st : Stmt) (ps : List Str) : Prop := ∀ (kV doc pm : Value) (an : Option Addr) (cdv ct : Value) (us : List Value), us.length = ps.length →
  bindArgs (PySem.W.fnOf x x (defArgs st) (defBody st) (defScope st) .none kV doc pm an cdv ct) ⟨us, []⟩ = pure (ps.zip us)
/-- keywords alone, all of them, named ks; g puts their values in the parameters' order -/
structure KwB (x : Str) (st : Stmt) (ps ks : List Str) (g : {α : Type} → List α → List α) : Prop where
  to : ∀ (kV doc pm : Value) (an : Option Addr) (cdv ct : Value) (ws : List Value), ws.length = ks.length →
    bindArgs (PySem.W.fnOf x x (defArgs st) (defBody st) (defScope st) .none kV doc pm an cdv ct) ⟨[], ks.zip ws⟩ = pure (ps.zip (g ws))
  rel : ∀ {vs : List V} {us : List Value}, Vals vs us → Vals (g vs) (g us)
section
variable (P : Program) (w : World) (K : PySem.W.Frag) (mg : Str → Option Value) (base : Heap)
structure Pr (CX : CXT) (k : Nat) (x : Str) (st : Stmt) (ps : List Str) (sp : Sp) : Prop where
  ex : ∃ f fd, mg x = some (.ref f) ∧ Fun K x x st f fd ∧ FnOk P w K mg base CX k f fd ps sp
structure PrG (CX : CXT) (k : Nat) (x : Str) (st : Stmt) (ps : List Str) (sp : Sp) : Prop where
  ex : ∃ f fd, mg x = some (.ref f) ∧ Fun K x x st f fd ∧ GOk P w K mg base CX k f fd ps sp
end
section
variable {P : Program} {w : World} {K : PySem.W.Frag} {mg : Str → Option Value} {base : Heap} {k : Nat} {x : Str} {st : Stmt} {ps N : List Str} {sp : Sp}
/-- a def that lets nothing out, by its body -/
theorem DefAt.ok (D : DefAt K mg x st) (S : FnScope N ps (defScope st)) (len : ∀ vs H Q E, sp vs H Q E → vs.length = ps.length)
    (body : ∀ (f : Addr) (cdv : Value) (A : Around) (outer : List Env) (s : Shared) (H : Hp) (vs : List V) (Q : VK) (E : XK), Room k (A.deeper (envOfC x (defScope st) s.heap.objs.size f cdv)) → sp vs H Q E →
      ∃ t, PSs (cxOf CX0 P w K mg base N x (defScope st) f cdv A outer s H E).nox (defBody st) t ∧ t { nx := fun _ H' => Q .non H', rt := Q } (start N vs) H) : Pr P w K mg base CX0 (k + 1) x st ps sp := by
  obtain ⟨f, fd, m, F⟩ := D
  exact ⟨f, fd, m, F, F.ok S len fun cdv A outer s H vs Q E => body f cdv A outer s H vs Q E⟩
/-- the same where it is known that no repr is under way -/
theorem DefAt.okG (D : DefAt K mg x st) (S : FnScope N ps (defScope st)) (len : ∀ vs H Q E, sp vs H Q E → vs.length = ps.length)
    (body : ∀ (f : Addr) (cdv : Value) (A : Around) (outer : List Env) (s : Shared) (H : Hp) (vs : List V) (Q : VK) (E : XK), A.guards = some [] → Room k (A.deeper (envOfC x (defScope st) s.heap.objs.size f cdv)) → sp vs H Q E →
      ∃ t, PSs (cxOf CX0 P w K mg base N x (defScope st) f cdv A outer s H E).nox (defBody st) t ∧ t { nx := fun _ H' => Q .non H', rt := Q } (start N vs) H) : PrG P w K mg base CX0 (k + 1) x st ps sp := by
  obtain ⟨f, fd, m, F⟩ := D
  refine ⟨f, fd, m, F, gok_body F S (fun {vs H Q E} z => len vs H Q E z) fun cdv A outer s H vs Q E hg hr z => ?_⟩
  obtain ⟨t, h, q⟩ := body f cdv A outer s H vs Q E hg hr z
  exact ⟨t, h.nox, q⟩
theorem Pr.g {CX : CXT} (F : Pr P w K mg base CX k x st ps sp) : PrG P w K mg base CX k x st ps sp := by
  obtain ⟨f, fd, m, Z, F⟩ := F.ex
  exact ⟨f, fd, m, Z, .of F⟩
end
section
variable {X : Cx} {CX : CXT} {j k : Nat} {st : Stmt} {ps ks : List Str} {sp : Sp} {E : XK} {x : Str} {v : V} {p pos : Pos} {e : Expr} {es : List Expr} {kws : List Keyword} {t tk : TA} {g : {α : Type} → List α → List α}
theorem pe_k (hg : Gl X x) (h : KnownAt X.mg x v) (hd : (x == ("__debug__" : Str)) = false := by decide) : PE X (.Name x pos) (tC v) :=
  let ⟨_, m, r⟩ := h
  pe_glob hg m r hd
theorem pe_pos (F : Pr X.prog X.w X.K X.mg X.base CX k x st ps sp) (hr : Room j X.A) (hk : k ≤ j) (hg : Gl X x) (hb : PosB x st ps) (hx : Passes CX X E) (ha : PA X (e :: es) t) (n0 : (x == ("__debug__" : Str)) = false := by decide)
    (n1 : starEach (e :: es) X.env = (false, eval e X.env) :: starEach es X.env := by rfl) (n2 : (backTo pos (starEach es X.env)).any (·.1) = false := by rfl) : PE X (.Call (.Name x p) (e :: es) [] pos) (tCall sp [] E t) := by
  obtain ⟨f, fd, m, Z, F⟩ := F.ex
  exact pe_call F (hr.mono hk) hg m Z.kp (Z.binds hb) .nil hx ha n0 n1 n2
theorem pe_posG (hgd : X.A.guards = some []) (F : PrG X.prog X.w X.K X.mg X.base CX k x st ps sp) (hr : Room j X.A) (hk : k ≤ j) (hg : Gl X x) (hb : PosB x st ps) (hx : Passes CX X E) (ha : PA X (e :: es) t) (n0 : (x == ("__debug__" : Str)) = false := by decide)
    (n1 : starEach (e :: es) X.env = (false, eval e X.env) :: starEach es X.env := by rfl) (n2 : (backTo pos (starEach es X.env)).any (·.1) = false := by rfl) : PE X (.Call (.Name x p) (e :: es) [] pos) (tCall sp [] E t) := by
  obtain ⟨f, fd, m, Z, F⟩ := F.ex
  exact pe_gcall F hgd (hr.mono hk) hg m Z.kp (Z.binds hb) .nil hx ha n0 n1 n2
/-- f(a = .., b = ..) -/
def tKw (sp : Sp) (n : Nat) (g : {α : Type} → List α → List α) (E : XK) (t : TA) : TE := fun σ H Q => t σ H fun vs H1 => vs.length = n ∧ sp (g vs) H1 Q E
theorem pe_kw (F : Pr X.prog X.w X.K X.mg X.base CX k x st ps sp) (hr : Room j X.A) (hk : k ≤ j) (hg : Gl X x) (hb : KwB x st ps ks g) (hx : Passes CX X E) (hkw : PK X kws tk)
    (n1 : (backToKw pos (keywordEach kws X.env)).all (·.1.isSome) = true := by rfl) (n2 : (backToKw pos (keywordEach kws X.env)).filterMap (·.1) = ks := by rfl) (n0 : (x == ("__debug__" : Str)) = false := by decide)
    (n3 : ((backTo pos (starEach [] X.env)).any (·.1) || (backToKw pos (keywordEach kws X.env)).any (·.1.isNone)) = false := by rfl) : PE X (.Call (.Name x p) [] kws pos) (tKw sp ks.length g E tk) := by
  obtain ⟨f, fd, m, Z, F⟩ := F.ex
  constructor
  intro pins s σ H Q I h
  refine wpAny_Call_Name_kw (ld_glob I hg m ?_ n0)
  refine PySem.W.callWith_KW0 (h₀ := X.base) I.ok.mod.kin Z.kp n1 ?_ n3
  refine thn (hkw.run pos pins s σ H _ I h) fun ws s2 ⟨vs, H2, I2, r, l, q⟩ => ⟨I2.kIn, ?_⟩
  rw [n2]
  obtain ⟨oc, od, kV, doc, pm, an, cdv, ct, osl, rfl, _, _⟩ := Z.ex
  refine wpAny_call (codeAny_mono (F.run X.A X.stack s2 H2 ⟨[], ks.zip ws⟩ (g ws) (g vs) Q E (hr.mono hk) I2.env0 (.of_eq (hb.to kV doc pm an cdv ct ws (r.length.symm.trans l))) (hb.rel r) q) fun res s' z => ?_)
  cases res with
  | error er => exact hx pins σ H2 s2 er s' I2 z
  | ok fl =>
    cases fl with
    | ret u => exact I2.after z
    | next => exact False.elim z
    | brk => exact False.elim z
    | cont => exact False.elim z
end
/-! ### the law's call -/
/-- the script alone is tracked -/
def scr (a : Addr) (o : Obj) (ns : List Int) : Hp := fun b => if b = a then some (.frz o (.lst (ns.map V.int))) else none
theorem law_goG {P : Program} {w : World} {K : PySem.W.Frag} {mg mb : Str → Option Value} {k : Nat} {fa a : Addr} {fd : FuncData} {x : Str} {sp : Sp} {s₁ : Shared} {vs : List Value} {ns : List Int}
    (KX : K.In s₁.heap) (hm : s₁.heap.Ns mainGlobals mg) (hb : s₁.heap.Ns builtinsNs mb) (hbb : ∀ x : Str, x ≠ "__name__" → mb x = bootBuiltins x) (hl : s₁.heap.NoLimit) (hg : s₁.gens = #[])
    (ha : s₁.heap.get? a = some { cls := .type "list", data := .seq vs.toArray }) (hi : IntsAre vs ns) (hn : ns.length ≤ sizeLine) (hr : Room k callerA)
    (F : ∀ base : Heap, K.In base → base.Ns mainGlobals mg → GOk P w K mg base CX0 k fa fd [x] sp) (hbind : ∀ (s : Shared) (u : Value), BindsTo s fd ⟨[u], []⟩ [(x, u)])
    (hsp : ∀ H : Hp, SqL K H a (ns.map V.int) → sp [.ref a] H (fun v _ => v = .bl true) fun _ _ _ => False) :
    codeAny (model P w) callerA (.call (.ref fa) ⟨[.ref a], []⟩) (fun r s' => r = .ok (.ret (.bool true)) ∧ OldK s₁.heap s'.heap ∧ s'.os = s₁.os ∧ AllBare s'.gens) s₁ := by
  have rv := vals_ints hi
  have key : ∀ H : Hp, (∀ b, H b = none ∨ (b = a ∧ ∃ o xs, H b = some (.frz o (.lst xs)))) → SqL K H a (ns.map V.int) → HOk P w H s₁.heap → (H a ≠ none → K.lookup a = none) →
      codeAny (model P w) callerA (.call (.ref fa) ⟨[.ref a], []⟩) (fun r s' => r = .ok (.ret (.bool true)) ∧ OldK s₁.heap s'.heap ∧ s'.os = s₁.os ∧ AllBare s'.gens) s₁ := fun H only hS ok hK => by
    have free : ∀ {b : Addr} {o : Obj} {es : Array DictEntry} {ep : Nat}, s₁.heap.get? b = some o → o.data = .dict es ep → H b = none := fun {b o es ep} e d => by
      rcases only b with z | ⟨rfl, _⟩
      · exact z
      · rw [ha] at e
        cases e
        cases d
    have ns1 : ∀ {b : Addr} {m : Str → Option Value}, s₁.heap.Ns b m → (hidT s₁.heap H).Ns b m := fun {b m} z => let ⟨o, es, ep, e, d, r⟩ := z; ⟨o, es, ep, hidT_get e (free e d), d, r⟩
    have kb : K.In (hidT s₁.heap H) := fun b o e => hidT_get (KX b o e) ((only b).elim id fun ⟨z, o', xs, q⟩ => by
      subst z
      rw [hK (by rw [q]; exact fun z => nomatch z)] at e
      cases e)
    have md : Mod K mg (hidT s₁.heap H) := ⟨kb, ns1 hm, ⟨mb, ns1 hb, hbb⟩, let ⟨mc, h1, h2⟩ := hl; ⟨mc, ns1 h1, h2⟩⟩
    have e0 : Env0 P w K mg (hidT s₁.heap H) callerA [] s₁ H := ⟨rfl, md, fun b o e => of_hidT e, Nat.le_of_eq (hidT_size _ _), trivial, (fun _ z => nomatch z), ok, .of_eq hg⟩
    refine codeAny_mono ((F _ kb (ns1 hm)).go (A := callerA) (us := [.ref a]) (vs := [.ref a]) rfl hr e0 (hbind s₁ (.ref a)) (.cons rfl .nil) (hsp H hS)) fun r s' z => ?_
    cases r with
    | error e => exact False.elim z
    | ok fl =>
      cases fl with
      | next => exact False.elim z
      | brk => exact False.elim z
      | cont => exact False.elim z
      | ret u =>
        obtain ⟨v, H', os, bare, un, ok', r', q⟩ := z
        cases q
        cases r'
        refine ⟨rfl, OldK.of_keep fun b o e => ?_, os, bare⟩
        rcases only b with z | ⟨_, ob, xs, z⟩
        · exact un.keep b o e z (fun y => nomatch y) (fun y => nomatch y)
        · have e1 := (ok b _ z).1
          have e2 := (ok' b _ (un.frzs b ob _ z)).1
          rw [e] at e1
          cases e1
          exact e2
  cases hk : K.lookup a with
  | some o =>
    have e := KX a o hk
    rw [ha] at e
    cases e
    exact key (fun _ => none) (fun _ => .inl rfl) (.inr ⟨_, vs.toArray, _, hk, rfl, rfl, rfl, by rw [List.size_toArray, hi.length]; exact hn, by simpa using rv⟩) (fun b u z => nomatch z) fun z => absurd rfl z
  | none =>
    have at_a : scr a { cls := .type "list", data := .seq vs.toArray } ns a = some (.frz { cls := .type "list", data := .seq vs.toArray } (.lst (ns.map V.int))) := if_pos rfl
    refine key (scr a { cls := .type "list", data := .seq vs.toArray } ns) (fun b => ?_) (.inl (.inr ⟨_, at_a⟩)) (fun b u z => ?_) fun _ => hk
    · by_cases c : b = a
      · exact .inr ⟨c, _, _, by rw [c]; exact at_a⟩
      · exact .inl (if_neg c)
    · by_cases c : b = a
      · subst c
        rw [at_a] at z
        cases z
        exact ⟨ha, by rw [List.length_map]; exact hn, vs, _, rv, ha⟩
      · have z' := (if_neg c).symm.trans z
        cases z'
/-- the end of a law row: from the promise of its law -/
theorem walkG {l : PySem.W.OpenLaw} {n k : Nat} {q : Program} {loose : List Str} {XP : (Str → Option Value) → Heap → Prop} {YP : World → Heap → Prop} {d : DefRec} {K : Params → PySem.W.Frag} {sp : World → Sp} {x nm : Str} {st : Stmt}
    (hn : l.most = some n) (hn2 : n ≤ sizeLine) (hdf : d.params.defaults = []) (hr : Room k callerA) (hY : ∀ (w : World) (h : Heap), YP w h → (K w.params).In h) (hnm : d.name = nm) (hb : PosB nm st [x])
    (F : ∀ (w : World) (mg : Str → Option Value) (h : Heap), (K w.params).In h → h.Ns mainGlobals mg → ∀ base : Heap, (K w.params).In base → base.Ns mainGlobals mg → PrG l.prog w (K w.params) mg base CX0 k nm st [x] (sp w))
    (hsp : ∀ (w : World) (H : Hp) (a : Addr) (ns : List Int), ns.length ≤ n → SqL (K w.params) H a (ns.map V.int) → sp w [.ref a] H (fun v _ => v = .bl true) fun _ _ _ => False) :
    PySem.W.WalkO q loose XP YP l.row.toRowW d [] (fun f vs => PySem.call f vs) := by
  refine Att.attach_call hn hdf fun w s₀ s₁ mg mb fa o pm cd doc a vs ns G Y ho hd hcd hmg hobj hints hlen hg => ?_
  have KX := hY w _ Y
  obtain ⟨f, fd, m, Z, _⟩ := (F w mg _ KX G.T.g _ KX G.T.g).ex
  rw [hnm, m] at hmg
  cases hmg
  refine law_goG (x := x) (fd := fd) KX G.T.g G.T.b G.T.builtins G.T.nolimit hg hobj hints (Nat.le_trans hlen hn2) hr (fun base kb nb => ?_) (fun s u => ?_) fun H hS => hsp w H a ns hlen hS
  · obtain ⟨f', fd', m', Z', F'⟩ := (F w mg _ KX G.T.g base kb nb).ex
    rw [m] at m'
    cases m'
    obtain ⟨_, _, _, _, _, _, _, _, _, rfl, l1, _⟩ := Z.ex
    obtain ⟨_, _, _, _, _, _, _, _, _, rfl, l2, _⟩ := Z'.ex
    rw [l1] at l2
    cases l2
    exact F'
  · obtain ⟨_, _, kV, doc, pm, an, cdv, ct, _, rfl, _, _⟩ := Z.ex
    exact .of_eq (hb kV doc pm an cdv ct [u] rfl)
end Gx
namespace Gx
open PySem PySem.Spec PyProof.Rows L2
/-! ### the module's error classes -/
/-- the address that a name of the module stands for -/
def cl (mg : Str → Option Value) (x : Str) : Addr := match mg x with
  | some (.ref a) => a
  | _ => 0
theorem cl_of {mg : Str → Option Value} {x : Str} {a : Addr} (h : mg x = some (.ref a)) : cl mg x = a := by unfold cl; rw [h]
/-- a class that is asked for -/
structure ClsAt (K : PySem.W.Frag) (mg : Str → Option Value) (x : Str) : Prop where
  g : mg x = some (.ref (cl mg x))
  ty : PySem.W.typeIn K (.ref (cl mg x)) = some (.type "type")
  is : PySem.W.isClsIn K (cl mg x) = true
  ex : PySem.W.subIn K (.ref (cl mg x)) (.type "BaseException") = some true
  me : PySem.W.subIn K (.ref (cl mg x)) (.ref (cl mg x)) = some true
theorem ClsAt.of {K : PySem.W.Frag} {mg : Str → Option Value} {x : Str} {C : Addr} (h : mg x = some (.ref C)) (h1 : PySem.W.typeIn K (.ref C) = some (.type "type")) (h2 : PySem.W.isClsIn K C = true)
    (h3 : PySem.W.subIn K (.ref C) (.type "BaseException") = some true) (h4 : PySem.W.subIn K (.ref C) (.ref C) = some true) : ClsAt K mg x := by
  have e := cl_of h
  refine ⟨?_, ?_, ?_, ?_, ?_⟩ <;> rw [e] <;> assumption
/-- whether x's objects are of the class y -/
def SubAt (K : PySem.W.Frag) (mg : Str → Option Value) (x y : Str) (b : Bool) : Prop := PySem.W.subIn K (.ref (cl mg x)) (.ref (cl mg y)) = some b
theorem SubAt.of {K : PySem.W.Frag} {mg : Str → Option Value} {x y : Str} {C D : Addr} {b : Bool} (h : mg x = some (.ref C)) (h' : mg y = some (.ref D)) (s : PySem.W.subIn K (.ref C) (.ref D) = some b) : SubAt K mg x y b := by
  unfold SubAt
  rw [cl_of h, cl_of h']
  exact s
theorem ClsAt.known {K : PySem.W.Frag} {mg : Str → Option Value} {x : Str} (T : ClsAt K mg x) : KnownAt mg x (.ref (cl mg x)) := ⟨_, T.g, rfl⟩
section
variable {K : PySem.W.Frag} {mg : Str → Option Value} {x y : Str} {b : Bool}
theorem SubAt.cls (s : SubAt K mg x y b) (T : ClsAt K mg y) : PySem.W.kitCls K (.ref (cl mg x)) (.ref (cl mg y)) = some b := by
  have e : ((PySem.W.clsIn K (cl mg y)).isSome && PySem.W.typeIn K (.ref (cl mg y)) == some (.type "type")) = true := by
    rw [T.ty, show (PySem.W.clsIn K (cl mg y)).isSome = true from T.is]
    rfl
  show (if ((PySem.W.clsIn K (cl mg y)).isSome && PySem.W.typeIn K (.ref (cl mg y)) == some (.type "type")) = true then PySem.W.subIn K (.ref (cl mg x)) (.ref (cl mg y)) else none) = some b
  rw [if_pos e]
  exact s
theorem SubAt.one (s : SubAt K mg x y b) (T : ClsAt K mg y) : PySem.W.kitOne K (.ref (cl mg x)) (.ref (cl mg y)) = some b := by
  unfold PySem.W.kitOne
  by_cases c : cl mg x = cl mg y
  · have s' : PySem.W.subIn K (.ref (cl mg x)) (.ref (cl mg y)) = some b := s
    rw [c, T.me] at s'
    rw [c, if_pos (beq_self_eq_true _)]
    exact s'
  · rw [if_neg fun z => c (Value.ref.inj (beq_iff_eq.mp z))]
    exact s.cls T
theorem SubAt.exm (s : SubAt K mg x y b) (T : ClsAt K mg y) : PySem.W.exmOne K (.ref (cl mg x)) (.ref (cl mg y)) = some b := by
  unfold PySem.W.exmOne
  rw [T.ex, if_pos (beq_self_eq_true _)]
  exact s.cls T
end
theorem kit_blt {K : PySem.W.Frag} {C : Addr} {n : String} {b : Bool} (s : PySem.W.subIn K (.ref C) (.type n) = some b) (m : PySem.W.kitMeta n = true) : PySem.W.kitOne K (.ref C) (.type n) = some b := by
  show (if (Value.ref C == Value.type n) = true then _ else if PySem.W.kitMeta n = true then PySem.W.subIn K (.ref C) (.type n) else none) = some b
  rw [if_neg (by simp), if_pos m]
  exact s
/-- an error class whose objects are made, by its own __init__ -/
structure ErrAt (K : PySem.W.Frag) (mg : Str → Option Value) (x : Str) (qual : Str) (st : Stmt) : Prop where
  oex : OexC K (cl mg x)
  ga : PySem.W.findIn K (.ref (cl mg x)) "__getattribute__" = some (some (.builtin "BaseException.__getattribute__"))
  gg : PySem.W.findIn K (.ref (cl mg x)) "__getattr__" = some none
  gc : PySem.W.findIn K (.ref (cl mg x)) "__class__" = some (some (.builtin "object.__class__"))
  gn : PySem.W.specialIn K (.builtin "object.__class__") "__get__" = some (some (.builtin "getset_descriptor.__get__"))
  gt : PySem.W.takesIn K (.builtin "object.__class__") = some true
  gm : PySem.W.mroIn K (cl mg x) (.type "object") = some true
  hd : PySem.W.hasDictIn K (cl mg x) = true
  ini : ∃ f fd, PySem.W.findIn K (.ref (cl mg x)) "__init__" = some (some (.ref f)) ∧ PySem.W.typeIn K (.ref f) = some (.type "function") ∧ Fun K "__init__" qual st f fd
theorem ErrAt.of {K : PySem.W.Frag} {mg : Str → Option Value} {x qual : Str} {st : Stmt} {C f : Addr} {fd : FuncData} {nm q : Str} {N : Addr} {bs bm : List Value} {sn : List Str} {sub : List Value} {ab : Bool} {col : Option Bool} {dd : Option Addr} {k0 k1 k2 k3 k5 : Option Value}
    (h : mg x = some (.ref C)) (l : K.lookup C = some (excClassObj nm q C N bs bm true sn sub ab col dd k0 k1 k2 k3 k5 "ValueError.__new__")) (r : PySem.HandSPX.refsVE bm = true)
    (sa : PySem.W.findIn K (.ref C) "__setattr__" = some (some (.builtin "object.__setattr__"))) (ex : PySem.W.subIn K (.ref C) (.type "BaseException") = some true) (ty : PySem.W.typeIn K (.ref C) = some (.type "type")) (kp : PySem.W.keepIn K (.ref C) = true)
    (ga : PySem.W.findIn K (.ref C) "__getattribute__" = some (some (.builtin "BaseException.__getattribute__"))) (gg : PySem.W.findIn K (.ref C) "__getattr__" = some none) (gc : PySem.W.findIn K (.ref C) "__class__" = some (some (.builtin "object.__class__")))
    (gn : PySem.W.specialIn K (.builtin "object.__class__") "__get__" = some (some (.builtin "getset_descriptor.__get__"))) (gt : PySem.W.takesIn K (.builtin "object.__class__") = some true) (gm : PySem.W.mroIn K C (.type "object") = some true) (hd : PySem.W.hasDictIn K C = true)
    (i1 : PySem.W.findIn K (.ref C) "__init__" = some (some (.ref f))) (i2 : PySem.W.typeIn K (.ref f) = some (.type "function")) (i3 : Fun K "__init__" qual st f fd) : ErrAt K mg x qual st := by
  have e := cl_of h
  refine ⟨?_, ?_, ?_, ?_, gn, gt, ?_, ?_, f, fd, ?_, i2, i3⟩ <;> rw [e]
  · exact ⟨⟨nm, q, N, bs, bm, sn, sub, ab, col, dd, k0, k1, k2, k3, k5, l, r⟩, sa, ex, ty, kp⟩
  all_goals assumption
theorem ErrAt.xf {K : PySem.W.Frag} {mg : Str → Option Value} {x qual : Str} {st : Stmt} (T : ErrAt K mg x qual st) : XfC K (cl mg x) := ⟨T.ga, T.gg, T.oex.exC, T.hd⟩
/-- a method of a class's text -/
def meth (s : Stmt) (i : Nat) : Stmt := match s with
  | .ClassDef _ _ _ b _ _ _ _ _ _ _ => b.getD i (.Pass ⟨0, 0, 0, 0⟩)
  | _ => .Pass ⟨0, 0, 0, 0⟩
/-- positional arguments, all of them -/
def PosQ (x qual : Str) (st : Stmt) (ps : List Str) : Prop := ∀ (kV doc pm : Value) (an : Option Addr) (cdv ct : Value) (us : List Value), us.length = ps.length →
  bindArgs (PySem.W.fnOf x qual (defArgs st) (defBody st) (defScope st) .none kV doc pm an cdv ct) ⟨us, []⟩ = pure (ps.zip us)
/-! ### raise X(e), X's __init__ sets one field -/
/-- what such an __init__ keeps -/
def spInit (K : PySem.W.Frag) (C : Addr) (fld : Str) : Sp := fun vs H Q _ => ∃ a v, vs = [.ref a, v] ∧ H a = some (exo a C none) ∧ OexC K C ∧ PySem.W.findIn K (.ref C) fld = some none ∧
  ∀ d, H d = none → d ≠ a → Q .non (upd (upd H d (exd d [(fld, v)])) a (exo a C (some d)))
section
variable {P : Program} {w : World} {K : PySem.W.Frag} {mg : Str → Option Value} {base : Heap}
theorem init_ok {qual fld p1 p2 : Str} {st : Stmt} {f : Addr} {fd : FuncData} {C : Addr} (F : Fun K "__init__" qual st f fd) (S : FnScope [p1, p2] [p1, p2] (defScope st))
    (body : ∀ (cdv : Value) (A : Around) (outer : List Env) (s : Shared) (H : Hp) (E : XK), PSs (cxOf CX0 P w K mg base [p1, p2] qual (defScope st) f cdv A outer s H E).nox (defBody st) (fun D σ H => tOst K fld (tVar 0) (tVar 1) D σ H)) :
    FnOk P w K mg base CX0 1 f fd [p1, p2] (spInit K C fld) := by
  refine F.ok S (fun vs H Q E h => ?_) fun cdv A outer s H vs Q E hr h => ?_
  · obtain ⟨a, v, rfl, _⟩ := h
    rfl
  · obtain ⟨a, v, rfl, ha, T, hn, q⟩ := h
    exact ⟨_, body cdv A outer s H E, v, rfl, _, rfl, a, C, rfl, T, hn, .inl ⟨ha, fun d n ne => q d n ne⟩⟩
end
/-- a reading, made monotone -/
def tM (te : TE) : TE := fun σ H Q => ∃ R : VK, te σ H R ∧ ∀ v H', R v H' → Q v H'
theorem pe_mo {X : Cx} {e : Expr} {te : TE} (he : PE X e te) : PE X e (tM te) := by
  refine ⟨fun pins s σ H Q I h => ?_⟩
  obtain ⟨R, h, k⟩ := h
  refine wpAny_mono (he.run pins s σ H R I h) (fun u s' z => ?_) fun _ _ z => z
  exact let ⟨v, H', J, r, q⟩ := z; ⟨v, H', J, r, k v H' q⟩
/-- the wish of a made error: its one field's value -/
def tErr (C : Addr) (fld : Str) (te : TE) : L2.St → Hp → XK → Prop := fun σ H Q => te σ H fun v H1 => ∀ d, H1 d = none → Q (.ref C) (some d) (upd H1 d (.xd [(fld, v)]))
section
variable {X : Cx} {x qual fld p1 p2 : Str} {st : Stmt} {k : Nat} {e : Expr} {te : TE} {p pos : Pos}
theorem pmk_err (T : ErrAt X.K X.mg x qual st) (G : ClsAt X.K X.mg x) (hn : PySem.W.findIn X.K (.ref (cl X.mg x)) fld = some none) (hr : Room k X.A) (hk : 2 ≤ k) (S : FnScope [p1, p2] [p1, p2] (defScope st)) (hq : PosQ "__init__" qual st [p1, p2])
    (body : ∀ (f : Addr) (cdv : Value) (A : Around) (outer : List Env) (s : Shared) (H : Hp) (E : XK), PSs (cxOf CX0 X.prog X.w X.K X.mg X.base [p1, p2] qual (defScope st) f cdv A outer s H E).nox (defBody st) (fun D σ H => tOst X.K fld (tVar 0) (tVar 1) D σ H))
    (hg : Gl X x) (he : PE X e te) (n0 : (x == ("__debug__" : Str)) = false := by decide) (n1 : starEach [e] X.env = (false, eval e X.env) :: starEach [] X.env := by rfl) (n2 : (backTo pos (starEach [] X.env)).any (·.1) = false := by rfl) :
    PMk X (.Call (.Name x p) [e] [] pos) (tErr (cl X.mg x) fld te) := by
  obtain ⟨f, fd, i1, i2, F⟩ := T.ini
  have F1 := init_ok (P := X.prog) (w := X.w) (mg := X.mg) (base := X.base) (C := cl X.mg x) F S (body f)
  intro pins s σ H Q I h
  refine pmk_oex T.oex i1 i2 F1 (hr.mono hk) (F.binds hq) .nil pass0 hg G.g (pa_cons (pe_mo he) pa_nil n1) n0 n1 n2 pins s σ H Q I ?_
  refine ⟨_, h, fun v H1 q => ⟨(by decide : 1 ≤ 1000), fun a ha => ⟨a, v, rfl, upd_same, T.oex, hn, fun d n ne => ⟨rfl, d, [(fld, v)], upd_same, ?_, ?_, ?_⟩⟩⟩⟩
  · rw [upd_ne ne]
    exact upd_same
  · rw [upd_ne ne] at n
    exact n
  · rw [upd_ne ne] at n
    have z : upd (del (upd (upd (upd H1 a (exo a (cl X.mg x) none)) d (exd d [(fld, v)])) a (exo a (cl X.mg x) (some d))) a) d (.xd [(fld, v)]) = upd H1 d (.xd [(fld, v)]) := by
      funext b
      by_cases c : b = d
      · rw [c, upd_same, upd_same]
      · rw [upd_ne c, upd_ne c]
        by_cases c2 : b = a
        · rw [c2, del_same, ha]
        · rw [del_ne c2, upd_ne c2, upd_ne c, upd_ne c2]
    rw [z]
    exact q d n
end
/-! ### defs that may raise, their calls -/
section
variable {P : Program} {w : World} {K : PySem.W.Frag} {mg : Str → Option Value} {base : Heap} {k : Nat} {x : Str} {st : Stmt} {ps N : List Str} {sp : Sp}
theorem DefAt.okX (D : DefAt K mg x st) (S : FnScope N ps (defScope st)) (len : ∀ vs H Q E, sp vs H Q E → vs.length = ps.length)
    (body : ∀ (f : Addr) (cdv : Value) (A : Around) (outer : List Env) (s : Shared) (H : Hp) (vs : List V) (Q : VK) (E : XK), Room k (A.deeper (envOfC x (defScope st) s.heap.objs.size f cdv)) → sp vs H Q E →
      ∃ t, PSs (cxOf (L2.CX P w) P w K mg base N x (defScope st) f cdv A outer s H E) (defBody st) t ∧ t { nx := fun _ H' => Q .non H', rt := Q } (start N vs) H) : Pr P w K mg base (L2.CX P w) (k + 1) x st ps sp := by
  obtain ⟨f, fd, m, F⟩ := D
  exact ⟨f, fd, m, F, F.okX S len fun cdv A outer s H vs Q E => body f cdv A outer s H vs Q E⟩
end
section
variable {X : Cx} {j k : Nat} {st : Stmt} {ps ks : List Str} {sp : Sp} {W : WX} {x : Str} {p pos : Pos} {e : Expr} {es : List Expr} {kws : List Keyword} {t tk : TA} {g : {α : Type} → List α → List α}
/-- f(..) in a try's body -/
theorem pe_posS (F : Pr X.prog X.w X.K X.mg X.base (L2.CX X.prog X.w) k x st ps sp) (hr : Room j X.A) (hk : k ≤ j) (hg : Gl X x) (hb : PosB x st ps) (tk : Takes X W) (ha : PA X (e :: es) t) (n0 : (x == ("__debug__" : Str)) = false := by decide)
    (n1 : starEach (e :: es) X.env = (false, eval e X.env) :: starEach es X.env := by rfl) (n2 : (backTo pos (starEach es X.env)).any (·.1) = false := by rfl) : PE X (.Call (.Name x p) (e :: es) [] pos) (tCallS sp (WE W) t) := by
  obtain ⟨f, fd, m, Z, F⟩ := F.ex
  exact pe_callS F (hr.mono hk) hg m Z.kp (Z.binds hb) (fun σ => passAt tk σ) ha n0 n1 n2
def tKwS (sp : Sp) (n : Nat) (g : {α : Type} → List α → List α) (W : WX) (t : TA) : TE := fun σ H Q => t σ H fun vs H1 => vs.length = n ∧ sp (g vs) H1 Q (WE W σ)
/-- f(a = .., b = ..) in a try's body -/
theorem pe_kwS (F : Pr X.prog X.w X.K X.mg X.base (L2.CX X.prog X.w) k x st ps sp) (hr : Room j X.A) (hk : k ≤ j) (hg : Gl X x) (hb : KwB x st ps ks g) (tw : Takes X W) (hkw : PK X kws tk)
    (n1 : (backToKw pos (keywordEach kws X.env)).all (·.1.isSome) = true := by rfl) (n2 : (backToKw pos (keywordEach kws X.env)).filterMap (·.1) = ks := by rfl) (n0 : (x == ("__debug__" : Str)) = false := by decide)
    (n3 : ((backTo pos (starEach [] X.env)).any (·.1) || (backToKw pos (keywordEach kws X.env)).any (·.1.isNone)) = false := by rfl) : PE X (.Call (.Name x p) [] kws pos) (tKwS sp ks.length g W tk) := by
  obtain ⟨f, fd, m, Z, F⟩ := F.ex
  constructor
  intro pins s σ H Q I h
  refine wpAny_Call_Name_kw (ld_glob I hg m ?_ n0)
  refine PySem.W.callWith_KW0 (h₀ := X.base) I.ok.mod.kin Z.kp n1 ?_ n3
  refine thn (hkw.run pos pins s σ H _ I h) fun ws s2 ⟨vs, H2, I2, r, l, q⟩ => ⟨I2.kIn, ?_⟩
  rw [n2]
  obtain ⟨oc, od, kV, doc, pm, an, cdv, ct, osl, rfl, _, _⟩ := Z.ex
  refine wpAny_call (codeAny_mono (F.run X.A X.stack s2 H2 ⟨[], ks.zip ws⟩ (g ws) (g vs) Q (WE W σ) (hr.mono hk) I2.env0 (.of_eq (hb.to kV doc pm an cdv ct ws (r.length.symm.trans l))) (hb.rel r) q) fun res s' z => ?_)
  cases res with
  | error er => exact passAt tw σ pins H2 s2 er s' I2 z
  | ok fl =>
    cases fl with
    | ret u => exact I2.after z
    | next => exact False.elim z
    | brk => exact False.elim z
    | cont => exact False.elim z
end
/-! ### defs that are called while an error is handled; nothing leaves them -/
section
variable (P : Program) (w : World) (K : PySem.W.Frag) (mg : Str → Option Value) (base : Heap)
structure PrP (k : Nat) (x : Str) (st : Stmt) (ps : List Str) (sp : Addr → Value → Option Addr → Sp) : Prop where
  ex : ∃ f fd, mg x = some (.ref f) ∧ Fun K x x st f fd ∧ (∀ a cls d vs H Q E, sp a cls d vs H Q E → vs.length = ps.length) ∧
    ∀ (A : Around) (outer : List Env) (s : Shared) (H : Hp) (us : List Value) (vs : List V) (Q : VK) (p : Addr × Obj) (cls : Value) (d : Option Addr), Zc cls d p.2 → (∃ vs, p.2.data = .fields vs) → L2H.RoomH k A → L2H.PinOk outer H s p → Env0 P w K mg base A outer s H →
      BindsTo s fd ⟨us, []⟩ (ps.zip us) → Vals vs us → sp p.1 cls d vs H Q E0 → codeAny (model P w) A (.call (.ref f) ⟨us, []⟩) (CR CX0 outer P w H s Q E0) s
end
section
variable {P : Program} {w : World} {K : PySem.W.Frag} {mg : Str → Option Value} {base : Heap} {k : Nat} {x : Str} {st : Stmt} {ps N : List Str} {sp : Addr → Value → Option Addr → Sp}
theorem DefAt.okP (D : DefAt K mg x st) (S : FnScope N ps (defScope st)) (len : ∀ a cls d vs H Q E, sp a cls d vs H Q E → vs.length = ps.length)
    (body : ∀ (f : Addr) (cdv : Value) (A : Around) (outer : List Env) (s : Shared) (H : Hp) (vs : List V) (Q : VK) (p : Addr × Obj) (cls : Value) (d : Option Addr), Zc cls d p.2 → (∃ vs, p.2.data = .fields vs) → L2H.RoomH k (A.deeper (envOfC x (defScope st) s.heap.objs.size f cdv)) → sp p.1 cls d vs H Q E0 →
      ∃ t, PSs (L2H.cxH CX0 P w K mg base N x (defScope st) f cdv A outer s H E0 p).nox (defBody st) t ∧ t { nx := fun _ H' => Q .non H', rt := Q } (start N vs) H) : PrP P w K mg base (k + 1) x st ps sp := by
  obtain ⟨f, fd, m, F⟩ := D
  refine ⟨f, fd, m, F, len, fun A outer s H us vs Q p cls d hz hf hr pin e0 hb r hsp => ?_⟩
  obtain ⟨oc, od, kV, doc, pm, an, cdv, ct, osl, rfl, lk, hcd⟩ := F.ex
  have up : ∀ b o, base.get? b = some o → s.heap.get? b = some o := fun b o e => (e0.bs b o e).1
  have inK : K.In s.heap := e0.mod.kin.keeps up
  have nl : s.heap.NoLimit := e0.mod.nolimit.keeps up
  refine codeAny_call_function hr.depth (inK _ _ lk) rfl S.co S.gen rfl (PySem.W.codeRec_of inK hcd) (hb _ _ _ _ ?_)
  refine wpAny_newFunctionEnv_cells S.kind (fun y hy => (S.par y.1 (List.of_mem_zip hy).1).imp id fun z => ⟨z, PySem.W.cellsFrom_some _ _ _ (.inl z)⟩) fun env he s1 new => ?_
  cases he
  obtain ⟨t, ht, q⟩ := body f cdv A outer s H vs Q p cls d hz hf (hr.deeper _) hsp
  have I := L2H.inv_startH (CX := CX0) (P := P) (w := w) (K := K) (mg := mg) (base := base) (E := E0) S pin e0 (len _ _ _ vs H Q E0 hsp) r new
  refine ⟨nl.keeps new.toInCall.keep, codeAny_func (wpAny_mono (ht.nox.run [] s1 _ H _ I q) (fun fl s' z => ?_) fun _ _ z => z)⟩
  cases fl with
  | next => exact let ⟨_, H', J, z⟩ := z; ⟨V.non, H', J.os, J.bare, J.base, J.hok, rfl, z⟩
  | ret u => exact let ⟨v, _, H', J, rv, z⟩ := z; ⟨v, H', J.os, J.bare, J.base, J.hok, rv, z⟩
  | brk => exact False.elim (let ⟨_, _, _, z⟩ := z; z)
  | cont => exact False.elim (let ⟨_, _, _, z⟩ := z; z)
end
theorem roomM {k : Nat} {A : Around} {h : Option Value} (r : Room k A) : L2H.RoomH k (A.mark h) := ⟨r.dp, r.un⟩
section
variable {X : Cx} {j k : Nat} {st : Stmt} {ps : List Str} {sp : Addr → Value → Option Addr → Sp} {x : Str} {p pos : Pos} {e : Expr} {es : List Expr} {t : TA} {a : Addr} {oe : Obj} {cls : Value} {d : Option Addr}
theorem pe_posP (F : PrP X.prog X.w X.K X.mg X.base k x st ps sp) (hr : L2H.RoomH j X.A) (hk : k ≤ j) (hp : (a, oe) ∈ X.pn) (hz : Zc cls d oe) (hf : ∃ vs, oe.data = .fields vs) (hg : Gl X x) (hb : PosB x st ps) (ha : PA X (e :: es) t) (n0 : (x == ("__debug__" : Str)) = false := by decide)
    (n1 : starEach (e :: es) X.env = (false, eval e X.env) :: starEach es X.env := by rfl) (n2 : (backTo pos (starEach es X.env)).any (·.1) = false := by rfl) : PE X (.Call (.Name x p) (e :: es) [] pos) (tCall (sp a cls d) [] E0 t) := by
  obtain ⟨f, fd, m, Z, len, F⟩ := F.ex
  constructor
  intro pins s σ H Q I h
  refine wpAny_Call_Name_kw (ld_glob I hg m ?_ n0)
  refine PySem.W.callWith_K (h₀ := X.base) I.ok.mod.kin Z.kp (thn (ha.run pos pins s σ H _ I h) fun us s1 ⟨vs, H1, I1, r, q⟩ => ⟨I1.kIn, ?_⟩) n1 n2
  have q : sp a cls d (vs ++ []) H1 Q E0 := q
  rw [List.append_nil] at q
  have many : (us ++ []).length = ps.length := by rw [List.append_nil, ← r.length]; exact len _ _ _ _ _ _ _ q
  have bb := (Z.binds hb) s1 us I1.kIn many
  rw [List.append_nil] at bb
  obtain ⟨p1, p2, p3, p4, p5⟩ := I1.pin (a, oe) (List.mem_append_left _ hp)
  have ok : L2H.PinOk X.stack H1 s1 (a, oe) := ⟨p1, p2, fun z => (List.mem_cons.mp (I1.stkSub a z)).elim p3 p4, p5⟩
  refine wpAny_call (codeAny_mono (F X.A X.stack s1 H1 us vs Q (a, oe) cls d hz hf (hr.mono hk) ok I1.env0 bb r q) fun res s' z => ?_)
  cases res with
  | error er => exact False.elim z
  | ok fl =>
    cases fl with
    | ret u => exact I1.after z
    | next => exact False.elim z
    | brk => exact False.elim z
    | cont => exact False.elim z
end
/-! ### isinstance of an error that is handled -/
/-- a handled error, of the class cls with the dict d, is one of the class x, with these fields -/
def ErrOf (mg : Str → Option Value) (x : Str) (cls : Value) (d : Option Addr) (H : Hp) (fs : List (Str × V)) : Prop := cls = .ref (cl mg x) ∧ ∃ dd, d = some dd ∧ H dd = some (.xd fs)
section
variable {X : Cx} {pins : List (Addr × Obj)} {σ : L2.St} {H : Hp} {s : Shared}
theorem ErrOf.kit {x qual : Str} {st : Stmt} {p : Addr × Obj} {fs : List (Str × V)} {cls : Value} {d : Option Addr} (T : ErrAt X.K X.mg x qual st) (h : ErrOf X.mg x cls d H fs) (hp : p ∈ X.pn) (hz : Zc cls d p.2) (hf : ∃ vs, p.2.data = .fields vs) (I : Inv X pins σ H s) :
    ∃ Z : Heap → Prop, PySem.W.KitX X.K (.ref p.1) (.ref (cl X.mg x)) Z ∧ Z s.heap := by
  obtain ⟨rfl, dd, rfl, hd⟩ := h
  obtain ⟨vs, hv⟩ := hf
  have hx : ObjOk X.prog X.w H s.heap dd (.xd fs) := I.hok dd _ hd
  obtain ⟨mA, hns, _⟩ := hx
  obtain ⟨od, ho, _⟩ := lookIn_ns hns
  obtain ⟨h1, _⟩ := I.pin p (List.mem_append_left _ hp)
  have isC : (PySem.W.clsIn X.K (cl X.mg x)).isSome = true := by
    have z := T.hd
    unfold PySem.W.hasDictIn at z
    cases c : PySem.W.clsIn X.K (cl X.mg x) with
    | none => rw [c] at z; cases z
    | some _ => rfl
  refine ⟨fun h => PySem.W.InstAt h p.1 p.2 (cl X.mg x) (some od), PySem.W.kitx_exc isC T.ga T.gg T.oex.exC T.gc T.gn T.gt T.gm, h1, hz.1, ?_, ?_⟩
  · unfold PySem.W.notCls
    rw [hv]
  · rw [hz.2]
    exact ho
end
/-- isinstance(e, c) and isinstance(e, (c1, c2, ..)), e the handled error at a -/
def rIsP (K : PySem.W.Frag) (mg : Str → Option Value) (a : Addr) (cls : Value) (d : Option Addr) : List V → Hp → VK → Prop := fun xs H Q => ∃ (x qual : Str) (st : Stmt) (fs : List (Str × V)) (c : V) (b : Bool), xs = [.ref a, c] ∧ ErrAt K mg x qual st ∧ ErrOf mg x cls d H fs ∧
  ((∃ u, ClsV c u ∧ PySem.W.kitOne K (.ref (cl mg x)) u = some b) ∨ ∃ (tp : Addr) (cs : List V) (us : List Value), c = .ref tp ∧ H tp = some (.tup cs) ∧ Paired ClsV cs us ∧ PySem.W.kitAny K (.ref (cl mg x)) us = some b) ∧ Q (.bl b) H
theorem call_isP {X : Cx} {a : Addr} {oe : Obj} {cls : Value} {d : Option Addr} (hp : (a, oe) ∈ X.pn) (hz : Zc cls d oe) (hf : ∃ vs, oe.data = .fields vs) : CallR X (.builtin "isinstance") (rIsP X.K X.mg a cls d) := by
  intro pins s σ H xs us Q I r h
  obtain ⟨x, qual, st, fs, c, b, rfl, T, he, hc, q⟩ := h
  obtain ⟨w1, u2, rfl, r1, r2⟩ := vals2 r
  cases (show w1 = Value.ref a from r1)
  obtain ⟨Z, kit, at_⟩ := he.kit (p := (a, oe)) T hp hz hf I
  rcases hc with ⟨u, kc, e⟩ | ⟨tp, cs, ws, rfl, hT, kc, e⟩
  · cases kc.eq r2
    exact PySem.W.kia_one kit I.kIn at_ e (fun z => nomatch z) fun tk => ⟨.bl b, H, I.tok tk, rfl, q⟩
  · cases (show u2 = .ref tp from r2)
    have ot : ObjOk X.prog X.w H s.heap tp (.tup cs) := I.hok tp _ hT
    obtain ⟨_, its, rv, ⟨oc, od, dt, sl⟩, h1, h2, n, h3⟩ := ot
    cases ClsV.all kc rv
    cases h2
    cases h3
    exact PySem.W.kia_tup kit I.kIn at_ h1 e (fun z => nomatch z) fun tk => ⟨.bl b, H, I.tok tk, rfl, q⟩
end Gx
namespace Gx
open PySem PySem.Spec PyProof.Rows L2
/-! ### try with several clauses, with or without names -/
/-- behind a suite whose clause has a name in slot i, the slot is empty -/
def goneD (D : Ends) : Option Nat → Ends
  | none => D
  | some i => { nx := fun σ H => D.nx (σ.set i none) H, rt := D.rt, bk := fun σ H => D.bk (σ.set i none) H, ct := fun σ H => D.ct (σ.set i none) H }
def boundS (σ : L2.St) (a : Addr) : Option Nat → L2.St
  | none => σ
  | some i => σ.set i (some (.ref a))
/-- a clause: its class, its name's slot, its suite -/
abbrev Cla := Value × Option Nat × (Addr → Value → Option Addr → TS)
/-- what the clauses wish of an error -/
def wCla (K : PySem.W.Frag) (Wout : WX) (D : Ends) : List Cla → WX
  | [] => Wout
  | (c, i, ts) :: r => fun cls d σ H => ∃ b, PySem.W.exmOne K cls c = some b ∧ (b = true → ∀ a, H a = none → ts a cls d (goneD D i) (boundS σ a i) H) ∧ (b = false → wCla K Wout D r cls d σ H)
inductive Clas (X : Cx) : List ExceptHandler → List Cla → Prop
  | nil : Clas X [] []
  | as {x n : Str} {c : Value} {i : Nat} {ts : Addr → Value → Option Addr → TS} {b₀ : Stmt} {suite : List Stmt} {np pos : Pos} {hds : List ExceptHandler} {l : List Cla} (hi : X.N[i]? = some n) (hl : X.env.kindOf n = some .local) (hc : Names X x c)
      (hs : ∀ (a : Addr) (oe : Obj) (cls : Value) (d : Option Addr) (pn : List (Addr × Obj)), Zc cls d oe → (∃ vs, oe.data = .fields vs) → PSs (X.suite a ((a, oe) :: pn)) (b₀ :: suite) (ts a cls d))
      (r : Clas X hds l) : Clas X (.ExceptHandler (some (.Name x np)) (some n) (b₀ :: suite) pos :: hds) ((c, some i, ts) :: l)
  | no {x : Str} {c : Value} {ts : Addr → Value → Option Addr → TS} {b₀ : Stmt} {suite : List Stmt} {np pos : Pos} {hds : List ExceptHandler} {l : List Cla} (hc : Names X x c)
      (hs : ∀ (a : Addr) (oe : Obj) (cls : Value) (d : Option Addr) (pn : List (Addr × Obj)), Zc cls d oe → (∃ vs, oe.data = .fields vs) → PSs (X.suite a ((a, oe) :: pn)) (b₀ :: suite) (ts a cls d))
      (r : Clas X hds l) : Clas X (.ExceptHandler (some (.Name x np)) none (b₀ :: suite) pos :: hds) ((c, none, ts) :: l)
section
variable {X : Cx} {pins : List (Addr × Obj)} {σ : L2.St} {H : Hp} {s : Shared}
/-- the clauses, one after another, of an error that has landed -/
theorem cla_go {Wout : WX} {D : Ends} {a : Addr} {B : Heap} {cls : Value} {d : Option Addr} {sI s' : Shared} (hs : X.stack = X.env :: X.outer) (hf : X.env.frame = some X.env.locals) (hN : X.N.Nodup) (tk : Takes X Wout) (J : Inv X pins σ H sI)
    (nb : ∀ b o, sI.heap.get? b = some o → b ∉ frs X.stack → B.get? b = some o) (os : s'.os = sI.os) (ag : AllBare s'.gens) (na : H a = none) (up : sI.heap.UpToSlots s'.heap)
    (fl : HandSPX.FlyingZ B (X.env :: X.outer) a (Zc cls d) s'.heap) : ∀ {hds : List ExceptHandler} {l : List Cla}, Clas X hds l → wCla X.K Wout D l cls d σ H →
    wpAny (model X.prog X.w) X.A (handleBy (.ref a) X.env hds) (SP X pins D) X.xe s' := by
  have ok := J.ok
  have J3 : Inv X pins σ H s' := J.landed nb fl.1 up os ag
  obtain ⟨oe, vs, he, hz, hd⟩ := fl.there
  have out : a ∉ frs (X.env :: X.outer) := fun z => by
    obtain ⟨_, o, h1, h2⟩ := fl.2.2.1.mem z
    rw [he] at h1
    cases h1
    exact h2 _ hd
  have nL : a ≠ X.env.locals := fun z => out (List.mem_filterMap.mpr ⟨X.env, List.mem_cons_self, by rw [hf, z]⟩)
  have nF : a ∉ X.fs := fun z => by
    obtain ⟨e, h1, h2⟩ := List.mem_filterMap.mp z
    exact out (List.mem_filterMap.mpr ⟨e, List.mem_cons_of_mem _ h1, h2⟩)
  have S3 := J3.suite he hd na nL nF
  have ask : ∀ {x : Str} {c : Value} {np : Pos} {Q : Value → Shared → Prop} {E : Value → Shared → Prop}, Names X x c → Q c s' → wpAny (model X.prog X.w) (X.A.mark (some (.ref a))) (eval (.Name x np) X.env) Q E s' := fun {x c np Q E} hc q => by
    obtain ⟨hg, hdb, m | ⟨m, v, nn⟩⟩ := hc
    · exact ld_glob (X := X.suite a ((a, oe) :: (X.pn ++ pins))) S3 hg m q hdb
    · exact ld_blt (X := X.suite a ((a, oe) :: (X.pn ++ pins))) S3 hg m v q nn hdb
  have seen : PySem.W.Looks (model X.prog X.w) s'.heap (typeOf (.ref a)) cls := fun A Q E s k q => wpAny_typeOf_ref (k _ _ he) (hz.1.symm ▸ q)
  intro hds l hk
  induction hk with
  | nil =>
    intro w
    refine wpAny_handleBy_nil ?_
    obtain ⟨k1, k2, k3, oe', vs', T, oT, ts, e1, e2, e3, e4, e5⟩ := id fl
    unfold PySem.passOn
    refine wpAny_bind (wpAny_field e1 e3 e4 ?_)
    rw [if_neg (by simp : ¬ ((Value.ref T == Value.none) = true))]
    have last : wpAny (model X.prog X.w) X.A (setFlight (.ref a) X.env.frame) (fun _ s4 => wpAny (model X.prog X.w) X.A (throw (.ref a) : Sem Flow) (SP X pins D) X.xe s4) X.xe s' := by
      rw [hf]
      refine HandSPX.setFlight_upZ fl fun h4 hh up4 => wpAny_throw (tk _ _ ?_)
      exact ⟨a, B, sI, pins, σ, H, cls, d, rfl, J, nb, up.trans up4, .inr (.inr (hs.symm ▸ hh)), na, os, ag, w⟩
    first
      | exact wpAny_bind (wpAny_pure (wpAny_bind last))
      | exact wpAny_bind last
  | @as x n c i ts b₀ suite np pos hds2 l2 hi hl hc hsu r ih =>
    intro w
    obtain ⟨b, e, yes, no⟩ := w
    refine wpAny_handleBy_cons (codeAny_handlers_test ?_) (by intro z; cases z)
    refine ask hc ((PySem.W.exm_one (M := model X.prog X.w) J3.kIn seen e).here ?_)
    cases b with
    | false => exact ih (no rfl)
    | true =>
      refine codeAny_handlers_suite_as (HandSPX.lands_againZ fl fun h4 fl4 up4 => ?_)
      have J4 : Inv X pins σ H { s' with heap := h4 } := J.landed nb fl4.1 (up.trans up4) os ag
      obtain ⟨oe4, vs4, he4, hz4, hd4⟩ := fl4.there
      refine store_ok (X := X.suite a ((a, oe4) :: (X.pn ++ pins))) (v := .ref a) (J4.suite he4 hd4 na nL nF) hN hi (.inl hl) rfl (fun s5 S5 => ?_) (.inr hl)
      refine wpAny_mono ((hsu a oe4 cls d (X.pn ++ pins) hz4 ⟨_, hd4⟩).run [] s5 _ H _ S5 (yes rfl a na)) (fun f s6 z => ?_) fun _ _ z => False.elim z
      cases f with
      | next => exact let ⟨_, _, S6, q⟩ := z; gone_ok (S6.unsuite ok) hN hi hl fun _ J7 => ⟨_, _, J7, q⟩
      | brk => exact let ⟨_, _, S6, q⟩ := z; gone_ok (S6.unsuite ok) hN hi hl fun _ J7 => ⟨_, _, J7, q⟩
      | cont => exact let ⟨_, _, S6, q⟩ := z; gone_ok (S6.unsuite ok) hN hi hl fun _ J7 => ⟨_, _, J7, q⟩
      | ret u => exact let ⟨_, _, _, S6, r6, q⟩ := z; gone_ok (S6.unsuite ok) hN hi hl fun _ J7 => ⟨_, _, _, J7, r6, q⟩
  | @no x c ts b₀ suite np pos hds2 l2 hc hsu r ih =>
    intro w
    obtain ⟨b, e, yes, no⟩ := w
    refine wpAny_handleBy_cons (codeAny_handlers_test ?_) (by intro z; cases z)
    refine ask hc ((PySem.W.exm_one (M := model X.prog X.w) J3.kIn seen e).here ?_)
    cases b with
    | false => exact ih (no rfl)
    | true =>
      refine codeAny_handlers_suite (HandSPX.lands_againZ fl fun h4 fl4 up4 => ?_)
      have J4 : Inv X pins σ H { s' with heap := h4 } := J.landed nb fl4.1 (up.trans up4) os ag
      obtain ⟨oe4, vs4, he4, hz4, hd4⟩ := fl4.there
      refine wpAny_mono ((hsu a oe4 cls d (X.pn ++ pins) hz4 ⟨_, hd4⟩).run [] _ _ H _ (J4.suite he4 hd4 na nL nF) (yes rfl a na)) (fun f s6 z => ?_) fun _ _ z => False.elim z
      cases f with
      | next => exact let ⟨_, _, S6, q⟩ := z; ⟨_, _, S6.unsuite ok, q⟩
      | brk => exact let ⟨_, _, S6, q⟩ := z; ⟨_, _, S6.unsuite ok, q⟩
      | cont => exact let ⟨_, _, S6, q⟩ := z; ⟨_, _, S6.unsuite ok, q⟩
      | ret u => exact let ⟨_, _, _, S6, r6, q⟩ := z; ⟨_, _, _, S6.unsuite ok, r6, q⟩
end
section
variable {X : Cx} {body : List Stmt} {h₀ : ExceptHandler} {hds : List ExceptHandler} {l : List Cla} {pos : Pos} {tb : WX → TS} {Wout : WX}
theorem ps_try (hs : X.stack = X.env :: X.outer) (hf : X.env.frame = some X.env.locals) (hN : X.N.Nodup) (tk : Takes X Wout)
    (hb : ∀ (W : WX) (pn : List (Addr × Obj)) (xe : Value → Shared → Prop), Takes (X.tr pn xe) W → PassesOwn (model X.prog X.w) X.A X.env xe → PSs (X.tr pn xe) body (tb W)) (hh : Clas X (h₀ :: hds) l) :
    PS X (.Try body (h₀ :: hds) [] [] pos) (fun D σ H => tb (wCla X.K Wout D l) D σ H) := by
  refine ⟨fun pins s σ H D I h => wpAny_Try_except ?_⟩
  have ok := I.ok
  have frm : X.A.frames = some (X.env :: X.outer) := by rw [ok.frames, hs]
  have go := (hb (wCla X.K Wout D l) (X.pn ++ pins) (fun e s₁ => wpAny (model X.prog X.w) X.A (noteFrame e X.env) (fun _ s₂ => wpAny (model X.prog X.w) X.A (setFlight e none) (fun _ s₃ =>
    wpAny (model X.prog X.w) X.A (handleBy e X.env (h₀ :: hds)) (SP X pins D) X.xe s₃) X.xe s₂) X.xe s₁) (fun u s' z => ?_) PassesOwn.looking).run [] s σ H D (I.toTry _) h
  · refine wpAny_mono go (fun f s1 z => ?_) fun _ _ z => z
    cases f with
    | next => exact let ⟨_, _, J, q⟩ := z; wpAny_execs_nil ⟨_, _, J.ofTry ok, q⟩
    | brk => exact let ⟨_, _, J, q⟩ := z; ⟨_, _, J.ofTry ok, q⟩
    | cont => exact let ⟨_, _, J, q⟩ := z; ⟨_, _, J.ofTry ok, q⟩
    | ret u => exact let ⟨_, _, _, J, r, q⟩ := z; ⟨_, _, _, J.ofTry ok, r, q⟩
  · obtain ⟨a, B, sI, pins', σ', H', cls, d, rfl, J', nb, up, sky, na, os, ag, w⟩ := z
    refine Sky.land Zc.steady frm hf (hs ▸ sky) fun h3 fl3 up3 => ?_
    exact cla_go (s' := { s' with heap := h3 }) hs hf hN tk (J'.ofTry ok) nb os ag na (up.trans up3) fl3 hh w
end
/-! ### list.count(True) -/
def isTrueV : Value → Bool
  | .bool b => b
  | _ => false
def rCountT (K : PySem.W.Frag) : V → List V → Hp → VK → Prop := fun x xs H Q => ∃ (p : Addr) (bs : List Bool), x = .ref p ∧ xs = [.bl true] ∧ SqL K H p (bs.map V.bl) ∧ Q (.int (bs.count true : Nat)) H
theorem bools_are : ∀ {bs : List Bool} {us : List Value}, Vals (bs.map V.bl) us → us = bs.map Value.bool
  | [], _, h => by cases h; rfl
  | b :: bs, _, h => by
    cases h with
    | cons r t =>
      cases r
      rw [bools_are t]
      rfl
theorem bools_count : ∀ bs : List Bool, (bs.map Value.bool).countP isTrueV = bs.count true
  | [] => rfl
  | b :: bs => by
    rw [List.map_cons, List.countP_cons, List.count_cons, bools_count bs]
    cases b <;> rfl
theorem mt_countT {X : Cx} (hu : X.A.units + 64 < cLine) : MtR X "list.count" (rCountT X.K) := by
  intro pins s σ H x xs v us Q I rx rxs h
  obtain ⟨p, bs, rfl, rfl, hs, q⟩ := h
  cases rx
  obtain ⟨u, rfl, ru⟩ := rxs.one
  cases ru
  obtain ⟨its, rv, ⟨⟨cls, dd, data, sl⟩, n, ho, hc, hdn, hd⟩, hlen⟩ := I.list hs
  cases hc
  cases hd
  have es := bools_are rv
  refine call_meets PySem.F.slot_list_count ⟨_, ho, rfl⟩ PySem.F.entry_list_count (PySem.F.args_list_count_2 _ _) (SeqAt.list_countAt p its.toArray n dd sl (.bool true) isTrueV) ⟨ho, fun y hy => ?_, ?_⟩
  · have hy : y ∈ its := by simpa using hy
    rw [es] at hy
    obtain ⟨b, _, rfl⟩ := List.mem_map.mp hy
    have z := PySem.SeqAt.eqAt_reads (.bool b) (.bool true) X.A.in1 s (.bool b) (.bool true) _ _ (.bool b) (.bool true) rfl rfl (by show X.A.units + 1 + 0 < cLine; omega)
    have e : PyData.eqv (.bool b) (.bool true) = isTrueV (.bool b) := by cases b <;> rfl
    rw [e] at z
    exact z
  · refine ⟨.int (bs.count true : Nat), H, I.tok _, ⟨s.toks, ?_⟩, q⟩
    show Value.int ((its.toArray.toList.countP isTrueV : Nat) : Int) s.toks = _
    rw [es]
    simp only
    rw [bools_count]
/-! ### x * n of a text -/
theorem op_repS {X : Cx} : OpR X (binaryOp .Mult) (fun x y H Q => ∃ z n, x = .str z ∧ y = .int n ∧ MulOk z n ∧ Q (.str (Txt.mul z n)) H) := by
  intro pins s σ H x y v u Q I rx ry h
  obtain ⟨z, n, rfl, rfl, ok, q⟩ := h
  obtain ⟨t, rfl⟩ := rx
  obtain ⟨t', rfl⟩ := ry
  exact PySem.SB.mul ok fun t2 k => ⟨.str (Txt.mul z n), H, I.tok k, ⟨t2, rfl⟩, q⟩
theorem call_reprK {X : Cx} {K : PySem.W.Frag} (hK : X.K = K) (hgd : X.A.guards = some []) (hu : X.A.units + 64 < cLine) : CallR X (.builtin "repr") (rRepr K) := by
  subst hK
  exact call_repr hgd hu
end Gx
namespace Gx
open PySem PySem.Spec PyProof.Rows L2 Builtin Float
/-! ### f'{i:b}' -/
/-- the binary digits of an int -/
def binL (i : Int) : List Nat := (if i < 0 then [45] else []) ++ (Nat.toDigits 2 i.natAbs).map Char.toNat
def binS (i : Int) : Str := ⟨(binL i).toArray⟩
def bSpec : FormatSpec := { align := 62, type := some 98 }
theorem bSpec_is : parseFormatSpec ("b" : Str).cps.toList "int" 62 = .ok bSpec := by kernel_rfl
theorem field_text (a : Int) : intField' { align := 62, type := some 98 } (decide (a < 0)) [] ((Nat.toDigits 2 a.natAbs).map Char.toNat) [] 4 = binS a := by
  have ne : ((Nat.toDigits 2 a.natAbs).map Char.toNat).isEmpty = false := by
    have := toDigits_len_ge 2 a.natAbs
    cases h : Nat.toDigits 2 a.natAbs with
    | nil => rw [h] at this; simp at this
    | cons x l => rfl
  unfold binS binL
  by_cases c : a < 0
  · simp [intField', c, ne]
  · simp [intField', c, ne]
section
variable {prog : Program} {w : World} {A : Around} {E : Value → Shared → Prop} {s : Shared}
theorem field_b {a : Int} {t : Tok} {Q : Value → Shared → Prop} (hz : (binS a).length ≤ sizeLine) (h : ∀ tk k, Q (.str (binS a) tk) { s with toks := k }) : wpAny (model prog w) A (formatField (.int a t) "b") Q E s := by
  have h1 : (("b" : Str).length == 0) = false := by decide +kernel
  have h2 : ((("b" : Str).cps.toList.drop 1).any (· ≥ 128) || (("b" : Str).cps.getD 0 0 ≥ 128 && !([60, 62, 61, 94] : List Nat).contains (("b" : Str).cps.getD 1 0))) = false := by decide +kernel
  have hp := bSpec_is
  have hsz : ("b" : Str).length ≤ sizeLine := by rw [show ("b" : Str).length = 1 by decide +kernel]; decide
  generalize ("b" : Str) = spec at *
  show wpAny _ _ (holding [.int a t] (pyFormat (.int a t) spec)) Q E s
  refine wpAny_holding ?_
  unfold pyFormat
  refine wpAny_bind (wpAny_mkStr ?_ hsz)
  refine wpAny_bind (m := callSpecial? (.int a t) (Str.ofString "__format__") [.str spec s.toks]) (wpAny_callSpecial?_slot (name := Str.ofString "__format__") (typeIs_int _ a t) slot_int_format ?_)
  refine wpAny_call (codeAny_call_builtin slot_int_format.plain entry_int_format (slot_int_format.check _ _ _ _ _ _ _ _ (typeIs_int _ a t) (args_int_format _ _) ?_))
  unfold Builtin.«int.__format__»
  simp only [selfAndOne, noKeywords, Int.intOfSelf, asInt?, asStr?, List.isEmpty_nil, if_true, pure_bind, bind_assoc, h1, h2, Bool.false_eq_true, if_false, show (Value.str spec s.toks == Value.none) = false from rfl]
  refine wpAny_bind (wpAny_typeNameOf (T := "str") (typeIs_str _ _ _) (by decide) fun _ => ?_)
  first | refine wpAny_bind (wpAny_typeNameOfCut_int ?_) | refine wpAny_bind (wpAny_typeNameOf_int ?_)
  simp only [hp, bSpec, Option.getD_some]
  refine (congrArg (fun m => wpAny (model prog w) _ m _ _ _) (if_pos rfl)).mpr ?_
  show wpAny _ _ (retStr (intField' { align := 62, type := some 98 } (decide (a < 0)) [] ((Nat.toDigits 2 a.natAbs).map Char.toNat) [] 4)) _ _ _
  rw [field_text]
  unfold retStr
  refine wpAny_bind (wpAny_mkStr (wpAny_pure ?_) hz)
  show wpAny _ _ (isInstance _ _ >>= _) _ _ _
  refine wpAny_bind (wpAny_isInstance (typeIs_str _ _ _) isSubtype_str_str (wpAny_pure ?_))
  exact h _ _
end
section
variable {X : Cx}
/-- {e:b} -/
def tFmtB (te : TE) : TE := fun σ H Q => te σ H fun x H1 => ∃ i : Int, x = .int i ∧ (binS i).length ≤ sizeLine ∧ Q (.str (binS i)) H1
theorem pe_fmtB {e : Expr} {te : TE} {j : Nat} {p1 p2 pos : Pos} (he : PE X e te) : PE X (.FormattedValue e (-1) (some (.JoinedStr [.Constant (.str "b") j p1] p2)) pos) (tFmtB te) := by
  refine ⟨fun pins s σ H Q I h => wpAny_FormattedValue_spec (thn (he.run pins s σ H _ I h) fun v s1 z => ?_)⟩
  obtain ⟨x, H1, I1, r1, i, rfl, hz, q⟩ := z
  have sp : PE X (.JoinedStr [.Constant (.str "b") j p1] p2) (tC (.str "b")) := pe_joined1 pe_str
  refine wpAny_mono (sp.run pins s1 σ H1 (fun y H2 => y = .str "b" ∧ H2 = H1) I1 ⟨rfl, rfl⟩) (fun u s2 z => ?_) fun _ _ z => z
  obtain ⟨y, H2, I2, r2, rfl, rfl⟩ := z
  obtain ⟨t, rfl⟩ := r1
  obtain ⟨t2, rfl⟩ := r2
  exact ⟨_, _, rfl, field_b hz fun tk k => ⟨.str (binS i), H2, I2.tok k, ⟨tk, rfl⟩, q⟩⟩
/-- s.ljust(n, f) -/
theorem mt_ljustF : MtR X "str.ljust" (fun x xs H Q => ∃ (a : Str) (i : Int) (f : Str), x = .str a ∧ xs = [.int i, .str f] ∧ PadOk i = true ∧ f.length = 1 ∧ Q (.str (Txt.ljustF a i (f.cps.getD 0 0))) H) := by
  intro pins s σ H x xs v us Q I rx rs h
  obtain ⟨a, i, f, rfl, rfl, hp, hf, q⟩ := h
  obtain ⟨t, rfl⟩ := rx
  obtain ⟨u1, u2, rfl, ⟨t1, rfl⟩, ⟨t2, rfl⟩⟩ := vals2 rs
  exact ljust_fill hp hf fun t' k => ⟨.str (Txt.ljustF a i (f.cps.getD 0 0)), H, I.tok k, ⟨t', rfl⟩, q⟩
end
/-! ### int(s, 2) -/
namespace Bin
open PySem.NumText PySem.Calls
def Is (c : Nat) : Prop := c = 48 ∨ c = 49
def num (l : List Nat) : Nat := l.foldl (fun a c => a * 2 + (c - 48)) 0
theorem hex {c : Nat} (h : Is c) : Hx.IsHex c := by unfold Is at h; unfold Hx.IsHex; omega
theorem step_bin {ds : Array Nat} {b : Bool} {c : Nat} (h : Is c) : PySem.NumText.step 2 (ds, b) c = some (ds.push (c - 48), true) := by
  have h' : c = 48 ∨ c = 49 := h
  rcases h' with rfl | rfl <;> rfl
theorem fold_bin : ∀ (cs : List Nat) (ds : Array Nat), (∀ c ∈ cs, Is c) → cs.foldlM (PySem.NumText.step 2) (ds, true) = some (cs.foldl (fun acc c => acc.push (c - 48)) ds, true)
  | [], _, _ => rfl
  | c :: cs, ds, h => by
    rw [List.foldlM_cons, step_bin (h c List.mem_cons_self)]
    exact fold_bin cs (ds.push (c - 48)) fun d hd => h d (List.mem_cons_of_mem _ hd)
theorem digits_bin {cs : List Nat} (h : ∀ c ∈ cs, Is c) (hne : cs ≠ []) : digits? 2 cs = some (cs.foldl (fun acc c => acc.push (c - 48)) #[]) := by
  cases cs with
  | nil => exact absurd rfl hne
  | cons c cs =>
    unfold digits?
    rw [List.foldlM_cons, step_bin (h c List.mem_cons_self)]
    show (cs.foldlM (PySem.NumText.step 2) ((#[] : Array Nat).push (c - 48), true)).bind _ = _
    rw [fold_bin cs _ fun d hd => h d (List.mem_cons_of_mem _ hd)]
    rfl
theorem push_bin : ∀ (cs : List Nat) (ds : Array Nat), (cs.foldl (fun acc c => acc.push (c - 48)) ds).foldl (fun acc d => acc * 2 + d) 0 = cs.foldl (fun a c => a * 2 + (c - 48)) (ds.foldl (fun acc d => acc * 2 + d) 0)
  | [], _ => rfl
  | c :: cs, ds => by
    rw [List.foldl_cons, push_bin cs, List.foldl_cons]
    congr 1
    simp
theorem based_bin {cs : List Nat} (h : ∀ c ∈ cs, Is c) : based 2 cs = (2, false, cs) := by
  match cs, h with
  | [], _ => rfl
  | [a], h =>
    have ha : a = 48 ∨ a = 49 := h a List.mem_cons_self
    rcases ha with rfl | rfl <;> rfl
  | a :: c :: r, h =>
    have hc : c = 48 ∨ c = 49 := h c (List.mem_cons_of_mem _ List.mem_cons_self)
    have ha : a = 48 ∨ a = 49 := h a List.mem_cons_self
    rcases ha with rfl | rfl <;> rcases hc with rfl | rfl <;> rfl
theorem read_bin {cs : List Nat} (h : ∀ c ∈ cs, Is c) (hne : cs ≠ []) : (int_private% "readNumeral") 0 2 cs = (int_private% "Numeral.value") ((num cs : Nat) : Int) := by
  have hx : ∀ c ∈ cs, Hx.IsHex c := fun c hc => hex (h c hc)
  have hr : ∀ c ∈ cs.reverse, Hx.IsHex c := fun c hc => hx c (List.mem_reverse.mp hc)
  have hb := based_bin h
  refine (readNumeral_eq 0 2 cs).trans ?_
  rw [Hx.dropB hx, Hx.signH hx]
  show judge 0 false (based 2 cs).1 (based 2 cs).2.1 (digits? (based 2 cs).1 (((based 2 cs).2.2.reverse.dropWhile blank).reverse)) = _
  rw [hb]
  show judge 0 false 2 false (digits? 2 ((cs.reverse.dropWhile blank).reverse)) = _
  rw [Hx.dropB hr, List.reverse_reverse, digits_bin h hne]
  show (int_private% "Numeral.value") (((cs.foldl (fun acc c => acc.push (c - 48)) (#[] : Array Nat)).foldl (fun acc d => acc * 2 + d) 0 : Nat) : Int) = _
  have z : (#[] : Array Nat).foldl (fun acc d => acc * 2 + d) 0 = 0 := by first | rfl | simp
  rw [push_bin, z] <;> rfl
set_option maxHeartbeats 4000000 in
theorem gives_bin {x : PySem.Str} {u t : Tok} (hl : x.length ≤ 640) (h : ∀ c ∈ x.cps.toList, Is c) (hne : x.cps.toList ≠ []) :
    Gives (Builtin.«int.__new__» ⟨[.type "int", .str x u, .int 2 t], []⟩) (.int ((num x.cps.toList : Nat) : Int)) :=
  .of_wp fun M A E s Q hQ => by
    obtain ⟨hp, g, d, tk, os⟩ := s
    have f1 := F.conv_sub_int
    have f2 := F.madeHere_int
    have f6 : typeOf (.str x u) = pure (.type "str") := rfl
    obtain ⟨e1, e2⟩ := Hx.seen_hex fun c hc => hex (h c hc)
    have hs : (numSeenOf x).length ≤ 640 := by rw [e2, Array.length_toList]; exact hl
    have hr : (int_private% "readNumeral") 0 2 (numSeenOf x) = (int_private% "Numeral.value") ((num x.cps.toList : Nat) : Int) := by rw [e2]; exact read_bin h hne
    have ha : ((numSeenOf x).length == (numTextOf x).length) = true := by rw [e1, e2]; exact beq_self_eq_true _
    have hk := Hx.Hid.mk (And.intro hs (And.intro hr ha))
    clear hs hr ha e1 e2 hl hne h
    repeat (any_goals (first
      | assumption
      | ((with_reducible show wpAny _ _ ((int_private% "intFromText") _ _ _) _ _ _); refine Hx.wp_textB hk.out.1 hk.out.2.1 hk.out.2.2 ?_)
      | wp_step))
    all_goals first | exact ⟨_, rfl, hQ⟩ | skip
theorem call_bin {prog : Program} {w : World} {A : Around} {E : Value → Shared → Prop} {s : Shared} {Q : Value → Shared → Prop} {x : PySem.Str} {u t : Tok} (hl : x.length ≤ 640) (h : ∀ c ∈ x.cps.toList, Is c) (hne : x.cps.toList ≠ [])
    (hQ : Q (.int ((num x.cps.toList : Nat) : Int) s.toks) { s with toks := s.toks + 1 }) : wpAny (model prog w) A (call (.type "int") [.str x u, .int 2 t]) Q E s :=
  callType_new F.called_int F.newNe_int (Hx.typeCall_int_2 _ _) (Hx.newCall_int_2 _ _) (fun obj => F.initArgs_range_2 obj _ _) F.entry_int_new (gives_bin hl h hne).meets (show (Made.int ((num x.cps.toList : Nat) : Int)).post _ s from ⟨rfl, hQ⟩)
end Bin
/-- int(z, 2) -/
def rIntBin : List V → Hp → VK → Prop := fun xs H Q => ∃ z : Str, xs = [.str z, .int 2] ∧ z.cps.toList ≠ [] ∧ z.length ≤ 640 ∧ (∀ c ∈ z.cps.toList, Bin.Is c) ∧ Q (.int ((Bin.num z.cps.toList : Nat) : Int)) H
theorem call_int_bin {X : Cx} : CallR X (.type "int") rIntBin := by
  intro pins s σ H xs us Q I r h
  obtain ⟨z, rfl, hne, hl, hx, q⟩ := h
  obtain ⟨u, u', rfl, ⟨t1, rfl⟩, ⟨t2, rfl⟩⟩ := vals2 r
  exact Bin.call_bin hl hx hne ⟨.int ((Bin.num z.cps.toList : Nat) : Int), H, I.tok _, ⟨_, rfl⟩, q⟩
end Gx
namespace Gx
open PySem PySem.Spec PyProof.Rows L2
/-! ### defs with defaults -/
def DefD (K : PySem.W.Frag) (mg : Str → Option Value) (x : Str) (st : Stmt) (dvs : List V) : Prop := ∃ f fd, mg x = some (.ref f) ∧ FunD K x x (defArgs st) (defBody st) (defScope st) dvs [] f fd
/-- n values are written, the defaults behind the first j fill up -/
def PosD (x : Str) (st : Stmt) (ps : List Str) (dn n j : Nat) : Prop := ∀ (T : Addr) (kV doc pm : Value) (an : Option Addr) (cdv ct : Value) (us its : List Value), us.length = n → its.length = dn →
  ∃ k, bindArgs (PySem.W.fnOf x x (defArgs st) (defBody st) (defScope st) (.ref T) kV doc pm an cdv ct) ⟨us, []⟩ = seqItems? (.ref T) >>= k ∧ k (some its.toArray) = pure (ps.zip (us ++ its.drop j))
section
variable (P : Program) (w : World) (K : PySem.W.Frag) (mg : Str → Option Value) (base : Heap)
structure PrD (CX : CXT) (k : Nat) (x : Str) (st : Stmt) (ps : List Str) (dvs : List V) (sp : Sp) : Prop where
  ex : ∃ f fd, mg x = some (.ref f) ∧ FunD K x x (defArgs st) (defBody st) (defScope st) dvs [] f fd ∧ FnOk P w K mg base CX k f fd ps sp
end
section
variable {P : Program} {w : World} {K : PySem.W.Frag} {mg : Str → Option Value} {base : Heap} {k : Nat} {x : Str} {st : Stmt} {ps N : List Str} {dvs : List V} {sp : Sp}
theorem DefD.okX (D : DefD K mg x st dvs) (S : FnScope N ps (defScope st)) (len : ∀ vs H Q E, sp vs H Q E → vs.length = ps.length)
    (body : ∀ (f : Addr) (cdv : Value) (A : Around) (outer : List Env) (s : Shared) (H : Hp) (vs : List V) (Q : VK) (E : XK), Room k (A.deeper (envOfC x (defScope st) s.heap.objs.size f cdv)) → sp vs H Q E →
      ∃ t, PSs (cxOf (L2.CX P w) P w K mg base N x (defScope st) f cdv A outer s H E) (defBody st) t ∧ t { nx := fun _ H' => Q .non H', rt := Q } (start N vs) H) : PrD P w K mg base (L2.CX P w) (k + 1) x st ps dvs sp := by
  obtain ⟨f, fd, m, F⟩ := D
  exact ⟨f, fd, m, F, F.ok S len fun cdv A outer s H vs Q E => body f cdv A outer s H vs Q E⟩
theorem DefD.ok (D : DefD K mg x st dvs) (S : FnScope N ps (defScope st)) (len : ∀ vs H Q E, sp vs H Q E → vs.length = ps.length)
    (body : ∀ (f : Addr) (cdv : Value) (A : Around) (outer : List Env) (s : Shared) (H : Hp) (vs : List V) (Q : VK) (E : XK), Room k (A.deeper (envOfC x (defScope st) s.heap.objs.size f cdv)) → sp vs H Q E →
      ∃ t, PSs (cxOf CX0 P w K mg base N x (defScope st) f cdv A outer s H E).nox (defBody st) t ∧ t { nx := fun _ H' => Q .non H', rt := Q } (start N vs) H) : PrD P w K mg base CX0 (k + 1) x st ps dvs sp := by
  obtain ⟨f, fd, m, F⟩ := D
  refine ⟨f, fd, m, F, F.ok S len fun cdv A outer s H vs Q E hr z => ?_⟩
  obtain ⟨t, h, q⟩ := body f cdv A outer s H vs Q E hr z
  exact ⟨t, h.nox, q⟩
end
section
variable {X : Cx} {CX : CXT} {j k : Nat} {st : Stmt} {ps : List Str} {dvs : List V} {sp : Sp} {E : XK} {W : WX} {x : Str} {p pos : Pos} {e : Expr} {es : List Expr} {t : TA}
/-- f(..): n values are written -/
theorem pe_posD (n i : Nat) (F : PrD X.prog X.w X.K X.mg X.base CX k x st ps dvs sp) (hr : Room j X.A) (hk : k ≤ j) (hg : Gl X x) (hd : dvs ≠ []) (hn : n + (dvs.length - i) = ps.length) (hb : PosD x st ps dvs.length n i) (hx : Passes CX X E) (ha : PA X (e :: es) t)
    (n0 : (x == ("__debug__" : Str)) = false := by decide) (n1 : starEach (e :: es) X.env = (false, eval e X.env) :: starEach es X.env := by rfl) (n2 : (backTo pos (starEach es X.env)).any (·.1) = false := by rfl) :
    PE X (.Call (.Name x p) (e :: es) [] pos) (tCall sp (dvs.drop i) E t) := by
  obtain ⟨f, fd, m, Z, F⟩ := F.ex
  obtain ⟨ds, r, b⟩ := Z.binds1 n i hd hn fun T kV doc pm an cdv ct us its => hb T kV doc pm an cdv ct us its
  exact pe_call F (hr.mono hk) hg m Z.kp b r hx ha n0 n1 n2
def tCallDS (sp : Sp) (ds : List V) (W : WX) (t : TA) : TE := fun σ H Q => t σ H fun vs H1 => sp (vs ++ ds) H1 Q (WE W σ)
/-- the same in a try's body -/
theorem pe_posDS (n i : Nat) (F : PrD X.prog X.w X.K X.mg X.base (L2.CX X.prog X.w) k x st ps dvs sp) (hr : Room j X.A) (hk : k ≤ j) (hg : Gl X x) (hd : dvs ≠ []) (hn : n + (dvs.length - i) = ps.length) (hb : PosD x st ps dvs.length n i) (tw : Takes X W) (ha : PA X (e :: es) t)
    (n0 : (x == ("__debug__" : Str)) = false := by decide) (n1 : starEach (e :: es) X.env = (false, eval e X.env) :: starEach es X.env := by rfl) (n2 : (backTo pos (starEach es X.env)).any (·.1) = false := by rfl) :
    PE X (.Call (.Name x p) (e :: es) [] pos) (tCallDS sp (dvs.drop i) W t) := by
  obtain ⟨f, fd, m, Z, F⟩ := F.ex
  obtain ⟨ds, rd, b⟩ := Z.binds1 n i hd hn fun T kV doc pm an cdv ct us its => hb T kV doc pm an cdv ct us its
  constructor
  intro pins s σ H Q I h
  refine wpAny_Call_Name_kw (ld_glob I hg m ?_ n0)
  refine PySem.W.callWith_K (h₀ := X.base) I.ok.mod.kin Z.kp (thn (ha.run pos pins s σ H _ I h) fun us s1 ⟨vs, H1, I1, r, q⟩ => ⟨I1.kIn, ?_⟩) n1 n2
  have rr := r.append rd
  have many : (us ++ ds).length = ps.length := (Paired.length rr).symm.trans (F.len _ _ _ _ q)
  refine wpAny_call (codeAny_mono (F.run X.A X.stack s1 H1 ⟨us, []⟩ (us ++ ds) (vs ++ dvs.drop i) Q (WE W σ) (hr.mono hk) I1.env0 (b s1 us I1.kIn many) rr q) fun res s' z => ?_)
  cases res with
  | error er => exact passAt tw σ pins H1 s1 er s' I1 z
  | ok fl =>
    cases fl with
    | ret u => exact I1.after z
    | next => exact False.elim z
    | brk => exact False.elim z
    | cont => exact False.elim z
end
/-- n values are written, then keywords named ks; g puts them and all the defaults in the parameters' order -/
structure KwD (x : Str) (st : Stmt) (ps : List Str) (dn n : Nat) (ks : List Str) (g : {α : Type} → List α → List α → List α → List α) : Prop where
  to : ∀ (T : Addr) (kV doc pm : Value) (an : Option Addr) (cdv ct : Value) (us ws its : List Value), us.length = n → ws.length = ks.length → its.length = dn →
    ∃ k, bindArgs (PySem.W.fnOf x x (defArgs st) (defBody st) (defScope st) (.ref T) kV doc pm an cdv ct) ⟨us, ks.zip ws⟩ = seqItems? (.ref T) >>= k ∧ k (some its.toArray) = pure (ps.zip (g us ws its))
  rel : ∀ {vs zs ds : List V} {us ws its : List Value}, Vals vs us → Vals zs ws → Vals ds its → Vals (g vs zs ds) (g us ws its)
section
variable {K : PySem.W.Frag} {mg : Str → Option Value} {x : Str} {st : Stmt} {ps ks : List Str} {dvs : List V} {n : Nat} {g : {α : Type} → List α → List α → List α → List α} {f : Addr} {fd : FuncData}
theorem kwd_binds (F : FunD K x x (defArgs st) (defBody st) (defScope st) dvs [] f fd) (hd : dvs ≠ []) (hb : KwD x st ps dvs.length n ks g) : ∃ its : List Value, KBn K fd ps n ks (fun us ws => g us ws its) (fun vs zs => g vs zs dvs) := by
  obtain ⟨oc, od, dV, kV, doc, pm, an, cdv, ct, osl, rfl, lk, hcd, hD, hK⟩ := F.ex
  rcases hD with ⟨e, _⟩ | ⟨_, T, o, its, m, rfl, lT, oT, rT⟩
  · exact absurd e hd
  · refine ⟨its, ⟨fun s us ws X l1 l2 => ?_, fun r1 r2 => hb.rel r1 r2 rT⟩⟩
    obtain ⟨k, e1, e2⟩ := hb.to T kV doc pm an cdv ct us ws its l1 l2 rT.length.symm
    refine BindsTo.of_looks fun M => ?_
    rw [e1]
    exact looks_items X lT oT (.of_pure e2)
end
section
variable {X : Cx} {CX : CXT} {j k n : Nat} {st : Stmt} {ps ks : List Str} {dvs : List V} {sp : Sp} {E : XK} {W : WX} {x : Str} {p pos : Pos} {kws : List Keyword} {t tk : TA} {g : {α : Type} → List α → List α → List α → List α}
def tKwDS (sp : Sp) (m : Nat) (g : {α : Type} → List α → List α → List α → List α) (ds : List V) (W : WX) (t : TA) : TE := fun σ H Q => t σ H fun zs H1 => zs.length = m ∧ sp (g [] zs ds) H1 Q (WE W σ)
/-- f(a = .., b = ..) in a try's body -/
theorem pe_kwDS (F : PrD X.prog X.w X.K X.mg X.base (L2.CX X.prog X.w) k x st ps dvs sp) (hr : Room j X.A) (hk : k ≤ j) (hg : Gl X x) (hd : dvs ≠ []) (hb : KwD x st ps dvs.length 0 ks g) (tw : Takes X W) (hkw : PK X kws tk)
    (n1 : (backToKw pos (keywordEach kws X.env)).all (·.1.isSome) = true := by rfl) (n2 : (backToKw pos (keywordEach kws X.env)).filterMap (·.1) = ks := by rfl) (n0 : (x == ("__debug__" : Str)) = false := by decide)
    (n3 : ((backTo pos (starEach [] X.env)).any (·.1) || (backToKw pos (keywordEach kws X.env)).any (·.1.isNone)) = false := by rfl) : PE X (.Call (.Name x p) [] kws pos) (tKwDS sp ks.length g dvs W tk) := by
  obtain ⟨f, fd, m, Z, F⟩ := F.ex
  obtain ⟨its, b⟩ := kwd_binds Z hd hb
  constructor
  intro pins s σ H Q I h
  refine wpAny_Call_Name_kw (ld_glob I hg m ?_ n0)
  refine PySem.W.callWith_KW0 (h₀ := X.base) I.ok.mod.kin Z.kp n1 ?_ n3
  refine thn (hkw.run pos pins s σ H _ I h) fun ws s2 ⟨zs, H2, I2, r, l, q⟩ => ⟨I2.kIn, ?_⟩
  rw [n2]
  refine wpAny_call (codeAny_mono (F.run X.A X.stack s2 H2 ⟨[], ks.zip ws⟩ (g [] ws its) (g [] zs dvs) Q (WE W σ) (hr.mono hk) I2.env0 (b.to s2 [] ws I2.kIn rfl (r.length.symm.trans l)) (b.rel .nil r) q) fun res s' z => ?_)
  cases res with
  | error er => exact passAt tw σ pins H2 s2 er s' I2 z
  | ok fl =>
    cases fl with
    | ret u => exact I2.after z
    | next => exact False.elim z
    | brk => exact False.elim z
    | cont => exact False.elim z
/-- f(.., a = .., b = ..) -/
theorem pe_kwD (F : PrD X.prog X.w X.K X.mg X.base CX k x st ps dvs sp) (hr : Room j X.A) (hk : k ≤ j) (hg : Gl X x) (hd : dvs ≠ []) (hb : KwD x st ps dvs.length n ks g) (hx : Passes CX X E) {e : Expr} {es : List Expr} (ha : PA X (e :: es) t) (hkw : PK X kws tk)
    (n1 : (backToKw pos (keywordEach kws X.env)).all (·.1.isSome) = true := by rfl) (n2 : (backToKw pos (keywordEach kws X.env)).filterMap (·.1) = ks := by rfl) (n0 : (x == ("__debug__" : Str)) = false := by decide)
    (n4 : starEach (e :: es) X.env = (false, eval e X.env) :: starEach es X.env := by rfl) (n3 : ((backTo pos (starEach (e :: es) X.env)).any (·.1) || (backToKw pos (keywordEach kws X.env)).any (·.1.isNone)) = false := by rfl) :
    PE X (.Call (.Name x p) (e :: es) kws pos) (tCallN n ks.length sp (fun vs zs => g vs zs dvs) E t tk) := by
  obtain ⟨f, fd, m, Z, F⟩ := F.ex
  obtain ⟨its, b⟩ := kwd_binds Z hd hb
  exact pe_callN F (hr.mono hk) hg m Z.kp b hx ha hkw n1 n2 n0 n4 n3
end
/-! ### walking a list or a tuple -/
/-- J walks the list or tuple xs at a -/
def Wk (K : PySem.W.Frag) (a : Addr) (xs : List V) (H : Hp) (J : It) : Prop := (J = Itl K a ∧ SqL K H a xs) ∨ (J = Itt K a ∧ SqT K H a xs)
theorem Wk.walk {K : PySem.W.Frag} {a : Addr} {xs : List V} {H : Hp} {J : It} (h : Wk K a xs H J) : ∃ G, Walk J xs.length G (YAt xs) ∧ G H ∧ ∀ H', Same H H' → G H' := by
  rcases h with ⟨rfl, hs⟩ | ⟨rfl, hs⟩
  · exact ⟨_, walk_list (K := K) (a := a) (xs := xs), hs, fun H' s => s.seq hs⟩
  · refine ⟨_, walk_tup (K := K) (a := a) (xs := xs), hs, fun H' s => ?_⟩
    rcases hs with hs | hs
    · rcases hs with hs | ⟨o, hs⟩
      · exact .inl (.inl (s _ _ hs))
      · exact .inl (.inr ⟨o, s _ _ hs⟩)
    · exact .inr hs
def iSeq (K : PySem.W.Frag) (tl : TE) : TI := fun σ H R => tl σ H fun x H1 => ∃ a xs, x = .ref a ∧ (SqL K H1 a xs ∨ SqT K H1 a xs) ∧ ∀ J, Wk K a xs H1 J → R J H1
theorem pi_seq {X : Cx} {tg l : Expr} {tl : TE} (hl : PE X l tl) : PI X tg l (iSeq X.K tl) := by
  refine ⟨fun pins s σ H R I h => thn (hl.run pins s σ H _ I h) fun v s1 z => ?_⟩
  obtain ⟨x, H1, I1, r1, a, xs, rfl, z, q⟩ := z
  cases r1
  have new : ∀ b ∈ [s1.heap.objs.size], FpOk X pins H1 b := fun b hb => by
    rw [List.mem_singleton.mp hb]
    exact I1.fpOk (Nat.le_refl _) (I1.hok.fresh (Nat.le_refl _))
  rcases z with hq | hq
  · obtain ⟨its, rv, p, hz⟩ := I1.list hq
    exact wpAny_pyIter_list p.isList ⟨s1.heap.objs.size, [s1.heap.objs.size], _, _, H1, rfl, I1.kept (t' := s1.toks) fun b o e => Heap.get?_push_of_some _ e, turn_list a _, ⟨_, Heap.get?_push_size _ rfl, rfl, rfl⟩, new, q _ (.inl ⟨rfl, hq⟩)⟩
  · obtain ⟨its, rv, p, hz⟩ := I1.tuple hq
    exact wpAny_pyIter_tuple (show s1.heap.IsTuple a its.toArray from p) ⟨s1.heap.objs.size, [s1.heap.objs.size], _, _, H1, rfl, I1.kept (t' := s1.toks) fun b o e => Heap.get?_push_of_some _ e, turn_tuple a _, ⟨_, Heap.get?_push_size _ rfl, rfl, rfl⟩, new, q _ (.inr ⟨rfl, hq⟩)⟩
end Gx
namespace Gx
open PySem PySem.Spec PyProof.Rows L2
/-! ### repr of lists and tuples that hold empty dicts -/
/-- the table of modules stands in the heap: a dict -/
def SysD (h : Heap) : Prop := ∃ o, h.get? sysModules = some o ∧ o.cls = .type "dict"
/-- the head's facts, and this one -/
def sysHook (K : Params → PySem.W.Frag) (as : List Addr) (e : ∀ P, as = (K P).map (·.1)) : PySem.W.Hook where
  α := List (Option Obj) × Option Value
  obs := fun s => (as.map s.heap.get?, (s.heap.get? sysModules).map (·.cls))
  val := fun w => ((K w.params).map fun p => some p.2, some (.type "dict"))
  says := fun w h => PySem.W.InK K w h ∧ SysD h
  of := fun w s x => ⟨PySem.W.InK.of e w s (Prod.mk.inj x).1, let ⟨o, h1, h2⟩ := Option.map_eq_some_iff.mp (Prod.mk.inj x).2; ⟨o, h1, h2⟩⟩
  keeps := fun w h h' x k => ⟨PySem.W.InK.keeps w h h' x.1 k, let ⟨o, h1, h2⟩ := x.2; ⟨o, k _ _ h1, h2⟩⟩
theorem sys_of {K : Params → PySem.W.Frag} {as : List Addr} {e : ∀ P, as = (K P).map (·.1)} {w : World} {h : Heap} (Y : (sysHook K as e).says w h) : (K w.params).In h ∧ SysD h := ⟨Y.1, Y.2⟩
section
variable {X : Cx} {pins : List (Addr × Obj)} {σ : L2.St} {H : Hp} {s : Shared}
theorem not_sys (S : SysD X.base) (I : Inv X pins σ H s) {a : Addr} {o : Obj} (ho : s.heap.get? a = some o) (hc : o.cls = .type "list") : a ≠ sysModules := fun z => by
  subst z
  obtain ⟨u, hu, e⟩ := S
  have := I.bk _ _ hu
  rw [ho] at this
  cases this
  exact absurd (Value.type.inj (hc.symm.trans e)) (by decide)
mutual
theorem Dq.reads2 (S : SysD X.base) (I : Inv X pins σ H s) : ∀ (d : PyData) (v : V) (u : Value), Dq X.K H v d → RelV v u → ∃ as, Reads s.heap u d as ∧ sysModules ∉ as
  | .none, _, _, h, r => by
    cases h; cases r
    exact ⟨_, .none, by simp⟩
  | .bool b, _, _, h, r => by
    cases h; cases r
    exact ⟨_, .bool b, by simp⟩
  | .int i, _, _, h, r => by
    cases h
    obtain ⟨t, rfl⟩ := r
    exact ⟨_, .int i t, by simp⟩
  | .str x, _, _, h, r => by
    cases h
    obtain ⟨t, rfl⟩ := r
    exact ⟨_, .str x t, by simp⟩
  | .list ds, _, _, h, r => by
    cases h with
    | lst hs ha =>
      cases r
      obtain ⟨its, rv, ⟨o, n, ho, hc, _, hd⟩, _⟩ := I.list hs
      obtain ⟨as, q, na⟩ := DqAll.reads2 S I ds _ its ha rv
      refine ⟨_, .list ho hc hd q, fun z => ?_⟩
      rcases List.mem_cons.mp z with z | z
      · exact not_sys S I ho hc z.symm
      · exact na z
  | .tuple ds, _, _, h, r => by
    cases h with
    | tup hs ha =>
      cases r
      obtain ⟨its, rv, ⟨o, ho, hc, n, hd⟩, _⟩ := I.tuple hs
      obtain ⟨as, q, na⟩ := DqAll.reads2 S I ds _ its ha rv
      exact ⟨_, .tuple ho hc hd q, na⟩
  | .dict kvs, _, _, h, r => by
    cases h with
    | nil e =>
      cases r
      obtain ⟨_, nm, _⟩ := I.hok _ _ e
      refine ⟨_, nil_reads I e, fun y => ?_⟩
      rw [← List.mem_singleton.mp y] at nm
      simp at nm
theorem DqAll.reads2 (S : SysD X.base) (I : Inv X pins σ H s) : ∀ (ds : List PyData) (vs : List V) (us : List Value), DqAll X.K H vs ds → Vals vs us → ∃ as, ReadsAll s.heap us ds as ∧ sysModules ∉ as
  | [], _, _, h, r => by
    cases h; cases r
    exact ⟨_, .nil, by simp⟩
  | d :: ds, _, _, h, r => by
    cases h with
    | cons h1 h2 =>
      cases r with
      | cons r1 r2 =>
        obtain ⟨as, q1, n1⟩ := Dq.reads2 S I d _ _ h1 r1
        obtain ⟨bs, q2, n2⟩ := DqAll.reads2 S I ds _ _ h2 r2
        exact ⟨_, .cons q1 q2, fun z => (List.mem_append.mp z).elim n1 n2⟩
end
end
/-- repr(l), l a list or a tuple -/
def rReprN (K : PySem.W.Frag) : List V → Hp → VK → Prop := fun xs H Q => ∃ a d, xs = [.ref a] ∧ Dq K H (.ref a) d ∧ d.showable = true ∧ d.depth ≤ 30 ∧ d.shown.length ≤ sizeLine ∧ Q (.str d.shown) H
theorem call_reprN {X : Cx} {K : PySem.W.Frag} (hK : X.K = K) (S : SysD X.base) (hgd : X.A.guards = some []) (hu : X.A.units + 64 < cLine) : CallR X (.builtin "repr") (rReprN K) := by
  subst hK
  intro pins s σ H xs us Q I r h
  obtain ⟨a, d, rfl, hd, hs, hdep, hsz, q⟩ := h
  obtain ⟨u, rfl, rx⟩ := vals1 r
  cases rx
  obtain ⟨as, rd, na⟩ := Dq.reads2 S I d _ _ hd rfl
  exact repr_of_reads' rd hs (fun _ => na) hgd (by omega) (fun _ _ e => e) (fun h' u tk k => ⟨.str d.shown, H, I.kept k, ⟨u, rfl⟩, q⟩) hsz
section
variable {P : Program} {w : World} {K : PySem.W.Frag} {mg mb : Str → Option Value} {k : Nat} {fa a : Addr} {fd : FuncData} {x : Str} {sp : Sp} {s₁ : Shared} {vs : List Value} {ns : List Int}
theorem law_goS (KX : K.In s₁.heap) (SX : SysD s₁.heap) (hm : s₁.heap.Ns mainGlobals mg) (hb : s₁.heap.Ns builtinsNs mb) (hbb : ∀ x : Str, x ≠ "__name__" → mb x = bootBuiltins x) (hl : s₁.heap.NoLimit) (hg : s₁.gens = #[])
    (ha : s₁.heap.get? a = some { cls := .type "list", data := .seq vs.toArray }) (hi : IntsAre vs ns) (hn : ns.length ≤ sizeLine) (hr : Room k callerA)
    (F : ∀ base : Heap, K.In base → base.Ns mainGlobals mg → SysD base → GOk P w K mg base CX0 k fa fd [x] sp) (hbind : ∀ (s : Shared) (u : Value), BindsTo s fd ⟨[u], []⟩ [(x, u)])
    (hsp : ∀ H : Hp, SqL K H a (ns.map V.int) → sp [.ref a] H (fun v _ => v = .bl true) fun _ _ _ => False) :
    codeAny (model P w) callerA (.call (.ref fa) ⟨[.ref a], []⟩) (fun r s' => r = .ok (.ret (.bool true)) ∧ OldK s₁.heap s'.heap ∧ s'.os = s₁.os ∧ AllBare s'.gens) s₁ := by
  have rv := vals_ints hi
  have key : ∀ H : Hp, (∀ b, H b = none ∨ (b = a ∧ ∃ o xs, H b = some (.frz o (.lst xs)))) → SqL K H a (ns.map V.int) → HOk P w H s₁.heap → (H a ≠ none → K.lookup a = none) →
      codeAny (model P w) callerA (.call (.ref fa) ⟨[.ref a], []⟩) (fun r s' => r = .ok (.ret (.bool true)) ∧ OldK s₁.heap s'.heap ∧ s'.os = s₁.os ∧ AllBare s'.gens) s₁ := fun H only hS ok hK => by
    have free : ∀ {b : Addr} {o : Obj} {es : Array DictEntry} {ep : Nat}, s₁.heap.get? b = some o → o.data = .dict es ep → H b = none := fun {b o es ep} e d => by
      rcases only b with z | ⟨rfl, _⟩
      · exact z
      · rw [ha] at e
        cases e
        cases d
    have ns1 : ∀ {b : Addr} {m : Str → Option Value}, s₁.heap.Ns b m → (hidT s₁.heap H).Ns b m := fun {b m} z => let ⟨o, es, ep, e, d, r⟩ := z; ⟨o, es, ep, hidT_get e (free e d), d, r⟩
    have kb : K.In (hidT s₁.heap H) := fun b o e => hidT_get (KX b o e) ((only b).elim id fun ⟨z, o', xs, q⟩ => by
      subst z
      rw [hK (by rw [q]; exact fun z => nomatch z)] at e
      cases e)
    have sb : SysD (hidT s₁.heap H) := by
      obtain ⟨o, h1, h2⟩ := SX
      refine ⟨o, hidT_get h1 ((only sysModules).elim id fun ⟨z, _⟩ => ?_), h2⟩
      rw [z, ha] at h1
      cases h1
      exact absurd (Value.type.inj h2) (by decide)
    have md : Mod K mg (hidT s₁.heap H) := ⟨kb, ns1 hm, ⟨mb, ns1 hb, hbb⟩, let ⟨mc, h1, h2⟩ := hl; ⟨mc, ns1 h1, h2⟩⟩
    have e0 : Env0 P w K mg (hidT s₁.heap H) callerA [] s₁ H := ⟨rfl, md, fun b o e => of_hidT e, Nat.le_of_eq (hidT_size _ _), trivial, (fun _ z => nomatch z), ok, .of_eq hg⟩
    refine codeAny_mono ((F _ kb (ns1 hm) sb).go (A := callerA) (us := [.ref a]) (vs := [.ref a]) rfl hr e0 (hbind s₁ (.ref a)) (.cons rfl .nil) (hsp H hS)) fun r s' z => ?_
    cases r with
    | error e => exact False.elim z
    | ok fl =>
      cases fl with
      | next => exact False.elim z
      | brk => exact False.elim z
      | cont => exact False.elim z
      | ret u =>
        obtain ⟨v, H', os, bare, un, ok', r', q⟩ := z
        cases q
        cases r'
        refine ⟨rfl, OldK.of_keep fun b o e => ?_, os, bare⟩
        rcases only b with z | ⟨_, ob, xs, z⟩
        · exact un.keep b o e z (fun y => nomatch y) (fun y => nomatch y)
        · have e1 := (ok b _ z).1
          have e2 := (ok' b _ (un.frzs b ob _ z)).1
          rw [e] at e1
          cases e1
          exact e2
  cases hk : K.lookup a with
  | some o =>
    have e := KX a o hk
    rw [ha] at e
    cases e
    exact key (fun _ => none) (fun _ => .inl rfl) (.inr ⟨_, vs.toArray, _, hk, rfl, rfl, rfl, by rw [List.size_toArray, hi.length]; exact hn, by simpa using rv⟩) (fun b u z => nomatch z) fun z => absurd rfl z
  | none =>
    have at_a : scr a { cls := .type "list", data := .seq vs.toArray } ns a = some (.frz { cls := .type "list", data := .seq vs.toArray } (.lst (ns.map V.int))) := if_pos rfl
    refine key (scr a { cls := .type "list", data := .seq vs.toArray } ns) (fun b => ?_) (.inl (.inr ⟨_, at_a⟩)) (fun b u z => ?_) fun _ => hk
    · by_cases c : b = a
      · exact .inr ⟨c, _, _, by rw [c]; exact at_a⟩
      · exact .inl (if_neg c)
    · by_cases c : b = a
      · subst c
        rw [at_a] at z
        cases z
        exact ⟨ha, by rw [List.length_map]; exact hn, vs, _, rv, ha⟩
      · have z' := (if_neg c).symm.trans z
        cases z'
end
/-- the end of a law row, with the table of modules known -/
theorem walkS {l : PySem.W.OpenLaw} {n k : Nat} {q : Program} {loose : List Str} {XP : (Str → Option Value) → Heap → Prop} {YP : World → Heap → Prop} {d : DefRec} {K : Params → PySem.W.Frag} {sp : World → Sp} {x nm : Str} {st : Stmt}
    (hn : l.most = some n) (hn2 : n ≤ sizeLine) (hdf : d.params.defaults = []) (hr : Room k callerA) (hY : ∀ (w : World) (h : Heap), YP w h → (K w.params).In h ∧ SysD h) (hnm : d.name = nm) (hb : PosB nm st [x])
    (F : ∀ (w : World) (mg : Str → Option Value) (h : Heap), (K w.params).In h → h.Ns mainGlobals mg → ∀ base : Heap, (K w.params).In base → base.Ns mainGlobals mg → SysD base → PrG l.prog w (K w.params) mg base CX0 k nm st [x] (sp w))
    (hsp : ∀ (w : World) (H : Hp) (a : Addr) (ns : List Int), ns.length ≤ n → SqL (K w.params) H a (ns.map V.int) → sp w [.ref a] H (fun v _ => v = .bl true) fun _ _ _ => False) :
    PySem.W.WalkO q loose XP YP l.row.toRowW d [] (fun f vs => PySem.call f vs) := by
  refine Att.attach_call hn hdf fun w s₀ s₁ mg mb fa o pm cd doc a vs ns G Y ho hd hcd hmg hobj hints hlen hg => ?_
  obtain ⟨KX, SX⟩ := hY w _ Y
  obtain ⟨f, fd, m, Z, _⟩ := (F w mg _ KX G.T.g _ KX G.T.g SX).ex
  rw [hnm, m] at hmg
  cases hmg
  refine law_goS (x := x) (fd := fd) KX SX G.T.g G.T.b G.T.builtins G.T.nolimit hg hobj hints (Nat.le_trans hlen hn2) hr (fun base kb nb sb => ?_) (fun s u => ?_) fun H hS => hsp w H a ns hlen hS
  · obtain ⟨f', fd', m', Z', F'⟩ := (F w mg _ KX G.T.g base kb nb sb).ex
    rw [m] at m'
    cases m'
    obtain ⟨_, _, _, _, _, _, _, _, _, rfl, l1, _⟩ := Z.ex
    obtain ⟨_, _, _, _, _, _, _, _, _, rfl, l2, _⟩ := Z'.ex
    rw [l1] at l2
    cases l2
    exact F'
  · obtain ⟨_, _, kV, doc, pm, an, cdv, ct, _, rfl, _, _⟩ := Z.ex
    exact .of_eq (hb kV doc pm an cdv ct [u] rfl)
end Gx
namespace Gx
open PySem PySem.Spec PyProof.Rows L2
/-! ### the head by one run: what the module's names reach, level by level -/
def stepA (g : Addr → Option Obj) (a : Addr) : List Addr := match g a with
  | some ⟨_, _, .func fd, _⟩ => He.refV fd.code ++ He.refV fd.defaults
  | some ⟨_, _, .cls cd, _⟩ => [cd.ns]
  | some ⟨_, _, .dict es _, _⟩ => es.toList.flatMap fun e => He.refV e.val
  | some ⟨.type c, _, .fields vs, _⟩ => if c = "property" ∨ c = "classmethod" ∨ c = "staticmethod" then vs.toList.flatMap He.refV else []
  | _ => []
def levels (g : Addr → Option Obj) : Nat → List Addr → List Addr
  | 0, l => l
  | n + 1, l => l ++ levels g n (l.flatMap (stepA g))
def asM (g : Addr → Option Obj) (n : Nat) : List Addr := levels g n [mainGlobals]
def sysB (g : Addr → Option Obj) : Bool := match g sysModules with
  | some o => o.cls == .type "dict"
  | none => false
abbrev AlM : Type := He.AlD × Bool × Bool
def obsM (n : Nat) (fa : List He.Fa) (fn : List He.DefD) (ex : PySem.W.Frag → Bool) (g : Addr → Option Obj) : AlM := (He.obsD fa fn (He.frG g (asM g n)), ex (He.frG g (asM g n)), sysB g)
def hookM (n : Nat) (fa : List He.Fa) (fn : List He.DefD) (ex : PySem.W.Frag → Bool) : PySem.W.Hook where
  α := AlM
  obs := fun s => obsM n fa fn ex s.heap.get?
  val := fun _ => (He.valD fn, true, true)
  says := fun _ h => ∃ K : PySem.W.Frag, K.In h ∧ He.SaysD fa fn K ∧ ex K = true ∧ SysD h
  of := fun _ s e => by
    have e1 : He.obsD fa fn (He.frG s.heap.get? (asM s.heap.get? n)) = He.valD fn := congrArg (fun z : AlM => z.1) e
    have e2 : ex (He.frG s.heap.get? (asM s.heap.get? n)) = true := congrArg (fun z : AlM => z.2.1) e
    have e3 : sysB s.heap.get? = true := congrArg (fun z : AlM => z.2.2) e
    refine ⟨_, He.frG_in, e1, e2, ?_⟩
    unfold sysB at e3
    split at e3
    · rename_i o ho
      exact ⟨o, ho, beq_iff_eq.mp e3⟩
    · cases e3
  keeps := fun _ _ _ ⟨K, hK, c, x, o, h1, h2⟩ k => ⟨K, PySem.W.Frag.In.keeps hK k, c, x, o, k _ _ h1, h2⟩
theorem obsM_eq {n : Nat} {fa : List He.Fa} {fn : List He.DefD} {ex : PySem.W.Frag → Bool} {g : Addr → Option Obj} {s : Shared} (h : ∀ a, g a = s.heap.get? a) : obsM n fa fn ex g = (hookM n fa fn ex).obs s := by
  have e : g = s.heap.get? := funext h
  rw [e]
  rfl
/-- the end of a law row over such a head -/
theorem walkM {l : PySem.W.OpenLaw} {n k : Nat} {q : Program} {loose : List Str} {XP : (Str → Option Value) → Heap → Prop} {YP : World → Heap → Prop} {d : DefRec} {sp : PySem.W.Frag → Sp} {x nm : Str} {st : Stmt}
    (hn : l.most = some n) (hn2 : n ≤ sizeLine) (hdf : d.params.defaults = []) (hr : Room k callerA) (hnm : d.name = nm) (hb : PosB nm st [x])
    (F : ∀ (w : World) (mg : Str → Option Value) (h : Heap), YP w h → h.Ns mainGlobals mg → ∃ K : PySem.W.Frag, K.In h ∧ SysD h ∧ ∀ base : Heap, K.In base → base.Ns mainGlobals mg → SysD base → PrG l.prog w K mg base CX0 k nm st [x] (sp K))
    (hsp : ∀ (K : PySem.W.Frag) (H : Hp) (a : Addr) (ns : List Int), ns.length ≤ n → SqL K H a (ns.map V.int) → sp K [.ref a] H (fun v _ => v = .bl true) fun _ _ _ => False) :
    PySem.W.WalkO q loose XP YP l.row.toRowW d [] (fun f vs => PySem.call f vs) := by
  refine Att.attach_call hn hdf fun w s₀ s₁ mg mb fa o pm cd doc a vs ns G Y ho hd hcd hmg hobj hints hlen hg => ?_
  obtain ⟨K, KX, SX, FX⟩ := F w mg _ Y G.T.g
  obtain ⟨f, fd, m, Z, _⟩ := (FX _ KX G.T.g SX).ex
  rw [hnm, m] at hmg
  cases hmg
  refine law_goS (x := x) (fd := fd) KX SX G.T.g G.T.b G.T.builtins G.T.nolimit hg hobj hints (Nat.le_trans hlen hn2) hr (fun base kb nb sb => ?_) (fun s u => ?_) fun H hS => hsp K H a ns hlen hS
  · obtain ⟨f', fd', m', Z', F'⟩ := (FX base kb nb sb).ex
    rw [m] at m'
    cases m'
    obtain ⟨_, _, _, _, _, _, _, _, _, rfl, l1, _⟩ := Z.ex
    obtain ⟨_, _, _, _, _, _, _, _, _, rfl, l2, _⟩ := Z'.ex
    rw [l1] at l2
    cases l2
    exact F'
  · obtain ⟨_, _, kV, doc, pm, an, cdv, ct, _, rfl, _, _⟩ := Z.ex
    exact .of_eq (hb kV doc pm an cdv ct [u] rfl)
/-- a def's record of the top -/
def defD (x : Str) (st : Stmt) : He.DefD := ⟨(x, none), x, x, defArgs st, defBody st, defScope st, [], []⟩
/-- a method's -/
def methD (c m qual : Str) (st : Stmt) : He.DefD := ⟨(c, some m), m, qual, defArgs st, defBody st, defScope st, [], []⟩
section
variable {K : PySem.W.Frag} {h : Heap} {mg : Str → Option Value} {fa : List He.Fa} {fn : List He.DefD}
theorem defAt_of (X : K.In h) (G : h.Ns mainGlobals mg) (c : He.SaysD fa fn K) {x : Str} {st : Stmt} (hg : He.Fa.glo x ∈ fa) (hd : defD x st ∈ fn) : DefAt K mg x st := by
  obtain ⟨i, hi, e⟩ := List.mem_iff_getElem.mp hg
  obtain ⟨j, hj, e2⟩ := List.mem_iff_getElem.mp hd
  have f := c.fact i (f := .glo x) (by rw [List.getElem?_eq_getElem hi, e])
  obtain ⟨fd, F⟩ := c.def_ j (d := defD x st) (by rw [List.getElem?_eq_getElem hj, e2])
  exact ⟨_, fd, He.glo_ok X G f, He5.fun_of F⟩
theorem meth_of (c : He.SaysD fa fn K) {x m qual : Str} {st : Stmt} (hd : methD x m qual st ∈ fn) : ∃ fd, Fun K m qual st (He.ma K (He.ga K x) m) fd := by
  obtain ⟨j, hj, e2⟩ := List.mem_iff_getElem.mp hd
  obtain ⟨fd, F⟩ := c.def_ j (d := methD x m qual st) (by rw [List.getElem?_eq_getElem hj, e2])
  exact ⟨fd, He5.fun_of F⟩
theorem fact_of (c : He.SaysD fa fn K) {f : He.Fa} (hf : f ∈ fa) : f.ok K = true := by
  obtain ⟨i, hi, e⟩ := List.mem_iff_getElem.mp hf
  exact c.fact i (by rw [List.getElem?_eq_getElem hi, e])
end
end Gx
namespace Gx
open PySem PySem.Spec PyProof.Rows L2
section
variable {K : PySem.W.Frag} {h : Heap} {mg : Str → Option Value} {x m qual : Str} {st : Stmt}
theorem defAt_i (X : K.In h) (G : h.Ns mainGlobals mg) (f : (He.Fa.glo x).ok K = true) (d : ∃ fd, FunD K x x (defArgs st) (defBody st) (defScope st) [] [] (He.fAd K (x, none)) fd) : DefAt K mg x st :=
  let ⟨fd, F⟩ := d
  ⟨_, fd, He.glo_ok X G f, He5.fun_of F⟩
theorem meth_i (d : ∃ fd, FunD K m qual (defArgs st) (defBody st) (defScope st) [] [] (He.fAd K (x, some m)) fd) : ∃ fd, Fun K m qual st (He.ma K (He.ga K x) m) fd :=
  let ⟨fd, F⟩ := d
  ⟨fd, He5.fun_of F⟩
theorem cl_ga (X : K.In h) (G : h.Ns mainGlobals mg) (f : (He.Fa.glo x).ok K = true) : cl mg x = He.ga K x := cl_of (He.glo_ok X G f)
theorem known_int (X : K.In h) (G : h.Ns mainGlobals mg) {i : Int} (f : (He.Fa.int x i).ok K = true) : KnownAt mg x (.int i) :=
  let ⟨t, e⟩ := He.int_ok X G f
  ⟨_, e, t, rfl⟩
theorem known_str (X : K.In h) (G : h.Ns mainGlobals mg) {z : Str} (f : (He.Fa.str x z).ok K = true) : KnownAt mg x (.str z) :=
  let ⟨t, e⟩ := He.str_ok X G f
  ⟨_, e, t, rfl⟩
theorem all_at {l : List Bool} (h : l.all id = true) (i : Nat) {b : Bool} (e : l[i]? = some b := by rfl) : b = true := List.all_eq_true.mp h b (List.mem_of_getElem? e)
end
/-- three looks at one run -/
theorem map_three {α β γ : Type} {o : Option α} {f1 : α → Bool} {f2 : α → γ} {g : α → β} {k1 k2 : α → Bool} {a d e : Bool} {b : γ} {c : β} (h1 : o.map (fun s => (f1 s, f2 s)) = some (a, b)) (h2 : o.map g = some c) (h3 : o.map (fun s => (k1 s, k2 s)) = some (d, e)) :
    o.map (fun s => (f1 s, f2 s, (g s, k1 s, k2 s))) = some (a, b, (c, d, e)) := by
  cases o with
  | none => cases h1
  | some s =>
    have h1 := Option.some.inj h1
    have h2 := Option.some.inj h2
    have h3 := Option.some.inj h3
    have e1 : f1 s = a := congrArg Prod.fst h1
    have e2 : f2 s = b := congrArg Prod.snd h1
    have e3 : g s = c := h2
    have e4 : k1 s = d := congrArg Prod.fst h3
    have e5 : k2 s = e := congrArg Prod.snd h3
    show some (f1 s, f2 s, (g s, k1 s, k2 s)) = _
    rw [e1, e2, e3, e4, e5]
open PySem.W PySem.Calls in
/-- the run's equation from three looks at it -/
theorem run_three {r : PySem.W.OpenRow} {q : Program} {M n : Nat} {loose : List Str} {fa : List He.Fa} {fn : List He.DefD} {ex : PySem.W.Frag → Bool} {w : World} {ob : PySem.W.SharedT → AlM}
    (ho : ∀ s, ob s = obsM n fa fn ex (HandSHeadRun.getT s))
    (h1 : ∀ os : OsState, (HandSHeadRun.endF (HandSHeadRun.stepQ (HandSHeadRun.denQ HandSHeadRun.tabQ) r.prog w) M r.prog w os).map (fun s => (HandSHeadRun.looksF r.prog (boot_heap w.params) s.abs, HandSHeadRun.seenQ q loose (importedModules r.prog.main.body) (fun s => PySem.W.xlAt q [] s && PySem.W.recOk r.toRowW.records s) s.abs)) = some (true, PySem.W.openGood q loose))
    (h2 : ∀ os : OsState, (HandSHeadRun.endF (HandSHeadRun.stepQ (HandSHeadRun.denQ HandSHeadRun.tabQ) r.prog w) M r.prog w os).map (fun s => He.obsD fa fn (He.frG (HandSHeadRun.getT s) (asM (HandSHeadRun.getT s) n))) = some (He.valD fn))
    (h3 : ∀ os : OsState, (HandSHeadRun.endF (HandSHeadRun.stepQ (HandSHeadRun.denQ HandSHeadRun.tabQ) r.prog w) M r.prog w os).map (fun s => (ex (He.frG (HandSHeadRun.getT s) (asM (HandSHeadRun.getT s) n)), sysB (HandSHeadRun.getT s))) = some (true, true)) :
    HandSHeadRun.RunEq r q (hookM n fa fn ex) ob M loose w := fun os => by
  have z := map_three (h1 os) (h2 os) (h3 os)
  rw [show ob = fun s => obsM n fa fn ex (HandSHeadRun.getT s) from funext ho]
  exact z
end Gx
namespace PySem
namespace GXP
open Builtin Builtin.ObjectAttr HandSPX
section
variable {M : Model} {A : Around} {E : Value → Shared → Prop} {h : Heap} {g : Array GenState} {d : Drawn} {t : Nat} {os : OsState}
variable {nm q : Str} {C N : Addr} {bs bm bmB : List Value} {hdct : Bool} {sn : List Str} {sub : List Value} {ab : Bool} {col : Option Bool} {dd : Option Addr} {k0 k1 k2 k3 k5 : Option Value} {B newId initId : String}
theorem check_new_kw (F : ExcBaseFacts B newId initId bmB) (hT : ∀ X : String, bm.contains (.type X) = bmB.contains (.type X)) {rest : List Value} {kw : List (Str × Value)} {Q : Unit → Shared → Prop}
    (hC : h.get? C = some (excClassObj nm q C N bs bm hdct sn sub ab col dd k0 k1 k2 k3 k5 newId)) (hq : Q () ⟨h, g, d, t, os⟩) : wpAny M A (checkBuiltinCall newId ⟨.ref C :: rest, kw⟩) Q E ⟨h, g, d, t, os⟩ := by
  have hcont : (Value.ref C :: bm).contains (.type B) = true := by rw [List.contains_cons, hT, F.hasB, Bool.or_true]
  have hstar := F.noStar
  simp only [checkBuiltinCall, F.newKind, F.newSplit, F.newRow]
  repeat (first | refine wpAny_loadPart_at hC ?_ | (refine wpAny_isSubtype_exc hC ?_; rw [hcont]) | refine wpAny_staticBase_exc hC ?_ | refine wpAny_madeBy_exc hC ?_ | simp only [bne_self_eq_false, Bool.false_eq_true, if_false] | wp_step)
  exact hq
end
section
variable {prog : Program} {w : World} {A : Around} {E : Value → Shared → Prop} {R : Result → Shared → Prop} {h : Heap} {g : Array GenState} {d : Drawn} {t : Nat} {os : OsState}
variable {nm q : Str} {C N : Addr} {bs bm bmB : List Value} {hdct : Bool} {sn : List Str} {sub : List Value} {ab : Bool} {col : Option Bool} {dd : Option Addr} {k0 k1 k2 k3 k5 : Option Value} {B newId initId : String}

theorem new_kw (F : ExcBaseFacts B newId initId bmB) (hT : ∀ X : String, bm.contains (.type X) = bmB.contains (.type X)) {rest : List Value} {kw : List (Str × Value)}
    (hC : h.get? C = some (excClassObj nm q C N bs bm hdct sn sub ab col dd k0 k1 k2 k3 k5 newId))
    (hq : R (.ok (.ret (.ref (h.objs.size + 1)))) ⟨(h.push { cls := .type "tuple", data := .seq rest.toArray }).push
      { cls := .ref C, data := .fields #[.ref h.objs.size, .none, .none, .none, .bool false, .none] }, g, d, t, os⟩) (hrest : rest.length ≤ sizeLine) :
    codeAny (model prog w) A (.builtin newId ⟨.ref C :: rest, kw⟩) R ⟨h, g, d, t, os⟩ := by
  have hends := F.ends
  have hcB : (Value.ref C :: bm).contains (.type B) = true := by rw [List.contains_cons, hT, F.hasB, Bool.or_true]
  have hcA : (Value.ref C :: bm).contains (.type "AttributeError") = false := by rw [List.contains_cons, hT, F.noAttr]; rfl
  have hcN : (Value.ref C :: bm).contains (.type "NameError") = false := by rw [List.contains_cons, hT, F.noName]; rfl
  refine codeAny_builtinAt F.entry ?_
  unfold Builtin.«BaseException.__new__»
  refine wpAt_bind ?_
  show wpAt _ _ _ (stack >>= _) _ _ _
  refine wpAt_bind (wpAt_stack fun p below => wpAt_of_wpAny ?_)
  wp_walk
  refine wpAt_of_wpAny ?_
  rw [F.owner]
  repeat (first | with_reducible refine wpAny_madeHere_exc F.canon hC ?_ | with_reducible refine wpAny_loadPart_at hC ?_ | (with_reducible refine wpAny_isSubtype_exc hC ?_; first | rw [hcB] | rw [hcA] | rw [hcN]) | wp_step)
  show R _ _
  rw [Heap.size_push]
  exact hq

theorem type_call_kw (F : ExcBaseFacts B newId initId bmB) (hT : ∀ X : String, bm.contains (.type X) = bmB.contains (.type X)) {rest : List Value} {kw : List (Str × Value)} {fI : Addr} {Q : Fin → Shared → Prop}
    (hC : h.get? C = some (excClassObj nm q C N bs bm hdct sn sub ab col dd k0 k1 k2 k3 k5 newId))
    (hi : W.Looks (model prog w) h (typeLookup (.ref C) "__init__") (some (.ref fI))) (hb : ∀ self, W.Looks (model prog w) h (bindSpecial (.ref fI) self) (.ref fI, [self])) (hrest : rest.length ≤ sizeLine)
    (hq : codeAny (model prog w) A (.call (.ref fI) ⟨.ref (h.objs.size + 1) :: rest, kw⟩)
      (fun r s' => match r with | .ok (.ret v) => v = .none ∧ Q (.done (.ret (.ref (h.objs.size + 1)))) s' | .ok _ => False | .error e => E e s')
      ⟨(h.push (W.kdv_tup rest)).push (excO C h.objs.size), g, d, t, os⟩) :
    wpAny (model prog w) A (Builtin.«type.__call__» ⟨.ref C :: rest, kw⟩) Q E ⟨h, g, d, t, os⟩ := by
  repeat (first | with_reducible refine wpAny_loadPart_at hC ?_ | with_reducible refine wpAny_madeBy_exc hC ?_ | wp_step)
  refine codeAny_call_builtin_code (Code.quiet_builtin _ F.quiet) (check_new_kw F hT hC ?_)
  refine new_kw F hT hC ?_ hrest
  show wpAny _ _ _ _ _ _
  have k : ∀ b o, h.get? b = some o → ((h.push (W.kdv_tup rest)).push (excO C h.objs.size)).get? b = some o := fun b o e => Heap.get?_push_of_some _ (Heap.get?_push_of_some _ e)
  have hC₁ := k _ _ hC
  have hget : ((h.push (W.kdv_tup rest)).push (excO C h.objs.size)).get? (h.objs.size + 1) = some (excO C h.objs.size) := by heap_get
  have hcC : (Value.ref C :: bm).contains (.ref C) = true := by simp
  have i1 := hi.keeps k
  have b1 := (hb (.ref (h.objs.size + 1))).keeps k
  unfold isInstance
  repeat (first | with_reducible refine wpAny_loadPart_at hget ?_ | (with_reducible refine wpAny_isSubtype_exc hC₁ ?_; rw [hcC]) | wp_step)
  show wpAny _ _ (typeLookup (.ref C) _) _ _ _
  refine i1.at ?_
  refine wpAny_holding (wpAny_bind (b1.at ?_))
  refine wpAny_bind (wpAny_call (codeAny_mono hq fun r s' z => ?_))
  rcases r with e | (v | _ | _ | _) <;> first | exact z | exact z.elim | skip
  obtain ⟨rfl, z⟩ := z
  first
    | exact wpAny_pure (wpAny_pure z)
    | (wp_walk; exact z)

theorem call_kw (F : ExcBaseFacts B newId initId bmB) (hT : ∀ X : String, bm.contains (.type X) = bmB.contains (.type X)) {rest : List Value} {kw : List (Str × Value)} {fI : Addr}
    (hC : h.get? C = some (excClassObj nm q C N bs bm hdct sn sub ab col dd k0 k1 k2 k3 k5 newId))
    (hi : W.Looks (model prog w) h (typeLookup (.ref C) "__init__") (some (.ref fI))) (hb : ∀ self, W.Looks (model prog w) h (bindSpecial (.ref fI) self) (.ref fI, [self])) (hrest : rest.length ≤ sizeLine)
    (hq : codeAny (model prog w) (A.under (.builtin "type.__call__" ⟨.ref C :: rest, kw⟩)) (.call (.ref fI) ⟨.ref (h.objs.size + 1) :: rest, kw⟩) (W.InitBack (h.objs.size + 1) R)
      ⟨(h.push (W.kdv_tup rest)).push (excO C h.objs.size), g, d, t, os⟩) :
    codeAny (model prog w) A (.call (.ref C) ⟨rest, kw⟩) R ⟨h, g, d, t, os⟩ := by
  have f1 := tc_lookup
  have f2 := tc_bind (.ref C)
  have hTy : (⟨h, g, d, t, os⟩ : Shared).TypeIs (.ref C) "type" := ⟨_, hC, rfl⟩
  refine codeAny_of_tree ?_
  show wpAny _ _ (callAny (.ref C) _) _ _ _
  repeat (any_goals (first | assumption | with_reducible refine wpAny_loadPart_at hC ?_ | wp_step))
  refine ⟨rfl, ?_⟩
  refine codeAny_call_builtin_at (Code.quiet_builtin _ (by decide +kernel)) entry_typeCall (wpAny_check_type_call_sub hC (type_call_kw F hT hC hi hb hrest ?_))
  refine codeAny_mono hq fun r s' z => ?_
  rcases r with e | (v | _ | _ | _) <;> exact z
end
end GXP
end PySem
namespace Gx
open PySem PySem.Spec PyProof.Rows L2
/-! ### errors as plain values -/
/-- a built-in class over which the program's error classes stand -/
structure EB (B newId initId : String) (bmB : List Value) : Prop where
  F : ExcBaseFacts B newId initId bmB
  S : StoreFacts B bmB "object.__setattr__" "object"
abbrev tlV : List Value := [.type "ValueError", .type "Exception", .type "BaseException", .type "object"]
abbrev tlL : List Value := [.type "LookupError", .type "Exception", .type "BaseException", .type "object"]
abbrev tlR : List Value := [.type "RuntimeError", .type "Exception", .type "BaseException", .type "object"]
abbrev tlA : List Value := [.type "ArithmeticError", .type "Exception", .type "BaseException", .type "object"]
theorem ebV : EB "ValueError" "ValueError.__new__" "ValueError.__init__" tlV := ⟨PySem.F.excBase_ValueError, PySem.F.store_ValueError⟩
theorem ebL : EB "LookupError" "LookupError.__new__" "LookupError.__init__" tlL := ⟨PySem.F.excBase_LookupError, PySem.F.store_LookupError⟩
theorem ebR : EB "RuntimeError" "RuntimeError.__new__" "RuntimeError.__init__" tlR := ⟨PySem.F.excBase_RuntimeError, PySem.F.store_RuntimeError⟩
theorem ebA : EB "ArithmeticError" "ArithmeticError.__new__" "ArithmeticError.__init__" tlA := ⟨PySem.F.excBase_ArithmeticError, PySem.F.store_ArithmeticError⟩
/-- what the written part says of such a class -/
def ecB (K : PySem.W.Frag) (C : Addr) (bmB : List Value) (newId : String) : Bool :=
  PySem.W.excInitIn K C bmB newId && PySem.W.excOver K C bmB && PySem.W.hasDictIn K C && PySem.W.keepIn K (.ref C) && PySem.W.isClsIn K C &&
  (PySem.W.typeIn K (.ref C) == some (.type "type")) && (PySem.W.findIn K (.ref C) "__setattr__" == some (some (.builtin "object.__setattr__"))) &&
  (PySem.W.findIn K (.ref C) "__getattribute__" == some (some (.builtin "BaseException.__getattribute__"))) && (PySem.W.findIn K (.ref C) "__getattr__" == some none) &&
  (PySem.W.findIn K (.ref C) "__class__" == some (some (.builtin "object.__class__"))) && (PySem.W.subIn K (.ref C) (.type "BaseException") == some true) &&
  (PySem.W.mroIn K C (.type "object") == some true) && (PySem.W.specialIn K (.builtin "object.__class__") "__get__" == some (some (.builtin "getset_descriptor.__get__"))) &&
  (PySem.W.takesIn K (.builtin "object.__class__") == some true)
structure EC (K : PySem.W.Frag) (C : Addr) (bmB : List Value) (newId : String) : Prop where
  i : PySem.W.excInitIn K C bmB newId = true
  o : PySem.W.excOver K C bmB = true
  hd : PySem.W.hasDictIn K C = true
  kC : PySem.W.keepIn K (.ref C) = true
  is : PySem.W.isClsIn K C = true
  ty : PySem.W.typeIn K (.ref C) = some (.type "type")
  sa : PySem.W.findIn K (.ref C) "__setattr__" = some (some (.builtin "object.__setattr__"))
  ga : PySem.W.findIn K (.ref C) "__getattribute__" = some (some (.builtin "BaseException.__getattribute__"))
  gg : PySem.W.findIn K (.ref C) "__getattr__" = some none
  gc : PySem.W.findIn K (.ref C) "__class__" = some (some (.builtin "object.__class__"))
  ex : PySem.W.subIn K (.ref C) (.type "BaseException") = some true
  mo : PySem.W.mroIn K C (.type "object") = some true
  gn : PySem.W.specialIn K (.builtin "object.__class__") "__get__" = some (some (.builtin "getset_descriptor.__get__"))
  gt : PySem.W.takesIn K (.builtin "object.__class__") = some true
theorem EC.of {K : PySem.W.Frag} {C : Addr} {bmB : List Value} {newId : String} (h : ecB K C bmB newId = true) : EC K C bmB newId := by
  unfold ecB at h
  simp only [Bool.and_eq_true, beq_iff_eq] at h
  obtain ⟨⟨⟨⟨⟨⟨⟨⟨⟨⟨⟨⟨⟨h1, h2⟩, h3⟩, h4⟩, h5⟩, h6⟩, h7⟩, h8⟩, h9⟩, h10⟩, h11⟩, h12⟩, h13⟩, h14⟩ := h
  exact ⟨h1, h2, h3, h4, h5, h6, h7, h8, h9, h10, h11, h12, h13, h14⟩
/-- an error object at p, of the class at C, with these fields (the one stored last first) -/
def ErrO (H : Hp) (p C : Addr) (fs : List (Str × V)) : Prop := (fs = [] ∧ H p = some (exo p C none)) ∨ ∃ d, H p = some (exo p C (some d)) ∧ H d = some (exd d fs)
theorem ErrO.same {H H' : Hp} {p C : Addr} {fs : List (Str × V)} (h : ErrO H p C fs) (s : Same H H') : ErrO H' p C fs := by
  rcases h with ⟨e, h⟩ | ⟨d, h1, h2⟩
  · exact .inl ⟨e, s _ _ h⟩
  · exact .inr ⟨d, s _ _ h1, s _ _ h2⟩
section
variable {X : Cx} {pins : List (Addr × Obj)} {σ : L2.St} {H : Hp} {s : Shared} {a C dx : Addr} {f : Str} {y : V} {u : Value} {fs : List (Str × V)} {Q : Unit → Shared → Prop} {E : Value → Shared → Prop} {A : Around} {B newId initId : String} {bmB : List Value}
theorem storeOwn_new {prog : Program} {w : World} {K : PySem.W.Frag} {R : Fin → Shared → Prop} {hp : Heap} {g : Array GenState} {d : Drawn} {t : Nat} {os : OsState} {name : Str} {tk : Tok} {v : Value} {x C : Addr} {fv : Array Value} {b : Bool}
    (X : K.In hp) (hx : hp.get? x = some { cls := .ref C, data := .fields fv }) (hh : PySem.W.hasDictIn K C = true)
    (hq : ∀ h' tk' dx, (∀ b o, b ≠ x → hp.get? b = some o → h'.get? b = some o) → hp.objs.size ≤ dx → dx ≠ x → h'.get? x = some { cls := .ref C, dict := some dx, data := .fields fv } →
      h'.Ns1 dx (fun y => if y = name then some v else none) → R (.done (.ret .none)) ⟨h', g, d, tk', os⟩) :
    wpAny (model prog w) A (Builtin.ObjectAttr.storeInOwnDict (.ref x) (.ref C) (.str name tk) name v b) R E ⟨hp, g, d, t, os⟩ := by
  obtain ⟨cd, hcd, hd⟩ := PySem.W.any_some hh
  have hcls : PySem.W.Looks (model prog w) hp (classData C) cd := PySem.W.looks_clsIn X hcd
  have hxs : x ≠ hp.objs.size := Nat.ne_of_lt (Heap.lt_size hx)
  obtain ⟨nm, bs, mro, ns, qn, hdd, sn, sb, ab, col, del⟩ := cd
  dsimp only at hd
  subst hd
  unfold Builtin.ObjectAttr.storeInOwnDict Builtin.ObjectAttr.ownDictForStores
  repeat (first | with_reducible refine HandSPX.store_in_new ?_ ?_ | with_reducible refine wpAny_loadPart_at hx ?_ | with_reducible refine hcls.at ?_ | wp_step)
  · exact ⟨_, #[], _, (Heap.get?_update_ne _ _ _ _ hxs.symm).trans (Heap.get?_push_at rfl rfl), rfl, fun e he => absurd he (by simp), fun _ => rfl⟩
  · intro h' tk' hn' hs
    have hx₁ : (hp.push { cls := .type "dict", data := .dict #[] }).get? x = some { cls := .ref C, data := .fields fv } := Heap.get?_push_of_some _ hx
    refine hq h' tk' hp.objs.size (fun b o hb ho => ?_) (Nat.le_refl _) hxs.symm ?_ hn'
    · exact (hs.2 b (Nat.ne_of_lt (Heap.lt_size ho))).trans ((Heap.get?_update_ne _ _ _ _ hb).trans (Heap.get?_push_of_some _ ho))
    · exact (hs.2 x hxs).trans (Heap.get?_update_self _ hx₁ rfl)
end
end Gx
namespace Gx
open PySem PySem.Spec PyProof.Rows L2
section
variable {X : Cx} {pins : List (Addr × Obj)} {σ : L2.St} {H : Hp} {s : Shared} {a C dx : Addr} {f : Str} {y : V} {u : Value} {fs : List (Str × V)} {Q : Unit → Shared → Prop} {E : Value → Shared → Prop} {A : Around} {B newId initId : String} {bmB : List Value}
theorem taker_none {K : PySem.W.Frag} {C : Addr} {f : Str} (h : PySem.W.findIn K (.ref C) f = some none) : PySem.W.takerIn K C f = some none := by unfold PySem.W.takerIn; rw [h]; rfl
/-- self.f = y, the first one -/
theorem osb_new (F : EB B newId initId bmB) (T : EC X.K C bmB newId) (I : Inv X pins σ H s) (e : H a = some (exo a C none)) (hno : PySem.W.findIn X.K (.ref C) f = some none) (ry : RelV y u)
    (h : ∀ dx s', H dx = none → dx ≠ a → Inv X pins σ (upd (upd H dx (exd dx [(f, y)])) a (exo a C (some dx))) s' → Q () s') : wpAny (model X.prog X.w) A (setAttr (.ref a) f u) Q E s := by
  obtain ⟨t1, ho⟩ := exo_at I.hok e
  obtain ⟨hp, g, d, t, os⟩ := s
  have IA : PySem.W.InstAt hp a { cls := .ref C, dict := none, data := .fields #[.ref t1, .none, .none, .none, .bool false, .none] } C none := ⟨ho, rfl, rfl, trivial⟩
  refine PySem.W.set_plain I.kIn (od := none) IA T.sa ?_
  refine PySem.W.osa_openX (od := none) F.S I.kIn IA T.o (taker_none hno) fun b => ?_
  refine storeOwn_new I.kIn ho T.hd (fun h' tk' dx k dn dne hx hn => ?_)
  have hnd : H dx = none := I.hok.fresh dn
  have nd : ∀ {b : Addr} {o : Obj}, hp.get? b = some o → b ≠ dx := fun {b o} q => Nat.ne_of_lt (Nat.lt_of_lt_of_le (Heap.lt_size q) dn)
  have na : ∀ {b : Addr}, H b = none → b ≠ a := fun {b} n z => by
    rw [z, e] at n
    cases n
  have Un1 : Un X.fs [] H (upd (upd H dx (exd dx [(f, y)])) a (exo a C (some dx))) hp h' := {
    keep := fun b o q n _ _ => k b o (na n) q
    slot := fun b o q n _ _ => ⟨o.slots, k b o (na n) q⟩
    free := fun b o q n _ => by rw [upd_ne (na n), upd_ne (nd q)]; exact n
    there := fun b o q _ => by
      by_cases hb : b = a
      · exact ⟨_, by rw [hb]; exact hx⟩
      · exact ⟨o, k b o hb q⟩
    tups := fun b xs q => by rw [upd_ne (at_ne e q exo_tup), upd_ne (ne_of_none q hnd)]; exact q
    frzs := fun b o v q => by rw [upd_ne (at_ne e q exo_frz), upd_ne (ne_of_none q hnd)]; exact q
    tbls := fun b ps q => ⟨#[], by rw [upd_ne (at_ne e q exo_tbl), upd_ne (ne_of_none q hnd), q]; simp⟩ }
  refine h dx _ hnd dne (I.un (t' := tk') Un1 fun b o q => ?_)
  by_cases hb : b = a
  · subst hb
    rw [upd_same] at q
    cases q
    exact exo_ok hx
  · rw [upd_ne hb] at q
    by_cases hd : b = dx
    · subst hd
      rw [upd_same] at q
      cases q
      exact exd_ok hn (relO_put (fs := []) ry fun g => True.intro)
    · rw [upd_ne hd] at q
      exact (I.hok b o q).stay (fun c v hc z => k c v (by
          rcases hc with hc | hc
          · rw [hc]
            exact hb
          · exact at_ne e hc exo_own) z)
        (fun c hc => by rw [upd_ne (at_ne e hc exo_own), upd_ne (ne_of_none hc hnd)]; exact hc) (fun c xs hc => by rw [upd_ne (at_ne e hc exo_tup), upd_ne (ne_of_none hc hnd)]; exact hc)
/-- self.f = y, a further one -/
theorem osb_old (F : EB B newId initId bmB) (T : EC X.K C bmB newId) (I : Inv X pins σ H s) (e : H a = some (exo a C (some dx))) (ed : H dx = some (exd dx fs)) (hl : fs.length ≤ 900) (hno : PySem.W.findIn X.K (.ref C) f = some none) (ry : RelV y u)
    (h : ∀ s', Inv X pins σ (upd H dx (exd dx ((f, y) :: fs))) s' → Q () s') : wpAny (model X.prog X.w) A (setAttr (.ref a) f u) Q E s := by
  obtain ⟨t1, ho⟩ := exo_at I.hok e
  obtain ⟨mA, hns, rel⟩ := exd_at I.hok ed
  have hw := within_of rel
  obtain ⟨hp, g, d, t, os⟩ := s
  obtain ⟨oD, _, _, hoD, _, _⟩ := hns.count hw
  have IA : PySem.W.InstAt hp a { cls := .ref C, dict := some dx, data := .fields #[.ref t1, .none, .none, .none, .bool false, .none] } C (some oD) := ⟨ho, rfl, rfl, hoD⟩
  refine PySem.W.set_plain I.kIn (od := some oD) IA T.sa ?_
  refine PySem.W.osa_openX (od := some oD) F.S I.kIn IA T.o (taker_none hno) fun b => ?_
  obtain ⟨cd, hcd, hd⟩ := PySem.W.any_some T.hd
  have hcls : PySem.W.Looks (model X.prog X.w) hp (classData C) cd := PySem.W.looks_clsIn I.kIn hcd
  obtain ⟨nm, bs, mro, ns, qn, hdd, sn, sb, ab, col, del⟩ := cd
  dsimp only at hd
  subst hd
  show wpAny _ _ (Builtin.ObjectAttr.storeInOwnDict (.ref a) (.ref C) (.str f _) f u b) _ _ _
  unfold Builtin.ObjectAttr.storeInOwnDict Builtin.ObjectAttr.ownDictForStores
  repeat (first | with_reducible refine PySem.OEX.store_in_old hns hw (by rw [List.length_map]; omega) ?_ | with_reducible refine wpAny_loadPart_at ho ?_ | with_reducible refine hcls.at ?_ | wp_step)
  intro h' tk' hn hs
  have hd : ∃ o, h'.get? dx = some o := by
    obtain ⟨o, _, _, e', _⟩ := hn
    exact ⟨o, e'⟩
  exact h _ (I.write (t' := tk') (x := dx) (e := dx) (o := exd dx ((f, y) :: fs)) (by rw [ed]; exact True.intro) (.inl rfl) (fun b o hb ho => (hs.2 b hb).trans ho) hd (exd_ok hn (relO_put ry rel)))
end
/-- self.f = e within such an __init__ -/
def tOsb (K : PySem.W.Frag) (C : Addr) (f : Str) (to te : TE) : TS := fun D σ H => te σ H fun y H1 => to σ H1 fun x H2 => ∃ a : Addr, x = .ref a ∧ PySem.W.findIn K (.ref C) f = some none ∧
  ((H2 a = some (exo a C none) ∧ ∀ dx, H2 dx = none → dx ≠ a → D.nx σ (upd (upd H2 dx (exd dx [(f, y)])) a (exo a C (some dx)))) ∨
    ∃ (dx : Addr) (fs : List (Str × V)), H2 a = some (exo a C (some dx)) ∧ H2 dx = some (exd dx fs) ∧ fs.length ≤ 900 ∧ D.nx σ (upd H2 dx (exd dx ((f, y) :: fs))))
theorem ps_osb {X : Cx} {o e : Expr} {to te : TE} {f : Str} {p' pos : Pos} {C : Addr} {B newId initId : String} {bmB : List Value} (F : EB B newId initId bmB) (T : EC X.K C bmB newId)
    (ho : PE X o to) (he : PE X e te) (hs : swapsWith e (some (.Attribute o f p')) pos.line X.env = pure false := by rfl) : PS X (.Assign [.Attribute o f p'] e pos) (tOsb X.K C f to te) := by
  refine ⟨fun pins s σ H D I h => ?_⟩
  refine plainObj_wpAny_Assign_Attribute (thn (he.run pins s σ H _ I h) fun v s1 ⟨y, H1, I1, r1, q1⟩ => thn (ho.run pins s1 σ H1 _ I1 q1) fun u s2 ⟨x, H2, I2, r2, a, ex, hno, q⟩ => ?_) hs
  subst ex
  obtain rfl : u = Value.ref a := r2
  rcases q with ⟨ea, q⟩ | ⟨dx, fs, ea, ed, hl, q⟩
  · exact osb_new F T I2 ea hno r1 fun dx s' n ne J => ⟨σ, _, J, q dx n ne⟩
  · exact osb_old F T I2 ea ed hl hno r1 fun s' J => ⟨σ, _, J, q⟩
/-- what an __init__ that stores its arguments keeps -/
def spI (C : Addr) (ns : List Str) : Sp := fun vs H Q _ => ∃ a ws, vs = .ref a :: ws ∧ ws.length = ns.length ∧ H a = some (exo a C none) ∧
  ∀ H', (∀ b o, b ≠ a → H b = some o → H' b = some o) → ErrO H' a C (ns.zip ws).reverse → Q .non H'
section
variable {P : Program} {w : World} {K : PySem.W.Frag} {mg : Str → Option Value} {base : Heap} {B newId initId : String} {bmB : List Value} {C : Addr}
theorem init1_ok {qual f p1 p2 : Str} {st : Stmt} {fI : Addr} {fd : FuncData} (F : EB B newId initId bmB) (T : EC K C bmB newId) (Fn : Fun K "__init__" qual st fI fd) (S : FnScope [p1, p2] [p1, p2] (defScope st)) (hf : PySem.W.findIn K (.ref C) f = some none)
    (body : ∀ (cdv : Value) (A : Around) (outer : List Env) (s : Shared) (H : Hp) (E : XK), PSs (cxOf CX0 P w K mg base [p1, p2] qual (defScope st) fI cdv A outer s H E).nox (defBody st) (fun D σ H => tOsb K C f (tVar 0) (tVar 1) D σ H)) :
    FnOk P w K mg base CX0 1 fI fd [p1, p2] (spI C [f]) := by
  refine Fn.ok S (fun vs H Q E h => ?_) fun cdv A outer s H vs Q E hr h => ?_
  · obtain ⟨a, ws, rfl, hl, _⟩ := h
    simp only [List.length_cons, hl, List.length_nil]
  · obtain ⟨a, ws, rfl, hl, ha, q⟩ := h
    match ws, hl with
    | [v], _ =>
      refine ⟨_, body cdv A outer s H E, v, rfl, _, rfl, a, rfl, hf, .inl ⟨ha, fun d n ne => q _ (fun b o hb ho => ?_) (.inr ⟨d, upd_same, ?_⟩)⟩⟩
      · rw [upd_ne hb, upd_ne (ne_of_none ho n)]
        exact ho
      · rw [upd_ne ne]
        exact upd_same
theorem init2_ok {qual f g p1 p2 p3 : Str} {st : Stmt} {fI : Addr} {fd : FuncData} (F : EB B newId initId bmB) (T : EC K C bmB newId) (Fn : Fun K "__init__" qual st fI fd) (S : FnScope [p1, p2, p3] [p1, p2, p3] (defScope st))
    (hf : PySem.W.findIn K (.ref C) f = some none) (hg : PySem.W.findIn K (.ref C) g = some none)
    (body : ∀ (cdv : Value) (A : Around) (outer : List Env) (s : Shared) (H : Hp) (E : XK), PSs (cxOf CX0 P w K mg base [p1, p2, p3] qual (defScope st) fI cdv A outer s H E).nox (defBody st)
      (fun D σ H => tOsb K C f (tVar 0) (tVar 1) { D with nx := fun σ1 H1 => tOsb K C g (tVar 0) (tVar 2) D σ1 H1 } σ H)) :
    FnOk P w K mg base CX0 1 fI fd [p1, p2, p3] (spI C [f, g]) := by
  refine Fn.ok S (fun vs H Q E h => ?_) fun cdv A outer s H vs Q E hr h => ?_
  · obtain ⟨a, ws, rfl, hl, _⟩ := h
    simp only [List.length_cons, hl, List.length_nil]
  · obtain ⟨a, ws, rfl, hl, ha, q⟩ := h
    match ws, hl with
    | [v, v2], _ =>
      refine ⟨_, body cdv A outer s H E, v, rfl, _, rfl, a, rfl, hf, .inl ⟨ha, fun d n ne => ?_⟩⟩
      refine ⟨v2, rfl, _, rfl, a, rfl, hg, .inr ⟨d, [(f, v)], upd_same, ?_, by show 1 ≤ 900; decide, ?_⟩⟩
      · rw [upd_ne ne]
        exact upd_same
      refine q _ (fun b o hb ho => ?_) (.inr ⟨d, ?_, upd_same⟩)
      · rw [upd_ne (ne_of_none ho n), upd_ne hb, upd_ne (ne_of_none ho n)]
        exact ho
      · rw [upd_ne (Ne.symm ne)]
        exact upd_same
end
end Gx
namespace Gx
open PySem PySem.Spec PyProof.Rows L2
section
variable {X : Cx} {pins : List (Addr × Obj)} {σ : L2.St} {H : Hp} {s : Shared} {C fI : Addr} {k : Nat} {fd : FuncData} {ps ns : List Str} {B newId initId : String} {bmB : List Value}
theorem run_mkE {us ws : List Value} {kw : List (Str × Value)} {vs : List V} {Q : VK} (F : EB B newId initId bmB) (T : EC X.K C bmB newId) (i1 : PySem.W.findIn X.K (.ref C) "__init__" = some (some (.ref fI))) (i2 : PySem.W.typeIn X.K (.ref fI) = some (.type "function"))
    (F1 : FnOk X.prog X.w X.K X.mg X.base CX0 k fI fd ps (spI C ns)) (hr : Room (k + 1) X.A) (I : Inv X pins σ H s) (hb : ∀ (s : Shared) (a : Addr), X.K.In s.heap → BindsTo s fd ⟨.ref a :: us, kw⟩ (ps.zip (.ref a :: ws))) (r : Vals vs ws) (hl : vs.length = ns.length) (hus : us.length ≤ sizeLine)
    (q : ∀ p H2, Same H H2 → H p = none → ErrO H2 p C (ns.zip vs).reverse → Q (.ref p) H2) : wpAny (model X.prog X.w) X.A (call (.ref C) us kw) (EP X pins σ Q) X.xe s := by
  obtain ⟨nm, N', qn, bs, bm, hdct, sn, sub, ab, col, dd, k0, k1, k2, k3, k5, hC, hT⟩ := PySem.W.excInit_of I.kIn T.i
  obtain ⟨hp, g, dr, tk, os⟩ := s
  have hsz : hp.objs.size ≤ hp.objs.size + 1 := Nat.le_succ _
  have hn : H (hp.objs.size + 1) = none := I.hok.fresh hsz
  have kk : ∀ b o, hp.get? b = some o → ((hp.push (PySem.W.kdv_tup us)).push (PySem.HandSPX.excO C hp.objs.size)).get? b = some o := fun b o e => Heap.get?_push_of_some _ (Heap.get?_push_of_some _ e)
  have hget : ((hp.push (PySem.W.kdv_tup us)).push (PySem.HandSPX.excO C hp.objs.size)).get? (hp.objs.size + 1) = some (PySem.HandSPX.excO C hp.objs.size) := by heap_get
  have I2 : Inv X pins σ (upd H (hp.objs.size + 1) (exo (hp.objs.size + 1) C none)) ⟨(hp.push (PySem.W.kdv_tup us)).push (PySem.HandSPX.excO C hp.objs.size), g, dr, tk, os⟩ :=
    I.laid (t' := tk) (a := hp.objs.size + 1) (o := exo (hp.objs.size + 1) C none) (h' := (hp.push (PySem.W.kdv_tup us)).push (PySem.HandSPX.excO C hp.objs.size)) kk hsz (exo_ok hget)
  refine wpAny_call (PySem.GXP.call_kw F.F hT hC (PySem.W.looks_findIn I.kIn i1) (fun self => PySem.W.bind_fn I.kIn self i2) hus
    (codeAny_mono (F1.run _ X.stack _ _ ⟨Value.ref (hp.objs.size + 1) :: us, kw⟩ (Value.ref (hp.objs.size + 1) :: ws) (V.ref (hp.objs.size + 1) :: vs) (fun v H2 => v = .non ∧ Q (.ref (hp.objs.size + 1)) H2) (fun _ _ _ => False) (hr.make C us kw) (I2.env0.make C us kw) (hb _ _ I2.kIn) (.cons rfl r)
      ⟨_, vs, rfl, hl, upd_same, fun H' sm er => ⟨rfl, q _ H' (fun b o e => sm b o (ne_of_none e hn) (by rw [upd_ne (ne_of_none e hn)]; exact e)) hn er⟩⟩) fun r s' hq' => ?_))
  cases r with
  | error er => exact False.elim hq'
  | ok fl =>
    cases fl with
    | ret u =>
      obtain ⟨v, H', I3, rv, ev, q3⟩ := I2.after hq'
      subst ev
      exact ⟨rv, ⟨V.ref (hp.objs.size + 1), H', I3, rfl, q3⟩⟩
    | next => exact False.elim hq'
    | brk => exact False.elim hq'
    | cont => exact False.elim hq'
end
/-- C(..) as a value: a new error object with these fields -/
def tMkE (C : Addr) (ns : List Str) (ta : TA) : TE := fun σ H Q => ta σ H fun vs H1 => vs.length = ns.length ∧ ∀ p H2, Same H1 H2 → H1 p = none → ErrO H2 p C (ns.zip vs).reverse → Q (.ref p) H2
/-- an error class of the module, made by its own __init__ that stores what it is given -/
structure EM (P : Program) (w : World) (K : PySem.W.Frag) (mg : Str → Option Value) (base : Heap) (x : Str) (ns : List Str) : Prop where
  ex : ∃ B newId initId bmB fI fd qual st ps, mg x = some (.ref (cl mg x)) ∧ EB B newId initId bmB ∧ EC K (cl mg x) bmB newId ∧ PySem.W.findIn K (.ref (cl mg x)) "__init__" = some (some (.ref fI)) ∧ PySem.W.typeIn K (.ref fI) = some (.type "function") ∧
    Fun K "__init__" qual st fI fd ∧ FnOk P w K mg base CX0 1 fI fd ps (spI (cl mg x) ns) ∧ ps.length = ns.length + 1 ∧ ns.length ≤ 2 ∧
    (∀ (kV doc pm : Value) (an : Option Addr) (cdv ct : Value) (us : List Value), us.length = ps.length → bindArgs (PySem.W.fnOf "__init__" qual (defArgs st) (defBody st) (defScope st) .none kV doc pm an cdv ct) ⟨us, []⟩ = pure (ps.zip us)) ∧
    (∀ (kV doc pm : Value) (an : Option Addr) (cdv ct : Value) (u : Value) (ws : List Value), ws.length = ns.length → bindArgs (PySem.W.fnOf "__init__" qual (defArgs st) (defBody st) (defScope st) .none kV doc pm an cdv ct) ⟨[u], ns.zip ws⟩ = pure (ps.zip (u :: ws)))
section
variable {X : Cx} {k : Nat} {x : Str} {ns : List Str} {p pos : Pos} {e : Expr} {es : List Expr} {kws : List Keyword} {t tk : TA}
theorem pe_mkE (M : EM X.prog X.w X.K X.mg X.base x ns) (hr : Room k X.A) (hk : 2 ≤ k) (hg : Gl X x) (ha : PA X (e :: es) t)
    (n0 : (x == ("__debug__" : Str)) = false := by decide) (n1 : starEach (e :: es) X.env = (false, eval e X.env) :: starEach es X.env := by rfl) (n2 : (backTo pos (starEach es X.env)).any (·.1) = false := by rfl) :
    PE X (.Call (.Name x p) (e :: es) [] pos) (tMkE (cl X.mg x) ns t) := by
  obtain ⟨B, newId, initId, bmB, fI, fd, qual, st, ps, m, F, T, i1, i2, Fn, F1, hl, h2, b1, _⟩ := M.ex
  refine ⟨fun pins s σ H Q I h => ?_⟩
  refine wpAny_Call_Name_kw (ld_glob I hg m ?_ n0)
  refine PySem.W.callWith_K (h₀ := X.base) I.ok.mod.kin T.kC (thn (ha.run pos pins s σ H _ I h) fun us s1 ⟨vs, H1, I1, r, l, q⟩ => ⟨I1.kIn, ?_⟩) n1 n2
  have lu : us.length = ns.length := r.length.symm.trans l
  refine run_mkE F T i1 i2 F1 (hr.mono hk) I1 (fun s a _ => ?_) r l (by show us.length ≤ sizeLine; rw [lu, sizeLine_eq]; omega) q
  obtain ⟨oc, od, kV, doc, pm, an, cdv, ct, osl, rfl, _, _⟩ := Fn.ex
  exact .of_eq (b1 kV doc pm an cdv ct _ (by show us.length + 1 = ps.length; rw [lu, hl]))
theorem pe_mkEK (M : EM X.prog X.w X.K X.mg X.base x ns) (hr : Room k X.A) (hk : 2 ≤ k) (hg : Gl X x) (hkw : PK X kws tk)
    (n1 : (backToKw pos (keywordEach kws X.env)).all (·.1.isSome) = true := by rfl) (n2 : (backToKw pos (keywordEach kws X.env)).filterMap (·.1) = ns := by rfl) (n0 : (x == ("__debug__" : Str)) = false := by decide)
    (n3 : ((backTo pos (starEach [] X.env)).any (·.1) || (backToKw pos (keywordEach kws X.env)).any (·.1.isNone)) = false := by rfl) :
    PE X (.Call (.Name x p) [] kws pos) (tMkE (cl X.mg x) ns tk) := by
  obtain ⟨B, newId, initId, bmB, fI, fd, qual, st, ps, m, F, T, i1, i2, Fn, F1, hl, h2, _, b2⟩ := M.ex
  refine ⟨fun pins s σ H Q I h => ?_⟩
  refine wpAny_Call_Name_kw (ld_glob I hg m ?_ n0)
  refine PySem.W.callWith_KW0 (h₀ := X.base) I.ok.mod.kin T.kC n1 ?_ n3
  refine thn (hkw.run pos pins s σ H _ I h) fun ws s2 ⟨vs, H2, I2, r, l, q⟩ => ⟨I2.kIn, ?_⟩
  rw [n2]
  have lu : ws.length = ns.length := r.length.symm.trans l
  refine run_mkE F T i1 i2 F1 (hr.mono hk) I2 (fun s a _ => ?_) r l (Nat.zero_le _) q
  obtain ⟨oc, od, kV, doc, pm, an, cdv, ct, osl, rfl, _, _⟩ := Fn.ex
  exact .of_eq (b2 kV doc pm an cdv ct _ ws lu)
/-- an error class without own __init__ -/
structure EN (K : PySem.W.Frag) (mg : Str → Option Value) (x : Str) : Prop where
  ex : ∃ B newId initId bmB, mg x = some (.ref (cl mg x)) ∧ EB B newId initId bmB ∧ EC K (cl mg x) bmB newId ∧ PySem.W.excIn K (cl mg x) bmB newId = true
def tMk0 (C : Addr) : TE := fun _ H Q => ∀ p H2, Same H H2 → H p = none → ErrO H2 p C [] → Q (.ref p) H2
theorem pe_mkE0 (M : EN X.K X.mg x) (hg : Gl X x) (n0 : (x == ("__debug__" : Str)) = false := by decide) : PE X (.Call (.Name x p) [] [] pos) (tMk0 (cl X.mg x)) := by
  obtain ⟨B, newId, initId, bmB, m, F, T, q0⟩ := M.ex
  refine ⟨fun pins s σ H Q I h => ?_⟩
  refine wpAny_Call_Name_kw (ld_glob I hg m ?_ n0)
  refine PySem.W.callWith_K0 I.kIn T.kC ?_
  obtain ⟨bm, N, nm, qn, bs, hdct, sn, sub, ab, col, dd, k0, k1, k2, k3, k5, mN, hC, hN, hni, TT⟩ := exc_obj I.kIn q0
  refine wpAny_call_exc_subT F.F TT hC hN hni (fun h' a hm => ?_) (Nat.zero_le _)
  have hn : H a = none := I.hok.gone hm.new
  obtain ⟨t, ht, _, _⟩ := hm.there
  refine ⟨.ref a, upd H a (exo a (cl X.mg x) none), I.laidN hm.keeps hm.new hn (exo_ok ht), rfl, h a _ (fun b o e => by rw [upd_ne (ne_of_none e hn)]; exact e) hn (.inl ⟨rfl, upd_same⟩)⟩
end
end Gx
namespace Gx
open PySem PySem.Spec PyProof.Rows L2
section
variable {X : Cx} {pins : List (Addr × Obj)} {σ : L2.St} {H : Hp} {s : Shared}
theorem ErrO.inst {p C : Addr} {fs : List (Str × V)} (I : Inv X pins σ H s) (h : ErrO H p C fs) : ∃ (ox : Obj) (od : Option Obj), PySem.W.InstAt s.heap p ox C od ∧
    (fs = [] ∨ ∃ o, od = some o ∧ ∃ mA : Str → Option Value, (∀ n, RelO (fs.lookup n) (mA n)) ∧ ∀ n, PySem.W.lookIn n o = some (mA n)) := by
  rcases h with ⟨rfl, h⟩ | ⟨d, h1, h2⟩
  · obtain ⟨t1, ho⟩ := exo_at I.hok h
    exact ⟨_, none, ⟨ho, rfl, rfl, trivial⟩, .inl rfl⟩
  · obtain ⟨t1, ho⟩ := exo_at I.hok h1
    obtain ⟨mA, hns, hr⟩ := exd_at I.hok h2
    obtain ⟨od, hod, hl⟩ := lookIn_ns hns
    exact ⟨_, some od, ⟨ho, rfl, rfl, hod⟩, .inr ⟨od, rfl, mA, hr, hl⟩⟩
end
/-- e.f of an error object -/
def tEf (K : PySem.W.Frag) (f : Str) (te : TE) : TE := fun σ H Q => te σ H fun x H1 => ∃ (p C : Addr) (bmB : List Value) (newId : String) (fs : List (Str × V)) (v : V), x = .ref p ∧ ErrO H1 p C fs ∧ EC K C bmB newId ∧ PySem.W.findIn K (.ref C) f = some none ∧ fs.lookup f = some v ∧ Q v H1
theorem pe_ef {X : Cx} {e : Expr} {te : TE} {pos : Pos} {n : Str} (he : PE X e te) (hb : attributeBase e n X.env (eval e X.env) = eval e X.env := by rfl) : PE X (.Attribute e n pos) (tEf X.K n te) := by
  refine ⟨fun pins s σ H Q I h => ?_⟩
  refine attr_of hb (thn (he.run pins s σ H _ I h) fun u s1 hh => ?_)
  obtain ⟨x, H1, I1, rx, p, C, bmB, newId, fs, v, ex, er, T, hno, l, q⟩ := hh
  subst ex
  obtain rfl : u = Value.ref p := rx
  obtain ⟨ox, od, J, hh⟩ := er.inst I1
  rcases hh with rfl | ⟨o, rfl, mA, hr, hl⟩
  · cases l
  · obtain ⟨u, hu, ru⟩ := RelO.some_of (v := v) (o := mA n) (by rw [← l]; exact hr n)
    exact HandSPX.exc_get I1.kIn J T.ga T.gg T.ex (PySem.W.findObj_own T.hd hno rfl (by rw [hl, hu])) (handed_of ru) ⟨v, H1, I1.tok _, ru, q⟩
/-- isinstance(e, c), e an error object -/
def rIsO (K : PySem.W.Frag) : List V → Hp → VK → Prop := fun xs H Q => ∃ (p C : Addr) (bmB : List Value) (newId : String) (fs : List (Str × V)) (c : V) (cv : Value) (b : Bool), xs = [.ref p, c] ∧ ErrO H p C fs ∧ EC K C bmB newId ∧ (∀ u, RelV c u → u = cv) ∧ PySem.W.kitOne K (.ref C) cv = some b ∧ Q (.bl b) H
theorem call_isO {X : Cx} {K : PySem.W.Frag} (hK : X.K = K) : CallR X (.builtin "isinstance") (rIsO K) := by
  subst hK
  intro pins s σ H xs us Q I r h
  obtain ⟨p, C, bmB, newId, fs, c, cv, b, rfl, er, T, hcv, e, q⟩ := h
  obtain ⟨u1, u2, rfl, r1, r2⟩ := vals2 r
  obtain rfl : u1 = Value.ref p := r1
  obtain rfl := hcv _ r2
  obtain ⟨ox, od, J, _⟩ := er.inst I
  exact PySem.W.kia_one (PySem.W.kitx_exc (gt := none) T.is T.ga T.gg T.ex T.gc T.gn T.gt T.mo) I.kIn J e (fun z => nomatch z) fun tk => ⟨.bl b, H, I.tok tk, rfl, q⟩
/-! ### lists of such -/
/-- new error objects, one behind another: their classes and fields -/
def ErrsO (H : Hp) : List Addr → List (Addr × List (Str × V)) → Prop
  | [], [] => True
  | p :: ps, (C, fs) :: cs => ErrO H p C fs ∧ ErrsO H ps cs
  | _, _ => False
theorem ErrsO.same {H H' : Hp} (s : Same H H') : ∀ {ps : List Addr} {cs : List (Addr × List (Str × V))}, ErrsO H ps cs → ErrsO H' ps cs
  | [], [], _ => trivial
  | _ :: _, (_, _) :: _, h => ⟨h.1.same s, ErrsO.same s h.2⟩
  | [], _ :: _, h => h.elim
  | _ :: _, [], h => h.elim
theorem ErrsO.app {H : Hp} : ∀ {ps : List Addr} {cs : List (Addr × List (Str × V))} {qs : List Addr} {ds : List (Addr × List (Str × V))}, ErrsO H ps cs → ErrsO H qs ds → ErrsO H (ps ++ qs) (cs ++ ds)
  | [], [], _, _, _, h => h
  | _ :: _, (_, _) :: _, _, _, h, h' => ⟨h.1, ErrsO.app h.2 h'⟩
  | [], _ :: _, _, _, h, _ => h.elim
  | _ :: _, [], _, _, h, _ => h.elim
theorem ErrsO.len {H : Hp} : ∀ {ps : List Addr} {cs : List (Addr × List (Str × V))}, ErrsO H ps cs → ps.length = cs.length
  | [], [], _ => rfl
  | _ :: _, (_, _) :: _, h => by rw [List.length_cons, List.length_cons, ErrsO.len h.2]
  | [], _ :: _, h => h.elim
  | _ :: _, [], h => h.elim
end Gx
namespace Gx
open PySem PySem.Spec PyProof.Rows L2
/-! ### what a value shows, whatever it is made of -/
def Shows (K : PySem.W.Frag) (H : Hp) (x : V) (d : PyData) : Prop := ∀ (X : Cx) (pins : List (Addr × Obj)) (σ : L2.St) (s : Shared) (u : Value), X.K = K → SysD X.base → Inv X pins σ H s → RelV x u → ∃ as, Reads s.heap u d as ∧ sysModules ∉ as
theorem Shows.of {K : PySem.W.Frag} {H : Hp} {x : V} {d : PyData} (h : Dq K H x d) : Shows K H x d := by
  rintro X pins σ s u rfl S I r
  exact Dq.reads2 S I d x u h r
inductive ShowsAll (K : PySem.W.Frag) (H : Hp) : List V → List PyData → Prop
  | nil : ShowsAll K H [] []
  | cons {v : V} {vs : List V} {d : PyData} {ds : List PyData} : Shows K H v d → ShowsAll K H vs ds → ShowsAll K H (v :: vs) (d :: ds)
theorem ShowsAll.reads {X : Cx} {pins : List (Addr × Obj)} {σ : L2.St} {s : Shared} {H : Hp} (S : SysD X.base) (I : Inv X pins σ H s) : ∀ {vs : List V} {ds : List PyData} {us : List Value}, ShowsAll X.K H vs ds → Vals vs us → ∃ as, ReadsAll s.heap us ds as ∧ sysModules ∉ as
  | _, _, _, .nil, r => by
    cases r
    exact ⟨_, .nil, by simp⟩
  | _, _, _, .cons h1 h2, r => by
    cases r with
    | cons r1 r2 =>
      obtain ⟨as, q1, n1⟩ := h1 X pins σ s _ rfl S I r1
      obtain ⟨bs, q2, n2⟩ := ShowsAll.reads S I h2 r2
      exact ⟨_, .cons q1 q2, fun z => (List.mem_append.mp z).elim n1 n2⟩
theorem Shows.lst {K : PySem.W.Frag} {H : Hp} {a : Addr} {vs : List V} {ds : List PyData} (hs : SqL K H a vs) (h : ShowsAll K H vs ds) : Shows K H (.ref a) (.list ds) := by
  rintro X pins σ s u rfl S I r
  cases r
  obtain ⟨its, rv, ⟨o, n, ho, hc, _, hd⟩, _⟩ := I.list hs
  obtain ⟨as, q, na⟩ := ShowsAll.reads S I h rv
  refine ⟨_, .list ho hc hd q, fun z => ?_⟩
  rcases List.mem_cons.mp z with z | z
  · exact not_sys S I ho hc z.symm
  · exact na z
/-- {'..': i} -/
theorem Shows.one {K : PySem.W.Frag} {H : Hp} {a : Addr} {x : Str} {i : Int} (e : H a = some (.dK [(.inr x, .int i)])) : Shows K H (.ref a) (.dict [(.str x, .int i)]) := by
  rintro X pins σ s u rfl S I r
  cases r
  obtain ⟨_, nm, vs, kv, o, es, ep, ho, ex, hd, _, hp, _⟩ := I.hok _ _ e
  cases kv with
  | @cons _ z _ _ k0 kr =>
    cases kr
    obtain ⟨ek, ev⟩ := k0
    obtain ⟨es⟩ := es
    cases hp with
    | @cons en _ _ _ h1 h2 h3 =>
      cases h3
      have k1 : keyIs z.1 en.key = true := h1
      rw [← ek] at k1
      rcases keyIs_shape k1 with ⟨j, t, z1, z2⟩ | ⟨y, t, z1, z2⟩
      · cases z1
      · cases z1
        obtain ⟨t2, e2⟩ : ∃ t2, z.2 = .int i t2 := ev
        refine ⟨_, .dict (as := [] ++ []) (bs := [] ++ []) ho ex.1 hd ?_ ?_, fun y => ?_⟩
        · show ReadsAll s.heap [en.key] [.str x] _
          rw [z2]
          exact .cons (.str _ _) .nil
        · show ReadsAll s.heap [en.val] [.int i] _
          rw [h2, e2]
          exact .cons (.int _ _) .nil
        · have y : sysModules = a := by simpa using y
          rw [← y] at nm
          simp at nm
/-- repr(l), l a list or a tuple -/
def rReprM (K : PySem.W.Frag) : List V → Hp → VK → Prop := fun xs H Q => ∃ a d, xs = [.ref a] ∧ Shows K H (.ref a) d ∧ d.showable = true ∧ d.depth ≤ 30 ∧ d.shown.length ≤ sizeLine ∧ Q (.str d.shown) H
theorem call_reprM {X : Cx} {K : PySem.W.Frag} (hK : X.K = K) (S : SysD X.base) (hgd : X.A.guards = some []) (hu : X.A.units + 64 < cLine) : CallR X (.builtin "repr") (rReprM K) := by
  subst hK
  intro pins s σ H xs us Q I r h
  obtain ⟨a, d, rfl, hd, hs, hdep, hsz, q⟩ := h
  obtain ⟨u, rfl, rx⟩ := vals1 r
  cases rx
  obtain ⟨as, rd, na⟩ := hd X pins σ s _ rfl S I rfl
  exact repr_of_reads' rd hs (fun _ => na) hgd (by omega) (fun _ _ e => e) (fun h' u tk k => ⟨.str d.shown, H, I.kept k, ⟨u, rfl⟩, q⟩) hsz
/-! ### arguments, one behind another, of one kind -/
theorem pa_weak {X : Cx} {es : List Expr} {t t' : TA} (h : PA X es t) (k : ∀ σ H Q, t' σ H Q → t σ H Q) : PA X es t' := ⟨fun pos pins s σ H Q I z => h.run pos pins s σ H Q I (k σ H Q z)⟩
abbrev Cls := Addr × List (Str × V)
/-- new error objects: the slots tell their fields -/
def tErrs (g : L2.St → Option (List Cls)) : TA := fun σ H Q => ∃ cs, g σ = some cs ∧ ∀ ps H2, Same H H2 → ErrsO H2 ps cs → Q (ps.map V.ref) H2
def slot (σ : L2.St) (i : Nat) : Option V := (σ[i]?).join
def g1 (C : Addr) (f : Str) (i : Nat) (g : L2.St → Option (List Cls)) : L2.St → Option (List Cls) := fun σ => (slot σ i).bind fun v => (g σ).map fun cs => (C, [(f, v)]) :: cs
def g2 (C : Addr) (f f2 : Str) (i j : Nat) (g : L2.St → Option (List Cls)) : L2.St → Option (List Cls) := fun σ => (slot σ i).bind fun v => (slot σ j).bind fun v2 => (g σ).map fun cs => (C, [(f2, v2), (f, v)]) :: cs
def g0 (C : Addr) (g : L2.St → Option (List Cls)) : L2.St → Option (List Cls) := fun σ => (g σ).map fun cs => (C, []) :: cs
theorem slot_at {σ : L2.St} {i : Nat} {v : V} (h : slot σ i = some v) : σ[i]? = some (some v) := by
  unfold slot at h
  cases e : σ[i]? with
  | none => rw [e] at h; cases h
  | some o => rw [e] at h; exact congrArg some h
section
variable {X : Cx} {k i j : Nat} {x f f2 : Str} {p pos : Pos} {e e2 : Expr} {es : List Expr} {g : L2.St → Option (List Cls)} {kws : List Keyword}
theorem pa_e0 : PA X [] (tErrs fun _ => some []) := pa_weak pa_nil fun σ H Q ⟨cs, e, q⟩ => by
  cases e
  exact q [] H (Same.refl H) trivial
theorem errs_cons {te : TE} {ex : Expr} {C : Addr} {fs : L2.St → Option (List (Str × V))} (hm : PE X ex te) (hr : PA X es (tErrs g))
    (h : ∀ σ H Q v, fs σ = some v → (∀ p H2, Same H H2 → ErrO H2 p C v → Q (.ref p) H2) → te σ H Q)
    (n1 : starEach (ex :: es) X.env = (false, eval ex X.env) :: starEach es X.env := by rfl) : PA X (ex :: es) (tErrs fun σ => (fs σ).bind fun v => (g σ).map fun cs => (C, v) :: cs) := by
  refine pa_weak (pa_cons hm hr n1) fun σ H Q z => ?_
  obtain ⟨cs, e, q⟩ := z
  obtain ⟨v, e1, e2⟩ := Option.bind_eq_some_iff.mp e
  obtain ⟨ds, e3, rfl⟩ := Option.map_eq_some_iff.mp e2
  refine h σ H _ v e1 fun p H2 s er => ⟨ds, e3, fun ps H3 s3 er3 => ?_⟩
  exact q (p :: ps) H3 (s.trans s3) ⟨er.same s3, er3⟩
theorem pa_e1 (M : EM X.prog X.w X.K X.mg X.base x [f]) (hr : Room k X.A) (hk : 2 ≤ k) (hg : Gl X x) (ha : PA X [e] (tCons (tVar i) tNil)) (hs : PA X es (tErrs g)) (n0 : (x == ("__debug__" : Str)) = false := by decide)
    (n1 : starEach [e] X.env = (false, eval e X.env) :: starEach [] X.env := by rfl) (n2 : (backTo pos (starEach [] X.env)).any (·.1) = false := by rfl)
    (n3 : starEach (.Call (.Name x p) [e] [] pos :: es) X.env = (false, eval (.Call (.Name x p) [e] [] pos) X.env) :: starEach es X.env := by rfl) :
    PA X (.Call (.Name x p) [e] [] pos :: es) (tErrs (g1 (cl X.mg x) f i g)) := by
  have z := errs_cons (C := cl X.mg x) (fs := fun σ => (slot σ i).map fun v => [(f, v)]) (pe_mkE (p := p) (pos := pos) M hr hk hg ha n0 n1 n2) hs (fun σ H Q v e q => ?_) n3
  · refine pa_weak z fun σ H Q ⟨cs, e, q⟩ => ⟨cs, ?_, q⟩
    obtain ⟨v, e1, e2⟩ := Option.bind_eq_some_iff.mp e
    show ((slot σ i).map fun v => [(f, v)]).bind _ = _
    rw [e1]
    exact e2
  · obtain ⟨v, e1, rfl⟩ := Option.map_eq_some_iff.mp e
    exact ⟨v, slot_at e1, rfl, fun p H2 s _ er => q p H2 s er⟩
theorem pa_e2 (M : EM X.prog X.w X.K X.mg X.base x [f, f2]) (hr : Room k X.A) (hk : 2 ≤ k) (hg : Gl X x) (ha : PA X [e, e2] (tCons (tVar i) (tCons (tVar j) tNil))) (hs : PA X es (tErrs g)) (n0 : (x == ("__debug__" : Str)) = false := by decide)
    (n1 : starEach [e, e2] X.env = (false, eval e X.env) :: starEach [e2] X.env := by rfl) (n2 : (backTo pos (starEach [e2] X.env)).any (·.1) = false := by rfl)
    (n3 : starEach (.Call (.Name x p) [e, e2] [] pos :: es) X.env = (false, eval (.Call (.Name x p) [e, e2] [] pos) X.env) :: starEach es X.env := by rfl) :
    PA X (.Call (.Name x p) [e, e2] [] pos :: es) (tErrs (g2 (cl X.mg x) f f2 i j g)) := by
  have z := errs_cons (C := cl X.mg x) (fs := fun σ => (slot σ i).bind fun v => (slot σ j).map fun v2 => [(f2, v2), (f, v)]) (pe_mkE (p := p) (pos := pos) M hr hk hg ha n0 n1 n2) hs (fun σ H Q v e q => ?_) n3
  · refine pa_weak z fun σ H Q ⟨cs, e, q⟩ => ⟨cs, ?_, q⟩
    obtain ⟨v, e1, e2⟩ := Option.bind_eq_some_iff.mp e
    obtain ⟨v2, e3, e4⟩ := Option.bind_eq_some_iff.mp e2
    show ((slot σ i).bind fun v => (slot σ j).map fun v2 => [(f2, v2), (f, v)]).bind _ = _
    rw [e1, Option.bind_some, e3]
    exact e4
  · obtain ⟨v, e1, e2⟩ := Option.bind_eq_some_iff.mp e
    obtain ⟨v2, e3, rfl⟩ := Option.map_eq_some_iff.mp e2
    exact ⟨v, slot_at e1, v2, slot_at e3, rfl, fun p H2 s _ er => q p H2 s er⟩
theorem pa_en (M : EN X.K X.mg x) (hg : Gl X x) (hs : PA X es (tErrs g)) (n0 : (x == ("__debug__" : Str)) = false := by decide)
    (n3 : starEach (.Call (.Name x p) [] [] pos :: es) X.env = (false, eval (.Call (.Name x p) [] [] pos) X.env) :: starEach es X.env := by rfl) :
    PA X (.Call (.Name x p) [] [] pos :: es) (tErrs (g0 (cl X.mg x) g)) := by
  have z := errs_cons (C := cl X.mg x) (fs := fun _ => some []) (pe_mkE0 (p := p) (pos := pos) M hg n0) hs (fun σ H Q v e q => ?_) n3
  · exact z
  · cases e
    exact fun p H2 s _ er => q p H2 s er
end
end Gx
namespace Gx
open PySem PySem.Spec PyProof.Rows L2
section
variable {X : Cx} {k i j : Nat} {x f f2 : Str} {p pos kp kp2 : Pos} {e e2 : Expr} {es : List Expr} {g : L2.St → Option (List Cls)} {nm nm2 : Option Str}
theorem pa_k1 (M : EM X.prog X.w X.K X.mg X.base x [f]) (hr : Room k X.A) (hk : 2 ≤ k) (hg : Gl X x) (ha : PE X e (tVar i)) (hs : PA X es (tErrs g))
    (n1 : (backToKw pos (keywordEach [⟨nm, e, kp⟩] X.env)).all (·.1.isSome) = true := by rfl) (n2 : (backToKw pos (keywordEach [⟨nm, e, kp⟩] X.env)).filterMap (·.1) = [f] := by rfl) (n0 : (x == ("__debug__" : Str)) = false := by decide)
    (n4 : ((backTo pos (starEach [] X.env)).any (·.1) || (backToKw pos (keywordEach [⟨nm, e, kp⟩] X.env)).any (·.1.isNone)) = false := by rfl)
    (n3 : starEach (.Call (.Name x p) [] [⟨nm, e, kp⟩] pos :: es) X.env = (false, eval (.Call (.Name x p) [] [⟨nm, e, kp⟩] pos) X.env) :: starEach es X.env := by rfl) :
    PA X (.Call (.Name x p) [] [⟨nm, e, kp⟩] pos :: es) (tErrs (g1 (cl X.mg x) f i g)) := by
  have z := errs_cons (C := cl X.mg x) (fs := fun σ => (slot σ i).map fun v => [(f, v)]) (pe_mkEK (p := p) (pos := pos) M hr hk hg (pk_cons ha pk_nil) n1 n2 n0 n4) hs (fun σ H Q v e q => ?_) n3
  · refine pa_weak z fun σ H Q ⟨cs, e, q⟩ => ⟨cs, ?_, q⟩
    obtain ⟨v, e1, e2⟩ := Option.bind_eq_some_iff.mp e
    show ((slot σ i).map fun v => [(f, v)]).bind _ = _
    rw [e1]
    exact e2
  · obtain ⟨v, e1, rfl⟩ := Option.map_eq_some_iff.mp e
    exact ⟨v, slot_at e1, rfl, fun p H2 s _ er => q p H2 s er⟩
theorem pa_k2 (M : EM X.prog X.w X.K X.mg X.base x [f, f2]) (hr : Room k X.A) (hk : 2 ≤ k) (hg : Gl X x) (ha : PE X e (tVar i)) (ha2 : PE X e2 (tVar j)) (hs : PA X es (tErrs g))
    (n1 : (backToKw pos (keywordEach [⟨nm, e, kp⟩, ⟨nm2, e2, kp2⟩] X.env)).all (·.1.isSome) = true := by rfl) (n2 : (backToKw pos (keywordEach [⟨nm, e, kp⟩, ⟨nm2, e2, kp2⟩] X.env)).filterMap (·.1) = [f, f2] := by rfl) (n0 : (x == ("__debug__" : Str)) = false := by decide)
    (n4 : ((backTo pos (starEach [] X.env)).any (·.1) || (backToKw pos (keywordEach [⟨nm, e, kp⟩, ⟨nm2, e2, kp2⟩] X.env)).any (·.1.isNone)) = false := by rfl)
    (n3 : starEach (.Call (.Name x p) [] [⟨nm, e, kp⟩, ⟨nm2, e2, kp2⟩] pos :: es) X.env = (false, eval (.Call (.Name x p) [] [⟨nm, e, kp⟩, ⟨nm2, e2, kp2⟩] pos) X.env) :: starEach es X.env := by rfl) :
    PA X (.Call (.Name x p) [] [⟨nm, e, kp⟩, ⟨nm2, e2, kp2⟩] pos :: es) (tErrs (g2 (cl X.mg x) f f2 i j g)) := by
  have z := errs_cons (C := cl X.mg x) (fs := fun σ => (slot σ i).bind fun v => (slot σ j).map fun v2 => [(f2, v2), (f, v)]) (pe_mkEK (p := p) (pos := pos) M hr hk hg (pk_cons ha (pk_cons ha2 pk_nil)) n1 n2 n0 n4) hs (fun σ H Q v e q => ?_) n3
  · refine pa_weak z fun σ H Q ⟨cs, e, q⟩ => ⟨cs, ?_, q⟩
    obtain ⟨v, e1, e2⟩ := Option.bind_eq_some_iff.mp e
    obtain ⟨v2, e3, e4⟩ := Option.bind_eq_some_iff.mp e2
    show ((slot σ i).bind fun v => (slot σ j).map fun v2 => [(f2, v2), (f, v)]).bind _ = _
    rw [e1, Option.bind_some, e3]
    exact e4
  · obtain ⟨v, e1, e2⟩ := Option.bind_eq_some_iff.mp e
    obtain ⟨v2, e3, rfl⟩ := Option.map_eq_some_iff.mp e2
    exact ⟨v, slot_at e1, v2, slot_at e3, rfl, fun p H2 s _ er => q p H2 s er⟩
end
/-- isinstance(e, c1), isinstance(e, c2), ..: e, an error object, stands in slot i -/
def tIsO (K : PySem.W.Frag) (i : Nat) (ds : List V) : TA := fun σ H Q => ∃ (p C : Addr) (bmB : List Value) (newId : String) (fs : List (Str × V)), slot σ i = some (.ref p) ∧ ErrO H p C fs ∧ EC K C bmB newId ∧
  ∃ F : V → Bool, (∀ d ∈ ds, ∃ u, ClsV d u ∧ PySem.W.kitOne K (.ref C) u = some (F d)) ∧ Q (ds.map fun d => .bl (F d)) H
section
variable {X : Cx} {K : PySem.W.Frag} {i : Nat} {p pos : Pos} {e c : Expr} {es : List Expr} {d : V} {ds : List V}
theorem pa_i0 : PA X [] (tIsO K i []) := pa_weak pa_nil fun σ H Q ⟨_, _, _, _, _, _, _, _, _, _, q⟩ => q
theorem pa_i1 (hK : X.K = K) (hg : Gl X "isinstance") (hm : X.mg "isinstance" = none) (he : PE X e (tVar i)) (hc : PE X c (tC d)) (hs : PA X es (tIsO K i ds))
    (n1 : starEach [e, c] X.env = (false, eval e X.env) :: starEach [c] X.env := by rfl) (n2 : (backTo pos (starEach [c] X.env)).any (·.1) = false := by rfl)
    (n4 : starEach [c] X.env = (false, eval c X.env) :: starEach [] X.env := by rfl)
    (n3 : starEach (.Call (.Name "isinstance" p) [e, c] [] pos :: es) X.env = (false, eval (.Call (.Name "isinstance" p) [e, c] [] pos) X.env) :: starEach es X.env := by rfl) :
    PA X (.Call (.Name "isinstance" p) [e, c] [] pos :: es) (tIsO K i (d :: ds)) := by
  refine pa_weak (pa_cons (pe_callB (call_isO hK) hg hm (show bootBuiltins "isinstance" = some (.builtin "isinstance") by decide +kernel) (pa_cons he (pa_cons hc pa_nil n4) n1) (by decide) (by decide) n1 n2) hs n3) fun σ H Q h => ?_
  obtain ⟨q, C, bmB, newId, fs, h1, h2, h3, F, h4, h5⟩ := h
  obtain ⟨u, k1, k2⟩ := h4 d List.mem_cons_self
  exact ⟨_, slot_at h1, q, C, bmB, newId, fs, d, u, F d, rfl, h2, h3, fun w r => k1.eq r, k2, q, C, bmB, newId, fs, h1, h2, h3, F, fun d' m => h4 d' (List.mem_cons_of_mem _ m), h5⟩
end
/-- what is read from the error objects -/
def Sel (K : PySem.W.Frag) (cs : List Cls) (s : Nat × Str) (v : V) : Prop := ∃ C fs, cs[s.1]? = some (C, fs) ∧ PySem.W.findIn K (.ref C) s.2 = some none ∧ fs.lookup s.2 = some v
/-- xs[0].f, xs[1].g, ..: xs, a list of error objects, stands in slot i -/
def tFld (K : PySem.W.Frag) (i : Nat) (sel : List (Nat × Str)) : TA := fun σ H Q => ∃ (a : Addr) (ps : List Addr) (cs : List Cls), slot σ i = some (.ref a) ∧ SqL K H a (ps.map V.ref) ∧ ErrsO H ps cs ∧ (∀ c ∈ cs, ∃ bmB newId, EC K c.1 bmB newId) ∧
  ∃ vs, Paired (Sel K cs) sel vs ∧ Q vs H
theorem ErrsO.get {H : Hp} {C : Addr} {fs : List (Str × V)} : ∀ {ps : List Addr} {cs : List Cls} {n : Nat}, ErrsO H ps cs → cs[n]? = some (C, fs) → ∃ p, ps[n]? = some p ∧ ErrO H p C fs
  | p :: _, (_, _) :: _, 0, h, e => by
    cases e
    exact ⟨p, rfl, h.1⟩
  | _ :: _, (_, _) :: _, n + 1, h, e => ErrsO.get (n := n) h.2 e
  | [], [], _, _, e => by cases e
  | [], _ :: _, _, h, _ => h.elim
  | _ :: _, [], _, h, _ => h.elim
section
variable {X : Cx} {K : PySem.W.Frag} {i n : Nat} {q pos : Pos} {o : Expr} {es : List Expr} {f : Str} {sel : List (Nat × Str)}
theorem pa_f0 : PA X [] (tFld K i []) := pa_weak pa_nil fun σ H Q ⟨_, _, _, _, _, _, _, vs, h, q⟩ => by
  cases h
  exact q
theorem pa_f1 (hK : X.K = K) (ho : PE X o (tOp (rIxL K) (tVar i) (tC (.int (n : Int))))) (hs : PA X es (tFld K i sel)) (hb : attributeBase o f X.env (eval o X.env) = eval o X.env := by rfl)
    (n3 : starEach (.Attribute o f pos :: es) X.env = (false, eval (.Attribute o f pos) X.env) :: starEach es X.env := by rfl) :
    PA X (.Attribute o f pos :: es) (tFld K i ((n, f) :: sel)) := by
  subst hK
  refine pa_weak (pa_cons (pe_ef (n := f) ho hb) hs n3) fun σ H Q h => ?_
  obtain ⟨a, ps, cs, h1, h2, h3, h4, vs, h5, h6⟩ := h
  cases h5 with
  | cons r1 r2 =>
    obtain ⟨C, fs, e1, e2, e3⟩ := r1
    obtain ⟨p, e4, e5⟩ := h3.get e1
    obtain ⟨bmB, newId, T⟩ := h4 _ (List.mem_of_getElem? e1)
    exact ⟨_, slot_at h1, a, _, _, .ref p, rfl, rfl, h2, atI_nat (by rw [List.getElem?_map, e4]; rfl), p, C, bmB, newId, fs, _, rfl, e5, T, e2, e3, a, ps, cs, h1, h2, h3, h4, _, r2, h6⟩
end
end Gx
namespace Gx
open PySem PySem.Spec PyProof.Rows L2
/-- what the written part says of an error class with an __init__ of its own -/
structure ES (K : PySem.W.Frag) (mg : Str → Option Value) (x qual : Str) (st : Stmt) (bmB : List Value) (newId : String) : Prop where
  m : mg x = some (.ref (cl mg x))
  T : EC K (cl mg x) bmB newId
  ini : ∃ f fd, PySem.W.findIn K (.ref (cl mg x)) "__init__" = some (some (.ref f)) ∧ PySem.W.typeIn K (.ref f) = some (.type "function") ∧ Fun K "__init__" qual st f fd
section
variable {P : Program} {w : World} {K : PySem.W.Frag} {mg : Str → Option Value} {base : Heap} {x qual : Str} {st : Stmt} {bmB : List Value} {B newId initId : String}
theorem ES.of {C f : Addr} {fd : FuncData} (h : mg x = some (.ref C)) (t : ecB K C bmB newId = true) (i1 : PySem.W.findIn K (.ref C) "__init__" = some (some (.ref f))) (i2 : PySem.W.typeIn K (.ref f) = some (.type "function")) (i3 : Fun K "__init__" qual st f fd) : ES K mg x qual st bmB newId := by
  have e := cl_of h
  refine ⟨?_, ?_, f, fd, ?_, i2, i3⟩ <;> rw [e]
  · exact h
  · exact .of t
  · exact i1
theorem ES.em1 {f p1 p2 : Str} (S : ES K mg x qual st bmB newId) (F : EB B newId initId bmB) (Sc : FnScope [p1, p2] [p1, p2] (defScope st)) (hf : PySem.W.findIn K (.ref (cl mg x)) f = some none)
    (body : ∀ (fI : Addr) (cdv : Value) (A : Around) (outer : List Env) (s : Shared) (H : Hp) (E : XK), PSs (cxOf CX0 P w K mg base [p1, p2] qual (defScope st) fI cdv A outer s H E).nox (defBody st) (fun D σ H => tOsb K (cl mg x) f (tVar 0) (tVar 1) D σ H))
    (b1 : ∀ (kV doc pm : Value) (an : Option Addr) (cdv ct : Value) (us : List Value), us.length = 2 → bindArgs (PySem.W.fnOf "__init__" qual (defArgs st) (defBody st) (defScope st) .none kV doc pm an cdv ct) ⟨us, []⟩ = pure ([p1, p2].zip us))
    (b2 : ∀ (kV doc pm : Value) (an : Option Addr) (cdv ct : Value) (u : Value) (ws : List Value), ws.length = 1 → bindArgs (PySem.W.fnOf "__init__" qual (defArgs st) (defBody st) (defScope st) .none kV doc pm an cdv ct) ⟨[u], [f].zip ws⟩ = pure ([p1, p2].zip (u :: ws))) :
    EM P w K mg base x [f] := by
  obtain ⟨m, T, g, fd, i1, i2, Fn⟩ := S
  exact ⟨B, newId, initId, bmB, g, fd, qual, st, [p1, p2], m, F, T, i1, i2, Fn, init1_ok F T Fn Sc hf (body g), rfl, (by show 1 ≤ 2; decide), b1, b2⟩
theorem ES.em2 {f g p1 p2 p3 : Str} (S : ES K mg x qual st bmB newId) (F : EB B newId initId bmB) (Sc : FnScope [p1, p2, p3] [p1, p2, p3] (defScope st)) (hf : PySem.W.findIn K (.ref (cl mg x)) f = some none) (hg : PySem.W.findIn K (.ref (cl mg x)) g = some none)
    (body : ∀ (fI : Addr) (cdv : Value) (A : Around) (outer : List Env) (s : Shared) (H : Hp) (E : XK), PSs (cxOf CX0 P w K mg base [p1, p2, p3] qual (defScope st) fI cdv A outer s H E).nox (defBody st)
      (fun D σ H => tOsb K (cl mg x) f (tVar 0) (tVar 1) { D with nx := fun σ1 H1 => tOsb K (cl mg x) g (tVar 0) (tVar 2) D σ1 H1 } σ H))
    (b1 : ∀ (kV doc pm : Value) (an : Option Addr) (cdv ct : Value) (us : List Value), us.length = 3 → bindArgs (PySem.W.fnOf "__init__" qual (defArgs st) (defBody st) (defScope st) .none kV doc pm an cdv ct) ⟨us, []⟩ = pure ([p1, p2, p3].zip us))
    (b2 : ∀ (kV doc pm : Value) (an : Option Addr) (cdv ct : Value) (u : Value) (ws : List Value), ws.length = 2 → bindArgs (PySem.W.fnOf "__init__" qual (defArgs st) (defBody st) (defScope st) .none kV doc pm an cdv ct) ⟨[u], [f, g].zip ws⟩ = pure ([p1, p2, p3].zip (u :: ws))) :
    EM P w K mg base x [f, g] := by
  obtain ⟨m, T, i, fd, i1, i2, Fn⟩ := S
  exact ⟨B, newId, initId, bmB, i, fd, qual, st, [p1, p2, p3], m, F, T, i1, i2, Fn, init2_ok F T Fn Sc hf hg (body i), rfl, (by show 2 ≤ 2; decide), b1, b2⟩
theorem EN.of {C : Addr} (h : mg x = some (.ref C)) (F : EB B newId initId bmB) (t : ecB K C bmB newId = true) (q : PySem.W.excIn K C bmB newId = true) : EN K mg x := by
  have e := cl_of h
  exact ⟨B, newId, initId, bmB, by rw [e]; exact h, F, by rw [e]; exact .of t, by rw [e]; exact q⟩
end
/-! ### who is whose -/
/-- of these classes none stands over another -/
def apartB (K : PySem.W.Frag) (as : List Addr) : Bool := as.all fun C => match PySem.W.clsIn K C with
  | some cd => !cd.mro.isEmpty && as.all fun D => cd.mro.contains (.ref D) == (C == D)
  | none => false
/-- whether classes stand over others: the table's bools -/
def overB (K : PySem.W.Frag) (os : List Value) (bs : List Bool) (as : List Addr) : Bool := as.all fun C => match PySem.W.clsIn K C with
  | some cd => !cd.mro.isEmpty && (os.map fun o => cd.mro.contains o) == bs
  | none => false
theorem sub_of {K : PySem.W.Frag} {C : Addr} {cd : ClassData} {o : Value} (h : PySem.W.clsIn K C = some cd) (he : (!cd.mro.isEmpty) = true) : PySem.W.subIn K (.ref C) o = some (cd.mro.contains o) := by
  show PySem.W.mroIn K C o = _
  unfold PySem.W.mroIn
  rw [h, Option.bind_some, if_neg (by simpa using he)]
theorem apart_sub {K : PySem.W.Frag} {as : List Addr} (h : apartB K as = true) {C D : Addr} (hC : C ∈ as) (hD : D ∈ as) : PySem.W.subIn K (.ref C) (.ref D) = some (C == D) := by
  have z := List.all_eq_true.mp h C hC
  split at z
  · rename_i cd e
    rw [Bool.and_eq_true] at z
    have y := beq_iff_eq.mp (List.all_eq_true.mp z.2 D hD)
    rw [sub_of e z.1, y]
  · cases z
theorem over_sub {K : PySem.W.Frag} {os : List Value} {bs : List Bool} {as : List Addr} (h : overB K os bs as = true) {C : Addr} (hC : C ∈ as) {n : Nat} {o : Value} (ho : os[n]? = some o) : ∃ b, bs[n]? = some b ∧ PySem.W.subIn K (.ref C) o = some b := by
  have z := List.all_eq_true.mp h C hC
  split at z
  · rename_i cd e
    rw [Bool.and_eq_true] at z
    have y := beq_iff_eq.mp z.2
    refine ⟨cd.mro.contains o, ?_, sub_of e z.1⟩
    rw [← y, List.getElem?_map, ho]
    rfl
  · cases z
theorem kit_own {K : PySem.W.Frag} {C D : Addr} {b : Bool} (is : PySem.W.isClsIn K D = true) (ty : PySem.W.typeIn K (.ref D) = some (.type "type")) (s : PySem.W.subIn K (.ref C) (.ref D) = some b) (hb : C = D → b = true) : PySem.W.kitOne K (.ref C) (.ref D) = some b := by
  unfold PySem.W.kitOne
  by_cases c : C = D
  · rw [if_pos (by rw [c]; exact beq_self_eq_true _), hb c]
  · rw [if_neg fun z => c (Value.ref.inj (beq_iff_eq.mp z))]
    have e : ((PySem.W.clsIn K D).isSome && PySem.W.typeIn K (.ref D) == some (.type "type")) = true := by
      rw [ty, show (PySem.W.clsIn K D).isSome = true from is]
      rfl
    show (if ((PySem.W.clsIn K D).isSome && PySem.W.typeIn K (.ref D) == some (.type "type")) = true then PySem.W.subIn K (.ref C) (.ref D) else none) = some b
    rw [if_pos e]
    exact s
end Gx
namespace Gx
open PySem PySem.Spec PyProof.Rows L2
/-! ### the same by few looks -/
/-- the own part of a class says nothing of these names -/
def silent (K : PySem.W.Frag) (ns : List Str) : Value → Bool
  | .ref a => match K.lookup a with
    | some ⟨_, _, .cls cd, _⟩ => match K.lookup cd.ns with
      | some ⟨_, _, .dict es _, _⟩ => es.toList.all fun e => !e.refKey && ns.all fun n => !e.key.isStr n
      | _ => false
    | _ => false
  | _ => false
theorem silent_own {K : PySem.W.Frag} {ns : List Str} {c : Value} {n : Str} (h : silent K ns c = true) (hn : n ∈ ns) : PySem.W.ownIn K n c = some none := by
  cases c with
  | ref a =>
    unfold silent at h
    dsimp only at h
    unfold PySem.W.ownIn
    dsimp only
    split at h
    · rename_i c' d' cd sl ho
      rw [ho]
      dsimp only
      unfold PySem.W.nsIn
      split at h
      · rename_i c2 d2 es n2 sl2 h2
        rw [h2]
        dsimp only
        have all := List.all_eq_true.mp h
        have f : es.toList.find? (·.key.isStr n) = none := List.find?_eq_none.mpr fun e he z => by
          have := all e he
          rw [Bool.and_eq_true] at this
          have y := List.all_eq_true.mp this.2 n hn
          rw [z] at y
          cases y
        have r : es.toList.any (·.refKey) = false := by
          rw [List.any_eq_false]
          intro e he z
          have := all e he
          rw [Bool.and_eq_true] at this
          rw [z] at this
          exact absurd this.1 (by decide)
        rw [f]
        dsimp only
        rw [r]
        rfl
      · cases h
    · cases h
  | _ => cases h
def isRef : Value → Bool
  | .ref _ => true
  | _ => false
/-- the mro: own classes, silent, then the built-in's -/
def quietTail (K : PySem.W.Frag) (ns : List Str) (bmB : List Value) : List Value → Bool
  | .ref a :: r => silent K ns (.ref a) && quietTail K ns bmB r
  | l => l == bmB
theorem quiet_cases {K : PySem.W.Frag} {ns : List Str} {bmB : List Value} : ∀ l : List Value, quietTail K ns bmB l = true → (∃ c r, l = .ref c :: r ∧ silent K ns (.ref c) = true ∧ quietTail K ns bmB r = true) ∨ l = bmB
  | [], e => .inr (beq_iff_eq.mp e)
  | .ref c :: r, e => .inl ⟨c, r, rfl, (Bool.and_eq_true _ _ ▸ e).1, (Bool.and_eq_true _ _ ▸ e).2⟩
  | .none :: _, e => .inr (beq_iff_eq.mp e)
  | .ellipsis :: _, e => .inr (beq_iff_eq.mp e)
  | .notImplemented :: _, e => .inr (beq_iff_eq.mp e)
  | .bool _ :: _, e => .inr (beq_iff_eq.mp e)
  | .int _ _ :: _, e => .inr (beq_iff_eq.mp e)
  | .float _ _ :: _, e => .inr (beq_iff_eq.mp e)
  | .str _ _ :: _, e => .inr (beq_iff_eq.mp e)
  | .bytes _ _ :: _, e => .inr (beq_iff_eq.mp e)
  | .type _ :: _, e => .inr (beq_iff_eq.mp e)
  | .builtin _ :: _, e => .inr (beq_iff_eq.mp e)
theorem quiet_along {K : PySem.W.Frag} {ns : List Str} {bmB : List Value} {n : Str} (hn : n ∈ ns) : ∀ l : List Value, quietTail K ns bmB l = true → PySem.W.alongIn K n l = PySem.W.alongIn K n bmB
  | [], e => by rw [show [] = bmB from beq_iff_eq.mp e]
  | a :: r, e => by
    rcases quiet_cases (a :: r) e with ⟨c, r', q, h1, h2⟩ | q
    · obtain ⟨rfl, rfl⟩ := List.cons.inj q
      rw [← quiet_along hn r h2]
      show (match PySem.W.ownIn K n (.ref c) with | some (some v) => some (some v) | some none => PySem.W.alongIn K n r | none => none) = _
      rw [silent_own h1 hn]
    · rw [q]
theorem quiet_exc {K : PySem.W.Frag} {ns : List Str} {bmB : List Value} (hb : PySem.W.excTail bmB bmB = true) : ∀ l : List Value, quietTail K ns bmB l = true → PySem.W.excTail bmB l = true
  | [], e => by rw [show [] = bmB from beq_iff_eq.mp e]; exact hb
  | a :: r, e => by
    rcases quiet_cases (a :: r) e with ⟨c, r', q, _, h2⟩ | q
    · obtain ⟨rfl, rfl⟩ := List.cons.inj q
      exact quiet_exc hb r h2
    · rw [q]
      exact hb
/-- what a built-in's tail says of some names, whatever the program -/
structure ETail (bmB : List Value) (fs : List Str) : Prop where
  self : PySem.W.excTail bmB bmB = true
  sa : ∀ K, PySem.W.alongIn K "__setattr__" bmB = some (some (.builtin "object.__setattr__"))
  ga : ∀ K, PySem.W.alongIn K "__getattribute__" bmB = some (some (.builtin "BaseException.__getattribute__"))
  gg : ∀ K, PySem.W.alongIn K "__getattr__" bmB = some none
  gc : ∀ K, PySem.W.alongIn K "__class__" bmB = some (some (.builtin "object.__class__"))
  hB : bmB.contains (.type "BaseException") = true
  hO : bmB.contains (.type "object") = true
  fl : ∀ K, fs.all (fun f => PySem.W.alongIn K f bmB == some none) = true
abbrev fV : List Str := ["value", "position", "problem"]
abbrev fL : List Str := ["value", "least"]
abbrev fR : List Str := ["name", "table", "key", "place", "position", "line", "point", "act", "item", "earliest", "request"]
abbrev fA : List Str := ["kind", "limit", "count"]
theorem etV : ETail tlV fV := ⟨by decide +kernel, fun K => by kernel_rfl, fun K => by kernel_rfl, fun K => by kernel_rfl, fun K => by kernel_rfl, by decide +kernel, by decide +kernel, fun K => by kernel_rfl⟩
theorem etL : ETail tlL fL := ⟨by decide +kernel, fun K => by kernel_rfl, fun K => by kernel_rfl, fun K => by kernel_rfl, fun K => by kernel_rfl, by decide +kernel, by decide +kernel, fun K => by kernel_rfl⟩
theorem etR : ETail tlR fR := ⟨by decide +kernel, fun K => by kernel_rfl, fun K => by kernel_rfl, fun K => by kernel_rfl, fun K => by kernel_rfl, by decide +kernel, by decide +kernel, fun K => by kernel_rfl⟩
theorem etA : ETail tlA fA := ⟨by decide +kernel, fun K => by kernel_rfl, fun K => by kernel_rfl, fun K => by kernel_rfl, fun K => by kernel_rfl, by decide +kernel, by decide +kernel, fun K => by kernel_rfl⟩
theorem call_type : PySem.fastLookup "type" "__call__" = some (some (.builtin "type.__call__")) := by kernel_rfl
theorem sp_class (K : PySem.W.Frag) : PySem.W.specialIn K (.builtin "object.__class__") "__get__" = some (some (.builtin "getset_descriptor.__get__")) := by kernel_rfl
theorem tk_class (K : PySem.W.Frag) : PySem.W.takesIn K (.builtin "object.__class__") = some true := by kernel_rfl
abbrev base4 : List Str := ["__setattr__", "__getattribute__", "__getattr__", "__class__"]
/-- an error class, by few looks -/
def ecQ (K : PySem.W.Frag) (fs : List Str) (C : Addr) (bmB : List Value) (newId : String) : Bool := match K.lookup C with
  | some ⟨.type "type", _, .cls cd, sl⟩ => (match cd.mro, sl.toList with
    | .ref C' :: bm, [_, _, _, _, some (.builtin n), _] => C' == C && n == newId && !cd.hasDel && cd.hasDict && quietTail K (base4 ++ fs) bmB (.ref C' :: bm)
    | _, _ => false)
  | _ => false
theorem ecQ_of {K : PySem.W.Frag} {fs : List Str} {C : Addr} {bmB : List Value} {newId : String} (E : ETail bmB fs) (h : ecQ K fs C bmB newId = true) : EC K C bmB newId ∧ ∀ f ∈ fs, PySem.W.findIn K (.ref C) f = some none := by
  unfold ecQ at h
  split at h
  · rename_i dd cd sl ho
    split at h
    · rename_i C' bm k0 k1 k2 k3 n k5 hm hs
      simp only [Bool.and_eq_true, beq_iff_eq, Bool.not_eq_true'] at h
      obtain ⟨⟨⟨⟨rfl, rfl⟩, hdel⟩, hdi⟩, qt⟩ := h
      have hc : PySem.W.clsIn K C' = some cd := by unfold PySem.W.clsIn; rw [ho]
      have ty : PySem.W.typeIn K (.ref C') = some (.type "type") := by
        show (K.lookup C').map (·.cls) = _
        rw [ho]
        rfl
      have et := quiet_exc E.self _ qt
      have eb : PySem.W.excTail bmB bm = true := by
        rw [show PySem.W.excTail bmB (.ref C' :: bm) = PySem.W.excTail bmB bm from rfl] at et
        exact et
      have fi : ∀ n ∈ base4 ++ fs, PySem.W.findIn K (.ref C') n = PySem.W.alongIn K n bmB := fun n hn => by
        show (match K.lookup C' with | some ⟨_, _, .cls cd, _⟩ => PySem.W.alongIn K n cd.mro | _ => none) = _
        rw [ho]
        dsimp only
        rw [hm]
        exact quiet_along hn _ qt
      have mr : ∀ T : String, PySem.W.mroIn K C' (.type T) = some (bmB.contains (.type T)) := fun T => by
        unfold PySem.W.mroIn
        rw [hc, Option.bind_some, if_neg (by rw [hm]; exact Bool.false_ne_true), hm, List.contains_cons, PySem.W.excTail_contains T _ eb]
        rfl
      refine ⟨⟨?_, ?_, ?_, ?_, ?_, ty, ?_, ?_, ?_, ?_, ?_, ?_, sp_class K, tk_class K⟩, fun f hf => ?_⟩
      · unfold PySem.W.excInitIn
        rw [ho]
        simp only [hm, hs]
        simp [hdel, eb]
      · unfold PySem.W.excOver
        rw [hc, Option.any_some, hm]
        simp [eb]
      · unfold PySem.W.hasDictIn
        rw [hc]
        exact hdi
      · unfold PySem.W.keepIn
        dsimp only
        rw [ho]
        dsimp only
        unfold PySem.W.specialIn
        rw [ty, Option.bind_some]
        show (PySem.fastLookup "type" "__call__" == _) = true
        rw [call_type]
        exact beq_self_eq_true _
      · unfold PySem.W.isClsIn
        rw [hc]
        rfl
      · rw [fi _ (by simp), E.sa]
      · rw [fi _ (by simp), E.ga]
      · rw [fi _ (by simp), E.gg]
      · rw [fi _ (by simp), E.gc]
      · show PySem.W.mroIn K C' _ = _
        rw [mr, E.hB]
      · rw [mr, E.hO]
      · rw [fi f (List.mem_append_right _ hf)]
        exact beq_iff_eq.mp (List.all_eq_true.mp (E.fl K) f hf)
    · cases h
  · cases h
end Gx
namespace Gx
open PySem PySem.Spec PyProof.Rows L2
section
variable {K : PySem.W.Frag} {mg : Str → Option Value} {x qual : Str} {st : Stmt} {bmB : List Value} {B newId initId : String}
theorem ES.of2 {C f : Addr} {fd : FuncData} (h : mg x = some (.ref C)) (t : EC K C bmB newId) (i1 : PySem.W.findIn K (.ref C) "__init__" = some (some (.ref f))) (i2 : PySem.W.typeIn K (.ref f) = some (.type "function")) (i3 : Fun K "__init__" qual st f fd) : ES K mg x qual st bmB newId := by
  have e := cl_of h
  refine ⟨?_, ?_, f, fd, ?_, i2, i3⟩ <;> rw [e]
  · exact h
  · exact t
  · exact i1
theorem EN.of2 {C : Addr} (h : mg x = some (.ref C)) (F : EB B newId initId bmB) (t : EC K C bmB newId) (q : PySem.W.excIn K C bmB newId = true) : EN K mg x := by
  have e := cl_of h
  exact ⟨B, newId, initId, bmB, by rw [e]; exact h, F, by rw [e]; exact t, by rw [e]; exact q⟩
end
end Gx
namespace Gx
open PySem PySem.Spec PyProof.Rows L2
/-! ### values that hold data, whatever their shape -/
/-- all but the object at p is as it was -/
def Kp (p : Addr) (H H' : Hp) : Prop := ∀ b o, b ≠ p → H b = some o → H' b = some o
theorem Kp.refl {p : Addr} {H : Hp} : Kp p H H := fun _ _ _ h => h
theorem Kp.trans {p : Addr} {H H1 H2 : Hp} (a : Kp p H H1) (b : Kp p H1 H2) : Kp p H H2 := fun c o n h => b c o n (a c o n h)
theorem Kp.at {p : Addr} {H : Hp} {o : HO} : Kp p H (upd H p o) := fun b u n e => by rw [upd_ne n]; exact e
theorem Kp.of {p : Addr} {H H' : Hp} (s : Same H H') : Kp p H H' := fun b o _ e => s b o e
theorem sameU {q : Addr} {H : Hp} {o : HO} (h : H q = none) : Same H (L2.upd H q o) := fun b x e => by rw [upd_ne (ne_of_none e h)]; exact e
mutual
/-- v holds the data d, all of it where N allows; texts and numbers are small -/
inductive DatN (N : Addr → Prop) (H : Hp) : V → PyData → Prop
  | non : DatN N H .non .none
  | bl (b : Bool) : DatN N H (.bl b) (.bool b)
  | int (i : Int) (h : i.natAbs < 10 ^ 100) : DatN N H (.int i) (.int i)
  | str (z : Str) (h : z.length ≤ 100) (a : ∀ c ∈ z.cps.toList, c < 128) : DatN N H (.str z) (.str z)
  | lst {a : Addr} {xs : List V} {ds : List PyData} (n : N a) (h : H a = some (.lst xs)) (r : DatNL N H xs ds) : DatN N H (.ref a) (.list ds)
  | tup {a : Addr} {xs : List V} {ds : List PyData} (n : N a) (h : H a = some (.tup xs)) (r : DatNL N H xs ds) : DatN N H (.ref a) (.tuple ds)
  | nil {a : Addr} (n : N a) (h : H a = some (.dK [])) : DatN N H (.ref a) (.dict [])
  | one {a : Addr} {v : V} {d : PyData} (k : Int) (n : N a) (h : H a = some (.dK [(.inl k, v)])) (r : DatN N H v d) : DatN N H (.ref a) (.dict [(.int k, d)])
inductive DatNL (N : Addr → Prop) (H : Hp) : List V → List PyData → Prop
  | nil : DatNL N H [] []
  | cons {v : V} {vs : List V} {d : PyData} {ds : List PyData} : DatN N H v d → DatNL N H vs ds → DatNL N H (v :: vs) (d :: ds)
end
/-- v holds the data d, and none of it stands at p -/
abbrev Dat (p : Addr) := DatN fun a => a ≠ p
abbrev DatL (p : Addr) := DatNL fun a => a ≠ p
mutual
theorem DatN.mono {N M : Addr → Prop} {H : Hp} (i : ∀ a, N a → M a) : ∀ {v : V} {d : PyData}, DatN N H v d → DatN M H v d
  | _, _, .non => .non
  | _, _, .bl b => .bl b
  | _, _, .int i h => .int i h
  | _, _, .str z h a => .str z h a
  | _, _, .lst n h r => .lst (i _ n) h (DatNL.mono i r)
  | _, _, .tup n h r => .tup (i _ n) h (DatNL.mono i r)
  | _, _, .nil n h => .nil (i _ n) h
  | _, _, .one k n h r => .one k (i _ n) h (DatN.mono i r)
theorem DatNL.mono {N M : Addr → Prop} {H : Hp} (i : ∀ a, N a → M a) : ∀ {vs : List V} {ds : List PyData}, DatNL N H vs ds → DatNL M H vs ds
  | _, _, .nil => .nil
  | _, _, .cons h r => .cons (DatN.mono i h) (DatNL.mono i r)
end
mutual
theorem DatN.kn {N : Addr → Prop} {H H' : Hp} (k : ∀ b o, N b → H b = some o → H' b = some o) : ∀ {v : V} {d : PyData}, DatN N H v d → DatN N H' v d
  | _, _, .non => .non
  | _, _, .bl b => .bl b
  | _, _, .int i h => .int i h
  | _, _, .str z h a => .str z h a
  | _, _, .lst n h r => .lst n (k _ _ n h) (DatNL.kn k r)
  | _, _, .tup n h r => .tup n (k _ _ n h) (DatNL.kn k r)
  | _, _, .nil n h => .nil n (k _ _ n h)
  | _, _, .one i n h r => .one i n (k _ _ n h) (DatN.kn k r)
theorem DatNL.kn {N : Addr → Prop} {H H' : Hp} (k : ∀ b o, N b → H b = some o → H' b = some o) : ∀ {vs : List V} {ds : List PyData}, DatNL N H vs ds → DatNL N H' vs ds
  | _, _, .nil => .nil
  | _, _, .cons h r => .cons (DatN.kn k h) (DatNL.kn k r)
end
theorem DatN.kp {p : Addr} {H H' : Hp} (k : Kp p H H') {v : V} {d : PyData} (h : Dat p H v d) : Dat p H' v d := h.kn k
theorem DatNL.kp {p : Addr} {H H' : Hp} (k : Kp p H H') {vs : List V} {ds : List PyData} (h : DatL p H vs ds) : DatL p H' vs ds := h.kn k
theorem DatNL.len {N : Addr → Prop} {H : Hp} : ∀ {vs : List V} {ds : List PyData}, DatNL N H vs ds → vs.length = ds.length
  | _, _, .nil => rfl
  | _, _, .cons _ r => by rw [List.length_cons, List.length_cons, DatNL.len r]
theorem DatNL.get {N : Addr → Prop} {H : Hp} : ∀ {vs : List V} {ds : List PyData} {i : Nat} {v : V}, DatNL N H vs ds → vs[i]? = some v → ∃ d, ds[i]? = some d ∧ DatN N H v d
  | _, _, 0, _, .cons h _, e => by
    cases e
    exact ⟨_, rfl, h⟩
  | _, _, i + 1, _, .cons _ r, e => DatNL.get (i := i) r e
  | _, _, _, _, .nil, e => by cases e
theorem DatNL.app {N : Addr → Prop} {H : Hp} : ∀ {vs ws : List V} {ds es : List PyData}, DatNL N H vs ds → DatNL N H ws es → DatNL N H (vs ++ ws) (ds ++ es)
  | _, _, _, _, .nil, h => h
  | _, _, _, _, .cons h r, h' => .cons h (DatNL.app r h')
theorem DatNL.take {N : Addr → Prop} {H : Hp} : ∀ {vs : List V} {ds : List PyData} (n : Nat), DatNL N H vs ds → DatNL N H (vs.take n) (ds.take n)
  | _, _, 0, _ => .nil
  | _, _, n + 1, .nil => .nil
  | _, _, n + 1, .cons h r => .cons h (DatNL.take n r)
theorem DatNL.drop {N : Addr → Prop} {H : Hp} : ∀ {vs : List V} {ds : List PyData} (n : Nat), DatNL N H vs ds → DatNL N H (vs.drop n) (ds.drop n)
  | _, _, 0, h => h
  | _, _, n + 1, .nil => .nil
  | _, _, n + 1, .cons _ r => DatNL.drop n r
theorem DatNL.snoc {N : Addr → Prop} {H : Hp} {vs : List V} {ds : List PyData} {v : V} {d : PyData} (h : DatNL N H vs ds) (h' : DatN N H v d) : DatNL N H (vs ++ [v]) (ds ++ [d]) := h.app (.cons h' .nil)
theorem DatNL.mem {N : Addr → Prop} {H : Hp} {vs : List V} {ds : List PyData} {v : V} (h : DatNL N H vs ds) (m : v ∈ vs) : ∃ d ∈ ds, DatN N H v d := by
  obtain ⟨i, hi, rfl⟩ := List.mem_iff_getElem.mp m
  obtain ⟨d, e, t⟩ := h.get (List.getElem?_eq_getElem hi)
  exact ⟨d, List.mem_of_getElem? e, t⟩
section
variable {K : PySem.W.Frag} {N : Addr → Prop} {H : Hp}
/-- {i: x} -/
theorem Shows.oneI {a : Addr} {k : Int} {v : V} {d : PyData} (e : H a = some (.dK [(.inl k, v)])) (hv : Shows K H v d) : Shows K H (.ref a) (.dict [(.int k, d)]) := by
  rintro X pins σ s u rfl S I r
  cases r
  obtain ⟨_, nm, vs, kv, o, es, ep, ho, ex, hd, _, hp, _⟩ := I.hok _ _ e
  cases kv with
  | @cons _ z _ _ k0 kr =>
    cases kr
    obtain ⟨ek, ev⟩ := k0
    obtain ⟨es⟩ := es
    cases hp with
    | @cons en _ _ _ h1 h2 h3 =>
      cases h3
      have k1 : keyIs z.1 en.key = true := h1
      rw [← ek] at k1
      rcases keyIs_shape k1 with ⟨j, t, z1, z2⟩ | ⟨y, t, z1, z2⟩
      · cases z1
        obtain ⟨as, q, na⟩ := hv X pins σ s z.2 rfl S I ev
        refine ⟨_, .dict (as := [] ++ []) (bs := as ++ []) ho ex.1 hd ?_ ?_, fun y => ?_⟩
        · show ReadsAll s.heap [en.key] [.int k] _
          rw [z2]
          exact .cons (.int _ _) .nil
        · show ReadsAll s.heap [en.val] [d] _
          rw [h2]
          exact .cons q .nil
        · have y : sysModules = a ∨ sysModules ∈ as := by simpa using y
          rcases y with y | y
          · rw [← y] at nm
            simp at nm
          · exact na y
      · cases z1
theorem Shows.tup {a : Addr} {vs : List V} {ds : List PyData} (hs : SqT K H a vs) (h : ShowsAll K H vs ds) : Shows K H (.ref a) (.tuple ds) := by
  rintro X pins σ s u rfl S I r
  cases r
  obtain ⟨its, rv, ⟨o, ho, hc, n, hd⟩, _⟩ := I.tuple hs
  obtain ⟨as, q, na⟩ := ShowsAll.reads S I h rv
  exact ⟨_, .tuple ho hc hd q, na⟩
mutual
theorem DatN.shows : ∀ {v : V} {d : PyData}, DatN N H v d → Shows K H v d
  | _, _, .non => .of .non
  | _, _, .bl b => .of (.bl b)
  | _, _, .int i _ => .of (.int i)
  | _, _, .str z _ _ => .of (.str z)
  | _, _, .lst _ h r => .lst (SqL.of h) (DatNL.shows r)
  | _, _, .tup _ h r => .tup (SqT.of h) (DatNL.shows r)
  | _, _, .nil _ h => .of (.nil h)
  | _, _, .one _ _ h r => .oneI h (DatN.shows r)
theorem DatNL.shows : ∀ {vs : List V} {ds : List PyData}, DatNL N H vs ds → ShowsAll K H vs ds
  | _, _, .nil => .nil
  | _, _, .cons h r => .cons (DatN.shows h) (DatNL.shows r)
end
mutual
theorem DatN.dp : ∀ {v : V} {d : PyData}, DatN N H v d → d.hasDict = false → Dp K H v d
  | _, _, .non, _ => .non
  | _, _, .bl b, _ => .bl b
  | _, _, .int i _, _ => .int i
  | _, _, .str z _ _, _ => .str z
  | _, _, .lst _ h r, e => .lst (SqL.of h) (DatNL.dp r (by simpa only [PyData.hasDict] using e))
  | _, _, .tup _ h r, e => .tup (SqT.of h) (DatNL.dp r (by simpa only [PyData.hasDict] using e))
  | _, _, .nil _ _, e => by simp [PyData.hasDict] at e
  | _, _, .one _ _ _ _, e => by simp [PyData.hasDict] at e
theorem DatNL.dp : ∀ {vs : List V} {ds : List PyData}, DatNL N H vs ds → PyData.hasDictAll ds = false → DpAll K H vs ds
  | _, _, .nil, _ => .nil
  | _, _, .cons h r, e => by
    simp only [PyData.hasDictAll, Bool.or_eq_false_iff] at e
    exact .cons (DatN.dp h e.1) (DatNL.dp r e.2)
end
/-- the name of a data's type -/
def tyD : PyData → String
  | .none => "NoneType"
  | .bool _ => "bool"
  | .int _ => "int"
  | .str _ => "str"
  | .list _ => "list"
  | .tuple _ => "tuple"
  | .dict _ => "dict"
theorem DatN.ty {v : V} {d : PyData} (h : DatN N H v d) : TyX K H v (.type (tyD d)) := by
  cases h with
  | non => exact .base .non
  | bl b => exact .base (.bl b)
  | int i _ => exact .base (.int i)
  | str z _ _ => exact .base (.str z)
  | lst _ h _ => exact .base (.lst h)
  | tup _ h _ => exact .base (.tup h)
  | nil _ h => exact .base (.dK h)
  | one _ _ h _ => exact .base (.dK h)
/-- isinstance of data -/
def isT (t ty : String) : Bool := ty == t || (t == "int" && ty == "bool")
def isD (t : String) (d : PyData) : Bool := isT t (tyD d)
theorem kit_T : ∀ ty ∈ ["NoneType", "bool", "int", "str", "list", "tuple", "dict"], ∀ t ∈ ["int", "bool", "str", "list", "tuple", "dict"], kitB ty t = some (isT t ty) := by decide +kernel
theorem tyD_in (d : PyData) : tyD d ∈ ["NoneType", "bool", "int", "str", "list", "tuple", "dict"] := by cases d <;> simp [tyD]
theorem kit_D {d : PyData} {t : String} (h : t ∈ ["int", "bool", "str", "list", "tuple", "dict"]) : PySem.W.kitOne K (.type (tyD d)) (.type t) = some (isD t d) := kit_ty (kit_T _ (tyD_in d) t h)
/-- isinstance(x, (t1, t2)) -/
theorem kit_D2 {d : PyData} {t1 t2 : String} (h1 : t1 ∈ ["int", "bool", "str", "list", "tuple", "dict"]) (h2 : t2 ∈ ["int", "bool", "str", "list", "tuple", "dict"]) : PySem.W.kitAny K (.type (tyD d)) [.type t1, .type t2] = some (isD t1 d || isD t2 d) := by
  refine kitAny_cons (kit_D h1) (fun e => kitAny_cons (kit_D h2) (fun e2 => ?_) fun e2 => ?_) fun e => ?_
  · rw [e, e2]
    rfl
  · rw [e, e2]
    rfl
  · rw [e]
    rfl
end
end Gx
namespace Gx
open PySem PySem.Spec PyProof.Rows L2
/-! ### enumerate over a tuple, loops over what is a list or a tuple -/
theorem meets_enum1 {v : Value} {o : Obj} {H : Heap → Prop} (B : Begins v o H) :
    Meets (Builtin.«enumerate.__new__» ⟨[.type "enumerate", v], []⟩) (fun _ R s => H s.heap ∧
      R (.ok (.ret (.ref (s.heap.push o).objs.size))) { s with heap := (s.heap.push o).push { cls := .type "enumerate", data := .fields #[.none, .bool false, .ref s.heap.objs.size, rawInt 0, .none, .none] } }) :=
  .of_wp fun prog w A R s h => by
    obtain ⟨hp, g, d, tk, os⟩ := s; obtain ⟨h1, h⟩ := h
    have hsub := sub_enumerate
    have q1 : ∀ {A' : Around} {E : Value → Shared → Prop} {Q : Value → Shared → Prop}, Q (.ref hp.objs.size) ⟨hp.push o, g, d, tk, os⟩ → wpAny (model prog w) A' (pyIter v) Q E ⟨hp, g, d, tk, os⟩ :=
      fun q => B.iter prog w _ _ ⟨hp, g, d, tk, os⟩ _ h1 q
    wp_walk using q1
    refine wpAny_stack_any fun st => wpAny_pure ?_
    split
    · rename_i c _ _ _ _ _
      cases (c == Value.type "enumerate")
      · wp_walk using q1
        exact ⟨_, rfl, h⟩
      · wp_walk using q1
        exact ⟨_, rfl, h⟩
    · wp_walk using q1
      exact ⟨_, rfl, h⟩
section
variable {prog : Program} {w : World} {A : Around} {E : Value → Shared → Prop} {s : Shared}
theorem call_enum1 {v : Value} {o : Obj} {H : Heap → Prop} {Q : Value → Shared → Prop} (B : Begins v o H) (h1 : H s.heap)
    (h : ∀ h', IsEnum h' (s.heap.objs.size + 1) s.heap.objs.size 0 .none → h'.get? s.heap.objs.size = some o → h'.objs.size = s.heap.objs.size + 2 →
      (∀ b o, s.heap.get? b = some o → h'.get? b = some o) → Q (.ref (s.heap.objs.size + 1)) { s with heap := h' }) :
    wpAny (model prog w) A (call (.type "enumerate") [v]) Q E s := by
  refine callType_new F.called_enumerate (by decide) (F.typeCall_enumerate_1 _) (F.newCall_enumerate_1 _) (fun obj => F.args_object_init_2 obj _) F.entry_enumerate_new
    (meets_enum1 B) ⟨h1, ?_⟩
  have hz : (s.heap.push o).objs.size = s.heap.objs.size + 1 := Heap.size_push ..
  show _ ∧ _
  rw [hz]
  have he : IsEnum ((s.heap.push o).push { cls := .type "enumerate", data := .fields #[.none, .bool false, .ref s.heap.objs.size, rawInt 0, .none, .none] }) (s.heap.objs.size + 1) s.heap.objs.size 0 .none := by
    have := Heap.get?_push_size (s.heap.push o) (o := { cls := .type "enumerate", data := .fields #[.none, .bool false, .ref s.heap.objs.size, rawInt 0, .none, .none] }) rfl
    rw [hz] at this; exact this
  exact ⟨⟨_, he, rfl⟩, h _ he (Heap.get?_push_of_some _ (Heap.get?_push_size _ B.free)) (by rw [Heap.size_push, hz]) fun b o x => Heap.get?_push_of_some _ (Heap.get?_push_of_some _ x)⟩
end
/-- the tuple at a as it stands at each turn, each item in a new pair -/
def Ite' (K : PySem.W.Frag) (a : Addr) : It :=
  ⟨fun i H => ∃ (xs : List V) (x : V), SqT K H a xs ∧ xs[i]? = some x, fun i H v H' => ∃ T x, v = .ref T ∧ H T = none ∧ H' = upd H T (.tup [.int (i : Nat), x]) ∧ ∀ xs, SqT K H a xs → xs[i]? = some x, fun i H => ∃ xs : List V, SqT K H a xs ∧ xs.length = i⟩
theorem turn_enumT {P : Program} {w : World} {K : PySem.W.Frag} {elts : List Expr} {kk : Nat} {tpos : Pos} (a e it : Addr) :
    Turn P w K (.Tuple elts kk tpos) (Ite' K a) [e, it] e (fun i h => (∃ old, IsEnum h e it ((i : Nat) : Int) old) ∧ h.IsTupleIter it a i ∧ e ≠ it ∧ a ≠ it ∧ a ≠ e) where
  mem := by simp
  obj := fun i h st b hb => by
    obtain ⟨⟨old, he⟩, ⟨o, ho, hc, hd⟩, _⟩ := st
    have e' : b = e ∨ b = it := by simpa using hb
    rcases e' with z | z
    · rw [z]; exact ⟨_, he, fun v q => nomatch q⟩
    · rw [z]; exact ⟨o, ho, fun v q => by rw [hd] at q; cases q⟩
  keep := fun i h h' st k => let ⟨⟨old, he⟩, hi, hne⟩ := st; ⟨⟨old, k e (by simp) _ he⟩, hi.at fun o q => k it (by simp) o q, hne⟩
  item := by
    intro X hP hw hK hc i pins s σ H E I hf st hg
    subst hP hw hK
    obtain ⟨⟨old, he⟩, hit, hne, nai, nae⟩ := st
    obtain ⟨xs, x, hq, hx⟩ := hg
    obtain ⟨its, rv, p, hz⟩ := I.tuple hq
    obtain ⟨u, hu, ru⟩ := rv.get hx
    have hel : e < s.heap.objs.size := Heap.lt_size he
    have hil : it < s.heap.objs.size := by obtain ⟨_, q, _⟩ := hit; exact Heap.lt_size q
    have D := Draws.tuple (prog := X.prog) (w := X.w) (A := X.A.in1) (I.ok.hd hc) it a nai its.toArray
    have hu' : i < its.toArray.size := by
      have := (List.getElem?_eq_some_iff.mp hu).1
      simpa using this
    refine wpAny_pyNext_enum_itemD D he ⟨hit, p⟩ hu' hne (by simp [hne, Ne.symm nae]) fun u' h' tk hu2 ho hit' hT hsz hk => ?_
    have eu : u' = u := by
      have : its[i]? = some u' := by simpa using hu2
      rw [hu] at this
      exact (Option.some.inj this).symm
    subst eu
    refine ⟨_, rfl, wpAny_letOwnedTupleGo_enum (s := { s with heap := h', toks := tk + 1 }) ho fun h'' he' sb => ?_⟩
    have hT2 : h''.get? s.heap.objs.size = some { cls := .type "tuple", data := .seq #[.int i tk, u'] } := (sb.2 _ (Nat.ne_of_gt hel)).trans hT
    have new : ObjOk X.prog X.w (upd H s.heap.objs.size (.tup [.int (i : Nat), x])) h'' s.heap.objs.size (.tup [.int (i : Nat), x]) :=
      ⟨by show 2 ≤ sizeLine; decide, [.int i tk, u'], .cons ⟨_, rfl⟩ (.cons ru .nil), ⟨_, hT2, rfl, _, rfl⟩⟩
    have I1 : Inv X pins σ (upd H s.heap.objs.size (.tup [.int (i : Nat), x])) { s with heap := h'', toks := tk + 1 } :=
      I.turnedNew (ch := [e, it]) (fun b ob hb q => (sb.2 b (fun z => hb (by simp [z]))).trans (hk b ob (fun z => hb (by simp [z])) (fun z => hb (by simp [z])) q)) hf (Nat.le_refl _) new
    refine ⟨.ref s.heap.objs.size, _, I1, rfl, ⟨_, x, rfl, I.hok.fresh (Nat.le_refl _), rfl, fun ys hy => by rw [I.tuple_inj hy hq]; exact hx⟩, ⟨⟨u', ?_⟩, hit'.1.at fun o q => (sb.2 it (Ne.symm hne)).trans q, hne, nai, nae⟩, fun b hb => ?_⟩
    · have e1 : ((i + 1 : Nat) : Int) = (i : Int) + 1 := by omega
      rw [e1]; exact he'
    · have hb' : b < s.heap.objs.size := by
        have e' : b = e ∨ b = it := by simpa using hb
        rcases e' with z | z
        · rw [z]; exact hel
        · rw [z]; exact hil
      rw [upd_ne (Nat.ne_of_lt hb')]
      exact (hf b hb).1
  done := by
    intro X hP hw hK hc i pins s σ H E I hf st hg
    subst hP hw hK
    obtain ⟨⟨old, he⟩, hit, hne, nai, nae⟩ := st
    obtain ⟨xs, hq, hx⟩ := hg
    obtain ⟨its, rv, p, hz⟩ := I.tuple hq
    obtain ⟨f0, f1, f2, f3, f4, f5⟩ := hf it (by simp)
    have hl := rv.length
    have D := Draws.tuple (prog := X.prog) (w := X.w) (A := X.A.in1) (I.ok.hd hc) it a nai its.toArray
    have ei : i = its.toArray.size := by
      simp only [List.size_toArray]
      omega
    subst ei
    exact wpAny_pyNext_enum_endD D he ⟨hit, p⟩ fun h' eb => ⟨rfl, I.turned (t' := s.toks) (fun b o hb q => eb b o hb q) f0 f1 f3 f4 f5⟩
  self := fun A i s Q E st h => let ⟨⟨_, he⟩, _⟩ := st; wpAny_pyIter_enum he h
theorem walk_enumT {K : PySem.W.Frag} {a : Addr} {xs : List V} : Walk (Ite' K a) xs.length (fun H => SqT K H a xs) (YPair (fun i => some (.int (i : Nat))) (fun i => xs[i]?)) := by
  refine ⟨fun i _ hi q => ⟨xs, xs[i], q, by simp [hi]⟩, fun _ q => ⟨xs, q, rfl⟩, fun i H v H' _ q y => ?_⟩
  obtain ⟨T, x, h1, h2, h3, h4⟩ := y
  exact ⟨T, .int (i : Nat), x, h1, h2, h3, rfl, h4 xs q⟩
/-- J walks the list or tuple xs at a, each item in a new pair -/
def Wke (K : PySem.W.Frag) (a : Addr) (xs : List V) (H : Hp) (J : It) : Prop := (J = Ite K a ∧ SqL K H a xs) ∨ (J = Ite' K a ∧ SqT K H a xs)
theorem Wke.walk {K : PySem.W.Frag} {a : Addr} {xs : List V} {H : Hp} {J : It} (h : Wke K a xs H J) : ∃ G, Walk J xs.length G (YPair (fun i => some (.int (i : Nat))) (fun i => xs[i]?)) ∧ G H ∧ ∀ H', Same H H' → G H' := by
  rcases h with ⟨rfl, hs⟩ | ⟨rfl, hs⟩
  · exact ⟨_, walk_enum (K := K) (a := a) (xs := xs), hs, fun H' s => s.seq hs⟩
  · refine ⟨_, walk_enumT (K := K) (a := a) (xs := xs), hs, fun H' s => ?_⟩
    rcases hs with hs | hs
    · rcases hs with hs | ⟨o, hs⟩
      · exact .inl (.inl (s _ _ hs))
      · exact .inl (.inr ⟨o, s _ _ hs⟩)
    · exact .inr hs
/-- enumerate(e), e a list or a tuple -/
def iEnumS (K : PySem.W.Frag) (ta : TA) : TI := fun σ H R => ta σ H fun vs H1 => ∃ a xs, vs = [.ref a] ∧ (SqL K H1 a xs ∨ SqT K H1 a xs) ∧ ∀ J, Wke K a xs H1 J → R J H1
theorem pi_enumS {X : Cx} {e : Expr} {ta : TA} {p pos tpos : Pos} {elts : List Expr} {kk : Nat} (hg : Gl X "enumerate") (hm : X.mg "enumerate" = none) (ha : PA X [e] ta) (hs : starEach [e] X.env = [(false, eval e X.env)] := by rfl) :
    PI X (.Tuple elts kk tpos) (.Call (.Name "enumerate" p) [e] [] pos) (iEnumS X.K ta) := by
  refine ⟨fun pins s σ H R I h => ?_⟩
  refine Call_ (ld_blt I hg hm boot_enumerate (PyProof.Rows.callWith_type1 (thn (ha.run pos pins s σ H _ I h) fun us s1 ⟨vs, H1, I1, r1, q1⟩ => ?_) hs rfl))
  obtain ⟨a, xs, ex, z, q⟩ := q1
  subst ex
  cases r1 with
  | cons r rr =>
    cases rr
    cases r
    rcases z with hq | hq
    · obtain ⟨its, rv, p', hz⟩ := I1.list hq
      refine call_enumerate_list p'.isList fun h' he hit hsz hk => wpAny_pyIter_enum he ?_
      have I2 : Inv X pins σ H1 { s1 with heap := h' } := I1.kept (t' := s1.toks) hk
      refine ⟨s1.heap.objs.size + 1, [s1.heap.objs.size + 1, s1.heap.objs.size], _, _, H1, rfl, I2, turn_enum a (s1.heap.objs.size + 1) s1.heap.objs.size, ⟨⟨.none, he⟩, hit, Nat.succ_ne_self _⟩, fun b hb => ?_, q _ (.inl ⟨rfl, hq⟩)⟩
      have e' : b = s1.heap.objs.size + 1 ∨ b = s1.heap.objs.size := by simpa using hb
      have hle : s1.heap.objs.size ≤ b := by
        rcases e' with z | z
        · rw [z]; exact Nat.le_add_right _ _
        · rw [z]; exact Nat.le_refl _
      exact I1.fpOk hle (I1.hok.fresh hle)
    · obtain ⟨its, rv, p', hz⟩ := I1.tuple hq
      have hal : a < s1.heap.objs.size := by
        obtain ⟨o, ho, _⟩ := p'
        exact Heap.lt_size ho
      refine call_enum1 (begins_tuple a its.toArray) p' fun h' he hit hsz hk => wpAny_pyIter_enum he ?_
      have I2 : Inv X pins σ H1 { s1 with heap := h' } := I1.kept (t' := s1.toks) hk
      refine ⟨s1.heap.objs.size + 1, [s1.heap.objs.size + 1, s1.heap.objs.size], _, _, H1, rfl, I2, turn_enumT a (s1.heap.objs.size + 1) s1.heap.objs.size, ⟨⟨.none, he⟩, ⟨_, hit, rfl, rfl⟩, Nat.succ_ne_self _, Nat.ne_of_lt hal, Nat.ne_of_lt (Nat.lt_succ_of_lt hal)⟩, fun b hb => ?_, q _ (.inr ⟨rfl, hq⟩)⟩
      have e' : b = s1.heap.objs.size + 1 ∨ b = s1.heap.objs.size := by simpa using hb
      have hle : s1.heap.objs.size ≤ b := by
        rcases e' with z | z
        · rw [z]; exact Nat.le_add_right _ _
        · rw [z]; exact Nat.le_refl _
      exact I1.fpOk hle (I1.hok.fresh hle)
end Gx
namespace Gx
open PySem PySem.Spec PyProof.Rows L2
/-! ### sorted of a list or a tuple of texts -/
section
variable {prog : Program} {w : World} {A : Around} {E : Value → Shared → Prop} {s : Shared}
theorem collect_tup {l : Addr} {vs : List Value} {Q : List Value → Shared → Prop} (hl : s.heap.IsTuple l vs.toArray)
    (h : Q vs { s with heap := (s.heap.push (seqObj "list" #[] 0)).update s.heap.objs.size (Obj.mapSeq (· ++ vs.toArray)) }) (hsz : vs.length ≤ sizeLine := by size_fits) :
    wpAny (model prog w) A (collect (.ref l)) Q E s := by
  obtain ⟨o, ho, hc, n, hd⟩ := id hl
  unfold collect
  refine wpAny_bind (wpAny_runValue (codeAny_builtin entry_proto_collect' ?_))
  show wpAny _ _ (do again (.builtin "list.__iadd__" ⟨[← newList [], .ref l], []⟩)) _ _ s
  refine wpAny_bind (wpAny_newList (wpAny_pure ⟨Code.quiet_builtin _ (by decide +kernel), codeAny_builtin entry_list_iadd' ?_⟩))
  show wpAny _ _ (Builtin.List.listExtendWith (.ref s.heap.objs.size) (.ref l) (.ref s.heap.objs.size)) _ _ { s with heap := s.heap.push (seqObj "list" #[] 0) }
  unfold Builtin.List.listExtendWith
  have ho' : (s.heap.push (seqObj "list" #[] 0)).get? l = some o := Heap.get?_push_of_some _ ho
  refine wpAny_bind (wpAny_typeOf (T := "tuple") ⟨o, ho', hc⟩ ?_)
  have ht : (Value.type "tuple" == Value.type "tuple") = true := by rfl
  rw [if_pos (by rw [ht]; simp)]
  refine wpAny_bind (listItems_at ho' hd ?_)
  refine wpAny_bind (listItems_at (xs := #[]) (n := 0) (Heap.get?_push_size _ rfl) rfl ?_)
  rw [if_neg (by simp)]
  refine wpAny_bind (listUpdate_at (xs := #[]) (n := 0) (Heap.get?_push_size _ rfl) rfl ?_ (Nat.zero_le _) (by show (#[] ++ vs.toArray).size ≤ sizeLine + 1; simp only [Array.size_append, List.size_toArray, List.length_nil]; omega))
  refine wpAny_pure ?_
  show wpAny (model prog w) A (do
      let o ← load s.heap.objs.size
      match o.data with
      | .seq xs _ => pure xs.toList
      | _ => unsupported "internal:collect") Q E { s with heap := (s.heap.push (seqObj "list" #[] 0)).update s.heap.objs.size (Obj.mapSeq (· ++ vs.toArray)) }
  refine wpAny_bind (wpAny_load (get?_update_seq (Heap.get?_push_size _ rfl) _) ?_)
  show wpAny _ _ (pure ((#[] : Array Value) ++ vs.toArray).toList) Q E _
  rw [show ((#[] : Array Value) ++ vs.toArray).toList = vs by simp]
  exact wpAny_pure h
theorem sortedKT {κ : KeyKind} (hO : κ.OneLt) {l : Addr} {vs : List Value} {Q : Value → Shared → Prop} (hl : s.heap.IsTuple l vs.toArray) (h0 : KeysOf κ (pairsOf vs)) (hkk : ∀ v₁ v₂ rest, vs = v₁ :: v₂ :: rest → keyKind' (v₁ :: v₂ :: rest).toArray = pure oneType') (h64 : vs.length < 64)
    (h : ∀ st' : SortSt, (arrOf st').Perm (pairsOf vs) → SortedToK κ (arrOf st') (pairsOf vs).size → Q (.ref (s.heap.objs.size + 1)) { s with heap := sortedAll s.heap vs ((arrOf st').map (·.2)) }) :
    wpAny (model prog w) A (call (.builtin "sorted") [.ref l]) Q E s := by
  refine Calls.call_function_entry kind_sorted plain_sorted entry_sorted (args_sorted1 _) ?_
  unfold Builtin.«sorted»
  refine wpAny_bind (m := checkCount "sorted" 1 1 _) (wpAny_pure ?_)
  refine wpAny_bind (collect_tup hl ?_)
  refine wpAny_bind (wpAny_newList ?_)
  have hsz : ((s.heap.push (seqObj "list" #[] 0)).update s.heap.objs.size (Obj.mapSeq (· ++ vs.toArray))).objs.size = s.heap.objs.size + 1 := by
    rw [Heap.size_update, size_push']
  have hoL : (((s.heap.push (seqObj "list" #[] 0)).update s.heap.objs.size (Obj.mapSeq (· ++ vs.toArray))).push (seqObj "list" vs.toArray 0)).get? (s.heap.objs.size + 1) = some (seqObj "list" vs.toArray 0) := by
    rw [← hsz]; exact Heap.get?_push_size _ rfl
  show wpAny _ _ _ _ _ { s with heap := ((s.heap.push (seqObj "list" #[] 0)).update s.heap.objs.size (Obj.mapSeq (· ++ vs.toArray))).push (seqObj "list" vs.toArray 0) }
  rw [hsz]
  refine wpAny_bind (wpAny_holding (wpAny_call_entry slot_list_sort ⟨_, hoL, rfl⟩ entry_list_sort (list_sort_treeK hO hoL h0 hkk h64 fun st' a1 a2 => ⟨_, rfl, ?_⟩) (args_list_sort _)))
  exact wpAny_pure ⟨_, rfl, h st' a1 a2⟩
end
section
variable {X : Cx}
/-- sorted(xs), xs a list or a tuple of texts -/
def rSortedQ (K : PySem.W.Frag) : List V → Hp → VK → Prop := fun vs H Q => ∃ (a : Addr) (xs : List Str), vs = [V.ref a] ∧ (SqL K H a (xs.map V.str) ∨ SqT K H a (xs.map V.str)) ∧ xs.length < 64 ∧
  ∀ (ys : List Str) (p : Addr), ys.Perm xs → sortedS ys = true → H p = none → Q (.ref p) (upd H p (.lst (ys.map V.str)))
theorem cr_sortedQ : CallR X (.builtin "sorted") (rSortedQ X.K) := by
  intro pins s σ H vs us Q I r h
  obtain ⟨a, xs, rfl, hs, h64, q⟩ := h
  rcases hs with hs | hs
  · exact cr_sortedS pins s σ H _ _ Q I r ⟨a, xs, rfl, hs, h64, q⟩
  · obtain ⟨its, rv, hl, _⟩ := I.tuple hs
    rw [Vals.ref1 r]
    have hlen0 := rv.length
    rw [List.length_map] at hlen0
    have hS := rv.strs
    refine sortedKT strKind_oneLt hl hS.keysOf (fun v₁ v₂ rest e => keyKind_strs (by rw [← e]; exact hS)) (by rw [← hlen0]; exact h64) fun st' hp hs => ?_
    obtain ⟨ys, h1, h2, h3⟩ := sorted_out_str hS hp hs
    obtain ⟨ep, he'⟩ := PyProof.Rows.sortedAll_at s.heap its ((arrOf st').map (·.2))
    have hlen : (ys.map V.str).length ≤ sizeLine := by rw [List.length_map, h2.length_eq]; exact small64 h64
    exact ⟨.ref _, upd H (s.heap.objs.size + 1) (.lst (ys.map V.str)), I.laid (t' := s.toks) (fun _ _ => PyProof.Rows.sortedAll_old) (Nat.le_succ _) ⟨hlen, ((arrOf st').map (·.2)).toList, ep, vals_of_strs h1, he'⟩, rfl, q ys _ h2 h3 (I.hok.fresh (Nat.le_succ _))⟩
end
end Gx
namespace Gx
open PySem PySem.Spec PyProof.Rows L2
/-! ### tuples of the module, classes of the module, an error with two fields -/
/-- the name stands for a tuple of the module -/
structure TupAt (K : PySem.W.Frag) (mg : Str → Option Value) (x : Str) (vs : List V) : Prop where
  g : mg x = some (.ref (cl mg x))
  t : ∀ H : Hp, SqT K H (cl mg x) vs
theorem TupAt.known {K : PySem.W.Frag} {mg : Str → Option Value} {x : Str} {vs : List V} (T : TupAt K mg x vs) : KnownAt mg x (.ref (cl mg x)) := ⟨_, T.g, rfl⟩
theorem TupAt.of {K : PySem.W.Frag} {mg : Str → Option Value} {h : Heap} {x : Str} {vs : List He.Dv} (X : K.In h) (G : h.Ns mainGlobals mg) (f : (He.Fa.glo x).ok K = true) (b : He.tupB K x vs = true) : TupAt K mg x (vs.map (He.Dv.v K)) :=
  ⟨by rw [cl_ga X G f]; exact He.glo_ok X G f, fun H => by rw [cl_ga X G f]; exact He.tupB_ok b H⟩
/-- self.f = v; self.g = w, of a new error -/
def spInit2 (K : PySem.W.Frag) (C : Addr) (f g : Str) : Sp := fun vs H Q _ => ∃ a v v2, vs = [.ref a, v, v2] ∧ H a = some (exo a C none) ∧ OexC K C ∧ PySem.W.findIn K (.ref C) f = some none ∧ PySem.W.findIn K (.ref C) g = some none ∧
  ∀ d, H d = none → d ≠ a → Q .non (upd (upd (upd H d (exd d [(f, v)])) a (exo a C (some d))) d (exd d [(g, v2), (f, v)]))
section
variable {P : Program} {w : World} {K : PySem.W.Frag} {mg : Str → Option Value} {base : Heap}
theorem initT_ok {qual f g p1 p2 p3 : Str} {st : Stmt} {fI : Addr} {fd : FuncData} {C : Addr} (F : Fun K "__init__" qual st fI fd) (S : FnScope [p1, p2, p3] [p1, p2, p3] (defScope st))
    (body : ∀ (cdv : Value) (A : Around) (outer : List Env) (s : Shared) (H : Hp) (E : XK), PSs (cxOf CX0 P w K mg base [p1, p2, p3] qual (defScope st) fI cdv A outer s H E).nox (defBody st)
      (fun D σ H => tOst K f (tVar 0) (tVar 1) { D with nx := fun σ1 H1 => tOst K g (tVar 0) (tVar 2) D σ1 H1 } σ H)) :
    FnOk P w K mg base CX0 1 fI fd [p1, p2, p3] (spInit2 K C f g) := by
  refine F.ok S (fun vs H Q E h => ?_) fun cdv A outer s H vs Q E hr h => ?_
  · obtain ⟨a, v, v2, rfl, _⟩ := h
    rfl
  · obtain ⟨a, v, v2, rfl, ha, T, hn, hm, q⟩ := h
    refine ⟨_, body cdv A outer s H E, v, rfl, _, rfl, a, C, rfl, T, hn, .inl ⟨ha, fun d n ne => ?_⟩⟩
    refine ⟨v2, rfl, _, rfl, a, C, rfl, T, hm, .inr ⟨d, [(f, v)], upd_same, ?_, (by show 1 ≤ 900; decide), ?_⟩⟩
    · rw [upd_ne ne]
      exact upd_same
    · exact q d n ne
end
/-- the wish of a made error: its two fields' values -/
def tErr2 (C : Addr) (f g : Str) (te te2 : TE) : L2.St → Hp → XK → Prop := fun σ H Q => te σ H fun v H1 => ∃ R : VK, te2 σ H1 R ∧ ∀ v2 H2, R v2 H2 → ∀ d, H2 d = none → Q (.ref C) (some d) (upd H2 d (.xd [(g, v2), (f, v)]))
section
variable {X : Cx} {x qual f g p1 p2 p3 : Str} {st : Stmt} {k : Nat} {e e2 : Expr} {te te2 : TE} {p pos : Pos}
theorem pmk_err2 (T : ErrAt X.K X.mg x qual st) (G : ClsAt X.K X.mg x) (hn : PySem.W.findIn X.K (.ref (cl X.mg x)) f = some none) (hn2 : PySem.W.findIn X.K (.ref (cl X.mg x)) g = some none) (hr : Room k X.A) (hk : 2 ≤ k)
    (S : FnScope [p1, p2, p3] [p1, p2, p3] (defScope st)) (hq : PosQ "__init__" qual st [p1, p2, p3])
    (body : ∀ (fI : Addr) (cdv : Value) (A : Around) (outer : List Env) (s : Shared) (H : Hp) (E : XK), PSs (cxOf CX0 X.prog X.w X.K X.mg X.base [p1, p2, p3] qual (defScope st) fI cdv A outer s H E).nox (defBody st)
      (fun D σ H => tOst X.K f (tVar 0) (tVar 1) { D with nx := fun σ1 H1 => tOst X.K g (tVar 0) (tVar 2) D σ1 H1 } σ H))
    (hg : Gl X x) (he : PE X e te) (he2 : PE X e2 te2) (n0 : (x == ("__debug__" : Str)) = false := by decide) (n1 : starEach [e, e2] X.env = (false, eval e X.env) :: starEach [e2] X.env := by rfl) (n3 : starEach [e2] X.env = (false, eval e2 X.env) :: starEach [] X.env := by rfl)
    (n2 : (backTo pos (starEach [e2] X.env)).any (·.1) = false := by rfl) :
    PMk X (.Call (.Name x p) [e, e2] [] pos) (tErr2 (cl X.mg x) f g te te2) := by
  obtain ⟨fI, fd, i1, i2, F⟩ := T.ini
  have F1 := initT_ok (P := X.prog) (w := X.w) (mg := X.mg) (base := X.base) (C := cl X.mg x) F S (body fI)
  intro pins s σ H Q I h
  refine pmk_oex T.oex i1 i2 F1 (hr.mono hk) (F.binds hq) .nil pass0 hg G.g (pa_cons (pe_mo he) (pa_cons (pe_mo he2) pa_nil n3) n1) n0 n1 n2 pins s σ H Q I ?_
  refine ⟨_, h, fun v H1 h2 => ?_⟩
  obtain ⟨R, h2, q⟩ := h2
  refine ⟨R, h2, fun v2 H2 hR => ⟨(by decide : 2 ≤ 1000), fun a ha => ⟨a, v, v2, rfl, upd_same, T.oex, hn, hn2, fun d n ne => ⟨rfl, d, [(g, v2), (f, v)], ?_, upd_same, ?_, ?_⟩⟩⟩⟩
  · rw [upd_ne (Ne.symm ne)]
    exact upd_same
  · rw [upd_ne ne] at n
    exact n
  · rw [upd_ne ne] at n
    have z : upd (del (upd (upd (upd (upd H2 a (exo a (cl X.mg x) none)) d (exd d [(f, v)])) a (exo a (cl X.mg x) (some d))) d (exd d [(g, v2), (f, v)])) a) d (.xd [(g, v2), (f, v)]) = upd H2 d (.xd [(g, v2), (f, v)]) := by
      funext b
      by_cases c : b = d
      · rw [c, upd_same, upd_same]
      · rw [upd_ne c, upd_ne c]
        by_cases c2 : b = a
        · rw [c2, del_same, ha]
        · rw [del_ne c2, upd_ne c, upd_ne c2, upd_ne c, upd_ne c2]
    rw [z]
    exact q v2 H2 hR d n
end
/-! ### methods of the module's classes -/
/-- how n positional values (the object among them) and keywords ks are put in the parameters' order by g, with the defaults -/
structure MetB (m qual : Str) (st : Stmt) (ps : List Str) (dn n : Nat) (ks : List Str) (g : {α : Type} → List α → List α → List α → List α) : Prop where
  to : ∀ (T : Addr) (kV doc pm : Value) (an : Option Addr) (cdv ct : Value) (us its ws : List Value), us.length = n → its.length = dn → ws.length = ks.length →
    ∃ k, bindArgs (PySem.W.fnOf m qual (defArgs st) (defBody st) (defScope st) (.ref T) kV doc pm an cdv ct) ⟨us, ks.zip ws⟩ = seqItems? (.ref T) >>= k ∧ k (some its.toArray) = pure (ps.zip (g us its ws))
  rel : ∀ {vs ds zs : List V} {us its ws : List Value}, Vals vs us → Vals ds its → Vals zs ws → Vals (g vs ds zs) (g us its ws)
/-- a class of the module with this method -/
structure MetAt (K : PySem.W.Frag) (mg : Str → Option Value) (x m qual : Str) (st : Stmt) (dvs : List V) : Prop where
  g : mg x = some (.ref (cl mg x))
  c : L2.Cls K (cl mg x)
  f : ∃ fd, FunD K m qual (defArgs st) (defBody st) (defScope st) dvs [] (He.ma K (cl mg x) m) fd
section
variable (P : Program) (w : World) (K : PySem.W.Frag) (mg : Str → Option Value) (base : Heap)
structure PrM (CX : CXT) (k : Nat) (x m qual : Str) (st : Stmt) (ps : List Str) (dvs : List V) (sp : Sp) : Prop where
  g : mg x = some (.ref (cl mg x))
  c : L2.Cls K (cl mg x)
  ex : ∃ fd, FunD K m qual (defArgs st) (defBody st) (defScope st) dvs [] (He.ma K (cl mg x) m) fd ∧ FnOk P w K mg base CX k (He.ma K (cl mg x) m) fd ps sp
end
section
variable {P : Program} {w : World} {K : PySem.W.Frag} {mg : Str → Option Value} {base : Heap} {k : Nat} {x m qual : Str} {st : Stmt} {ps N : List Str} {dvs : List V} {sp : Sp}
theorem MetAt.okX (D : MetAt K mg x m qual st dvs) (S : FnScope N ps (defScope st)) (len : ∀ vs H Q E, sp vs H Q E → vs.length = ps.length)
    (body : ∀ (f : Addr) (cdv : Value) (A : Around) (outer : List Env) (s : Shared) (H : Hp) (vs : List V) (Q : VK) (E : XK), Room k (A.deeper (envOfC qual (defScope st) s.heap.objs.size f cdv)) → sp vs H Q E →
      ∃ t, PSs (cxOf (L2.CX P w) P w K mg base N qual (defScope st) f cdv A outer s H E) (defBody st) t ∧ t { nx := fun _ H' => Q .non H', rt := Q } (start N vs) H) : PrM P w K mg base (L2.CX P w) (k + 1) x m qual st ps dvs sp := by
  obtain ⟨g, c, fd, F⟩ := D
  exact ⟨g, c, fd, F, F.ok S len fun cdv A outer s H vs Q E => body _ cdv A outer s H vs Q E⟩
theorem MetAt.ok (D : MetAt K mg x m qual st dvs) (S : FnScope N ps (defScope st)) (len : ∀ vs H Q E, sp vs H Q E → vs.length = ps.length)
    (body : ∀ (f : Addr) (cdv : Value) (A : Around) (outer : List Env) (s : Shared) (H : Hp) (vs : List V) (Q : VK) (E : XK), Room k (A.deeper (envOfC qual (defScope st) s.heap.objs.size f cdv)) → sp vs H Q E →
      ∃ t, PSs (cxOf CX0 P w K mg base N qual (defScope st) f cdv A outer s H E).nox (defBody st) t ∧ t { nx := fun _ H' => Q .non H', rt := Q } (start N vs) H) : PrM P w K mg base CX0 (k + 1) x m qual st ps dvs sp := by
  obtain ⟨g, c, fd, F⟩ := D
  refine ⟨g, c, fd, F, F.ok S len fun cdv A outer s H vs Q E hr z => ?_⟩
  obtain ⟨t, h, q⟩ := body _ cdv A outer s H vs Q E hr z
  exact ⟨t, h.nox, q⟩
end
/-- C(e, .., k = v, ..): a new instance and its dict, then __init__ -/
def tMkC (C : Addr) (n m : Nat) (sp : Sp) (gV : List V → List V → List V) (E : L2.St → XK) (t tk : TA) : TE := fun σ H Q => t σ H fun vs H1 => tk σ H1 fun zs H2 => vs.length = n ∧ zs.length = m ∧
  ∀ x dx, H2 x = none → H2 dx = none → dx ≠ x → sp (gV (.ref x :: vs) zs) (upd (upd H2 dx (.own x)) x (.ins C dx [])) (fun v H3 => v = .non ∧ Q (.ref x) H3) (E σ)
section
variable {X : Cx} {CX : CXT} {k n : Nat} {f C : Addr} {fd : FuncData} {ps ks : List Str} {sp : Sp} {E : L2.St → XK} {x : Str} {p pos : Pos} {e : Expr} {es : List Expr} {kws : List Keyword} {t tk : TA} {g : List Value → List Value → List Value} {gV : List V → List V → List V}
theorem run_mkC {pins : List (Addr × Obj)} {σ : L2.St} {H : Hp} {s : Shared} {Q : VK} {us ws : List Value} {vs zs : List V} (M : L2.Mk X.K C f) (F : FnOk X.prog X.w X.K X.mg X.base CX k f fd ps sp) (hr : Room (k + 1) X.A) (hb : KBn X.K fd ps (n + 1) ks g gV)
    (hx : PassesAt CX X σ (E σ)) (I : Inv X pins σ H s) (r : Vals vs us) (rz : Vals zs ws) (l1 : vs.length = n) (l2 : zs.length = ks.length)
    (h : ∀ x dx, H x = none → H dx = none → dx ≠ x → sp (gV (.ref x :: vs) zs) (upd (upd H dx (.own x)) x (.ins C dx [])) (fun v H2 => v = .non ∧ Q (.ref x) H2) (E σ)) :
    wpAny (model X.prog X.w) X.A (call (.ref C) us (ks.zip ws)) (EP X pins σ Q) X.xe s := by
  have hq := h (s.heap.objs.size + 1) s.heap.objs.size (I.hok.fresh (Nat.le_succ _)) (I.hok.fresh (Nat.le_refl _)) (Nat.ne_of_lt (Nat.lt_succ_self _))
  have I2 := Inv.made (C := C) I
  have r1 : Vals (V.ref (s.heap.objs.size + 1) :: vs) (Value.ref (s.heap.objs.size + 1) :: us) := .cons rfl r
  have r2 := hb.rel r1 rz
  have e1 : (Value.ref (s.heap.objs.size + 1) :: us).length = n + 1 := r1.length.symm.trans (congrArg Nat.succ l1)
  have e2 : ws.length = ks.length := rz.length.symm.trans l2
  refine wpAny_call (make_map (f := f) I.kIn M.makes M.init (beq_iff_eq.mp M.fn) (codeAny_mono (F.run _ X.stack _ _ ⟨Value.ref (s.heap.objs.size + 1) :: us, ks.zip ws⟩ (g (Value.ref (s.heap.objs.size + 1) :: us) ws) _ _ (E σ) (hr.make C us (ks.zip ws))
    (I2.env0.make C us (ks.zip ws)) (hb.to _ (Value.ref (s.heap.objs.size + 1) :: us) ws I2.kIn e1 e2) r2 hq) fun r s' hq' => ?_))
  cases r with
  | error e => exact hx pins _ _ e s' I2 hq'
  | ok fl =>
    cases fl with
    | ret u =>
      obtain ⟨v, H', I3, rv, ev, q3⟩ := I2.after hq'
      subst ev
      exact ⟨rv, ⟨V.ref (s.heap.objs.size + 1), H', I3, rfl, q3⟩⟩
    | next => exact False.elim hq'
    | brk => exact False.elim hq'
    | cont => exact False.elim hq'
end
section
variable {X : Cx} {CX : CXT} {j k n : Nat} {qual : Str} {st : Stmt} {ps ks : List Str} {dvs : List V} {sp : Sp} {E : L2.St → XK} {x m : Str} {p pos apos : Pos} {e o : Expr} {es : List Expr} {kws : List Keyword} {ta : TE} {t tk : TA} {g : {α : Type} → List α → List α → List α → List α}
theorem met_binds {K : PySem.W.Frag} {f : Addr} {fd : FuncData} (F : FunD K m qual (defArgs st) (defBody st) (defScope st) dvs [] f fd) (hd : dvs ≠ []) (hb : MetB m qual st ps dvs.length n ks g) :
    ∃ its : List Value, KBn K fd ps n ks (fun us ws => g us its ws) (fun vs zs => g vs dvs zs) :=
  F.kbindsD n ks g hd (fun a b c => hb.rel a b c) fun T kV doc pm an cdv ct us its ws a b c => hb.to T kV doc pm an cdv ct us its ws a b c
/-- C(e, ..) -/
theorem pe_mkP (F : PrM X.prog X.w X.K X.mg X.base CX k x "__init__" qual st ps dvs sp) (M : L2.Mk X.K (cl X.mg x) (He.ma X.K (cl X.mg x) "__init__")) (hr : Room j X.A) (hk : k + 1 ≤ j) (hg : Gl X x) (hd : dvs ≠ []) (hb : MetB "__init__" qual st ps dvs.length (n + 1) [] g)
    (hx : ∀ σ, PassesAt CX X σ (E σ)) (ha : PA X (e :: es) t)
    (n0 : (x == ("__debug__" : Str)) = false := by decide) (n1 : starEach (e :: es) X.env = (false, eval e X.env) :: starEach es X.env := by rfl) (n2 : (backTo pos (starEach es X.env)).any (·.1) = false := by rfl) :
    PE X (.Call (.Name x p) (e :: es) [] pos) (tMkC (cl X.mg x) n 0 sp (fun vs zs => g vs dvs zs) E t tNil) := by
  obtain ⟨fd, Z, F1⟩ := F.ex
  obtain ⟨its, b⟩ := met_binds Z hd hb
  refine ⟨fun pins s σ H Q I h => ?_⟩
  refine wpAny_Call_Name_kw (ld_glob I hg F.g ?_ n0)
  refine PySem.W.callWith_K (h₀ := X.base) I.ok.mod.kin M.kp (thn (ha.run pos pins s σ H _ I h) fun us s1 ⟨vs, H1, I1, r, q⟩ => ⟨I1.kIn, ?_⟩) n1 n2
  obtain ⟨l1, l2, q⟩ := q
  exact run_mkC (ws := []) (zs := []) M F1 (hr.mono hk) b (hx σ) I1 r .nil l1 rfl q
/-- C(e, .., k = v, ..) -/
theorem pe_mkPK (F : PrM X.prog X.w X.K X.mg X.base CX k x "__init__" qual st ps dvs sp) (M : L2.Mk X.K (cl X.mg x) (He.ma X.K (cl X.mg x) "__init__")) (hr : Room j X.A) (hk : k + 1 ≤ j) (hg : Gl X x) (hd : dvs ≠ []) (hb : MetB "__init__" qual st ps dvs.length (n + 1) ks g)
    (hx : ∀ σ, PassesAt CX X σ (E σ)) (ha : PA X (e :: es) t) (hkw : PK X kws tk)
    (n1 : (backToKw pos (keywordEach kws X.env)).all (·.1.isSome) = true := by rfl) (n2 : (backToKw pos (keywordEach kws X.env)).filterMap (·.1) = ks := by rfl) (n0 : (x == ("__debug__" : Str)) = false := by decide)
    (n4 : starEach (e :: es) X.env = (false, eval e X.env) :: starEach es X.env := by rfl) (n3 : ((backTo pos (starEach (e :: es) X.env)).any (·.1) || (backToKw pos (keywordEach kws X.env)).any (·.1.isNone)) = false := by rfl) :
    PE X (.Call (.Name x p) (e :: es) kws pos) (tMkC (cl X.mg x) n ks.length sp (fun vs zs => g vs dvs zs) E t tk) := by
  obtain ⟨fd, Z, F1⟩ := F.ex
  obtain ⟨its, b⟩ := met_binds Z hd hb
  refine ⟨fun pins s σ H Q I h => ?_⟩
  refine wpAny_Call_Name_kw (ld_glob I hg F.g ?_ n0)
  refine PySem.W.callWith_KW (h₀ := X.base) I.ok.mod.kin M.kp n1 (thn (ha.run pos pins s σ H _ I h) fun us s1 ⟨vs, H1, I1, r, q⟩ => ?_) n3 n4
  refine thn (hkw.run pos pins s1 σ H1 _ I1 q) fun ws s2 ⟨zs, H2, I2, rz, l1, l2, q2⟩ => ⟨I2.kIn, ?_⟩
  rw [n2]
  exact run_mkC M F1 (hr.mono hk) b (hx σ) I2 r rz l1 l2 q2
/-- C(k = v, ..) -/
theorem pe_mkK (F : PrM X.prog X.w X.K X.mg X.base CX k x "__init__" qual st ps dvs sp) (M : L2.Mk X.K (cl X.mg x) (He.ma X.K (cl X.mg x) "__init__")) (hr : Room j X.A) (hk : k + 1 ≤ j) (hg : Gl X x) (hd : dvs ≠ []) (hb : MetB "__init__" qual st ps dvs.length 1 ks g)
    (hx : ∀ σ, PassesAt CX X σ (E σ)) (hkw : PK X kws tk)
    (n1 : (backToKw pos (keywordEach kws X.env)).all (·.1.isSome) = true := by rfl) (n2 : (backToKw pos (keywordEach kws X.env)).filterMap (·.1) = ks := by rfl) (n0 : (x == ("__debug__" : Str)) = false := by decide)
    (n3 : ((backTo pos (starEach [] X.env)).any (·.1) || (backToKw pos (keywordEach kws X.env)).any (·.1.isNone)) = false := by rfl) :
    PE X (.Call (.Name x p) [] kws pos) (tMkC (cl X.mg x) 0 ks.length sp (fun vs zs => g vs dvs zs) E tNil tk) := by
  obtain ⟨fd, Z, F1⟩ := F.ex
  obtain ⟨its, b⟩ := met_binds Z hd hb
  refine ⟨fun pins s σ H Q I h => ?_⟩
  refine wpAny_Call_Name_kw (ld_glob I hg F.g ?_ n0)
  refine PySem.W.callWith_KW0 (h₀ := X.base) I.ok.mod.kin M.kp n1 ?_ n3
  refine thn (hkw.run pos pins s σ H _ I h) fun ws s2 ⟨zs, H2, I2, rz, l1, l2, q2⟩ => ⟨I2.kIn, ?_⟩
  rw [n2]
  exact run_mkC (us := []) (vs := []) M F1 (hr.mono hk) b (hx σ) I2 .nil rz rfl l2 q2
/-- o.m(), no defaults -/
theorem pe_met0 {CX : CXT} {E : XK} {pl : Sem Bool} (F : PrM X.prog X.w X.K X.mg X.base CX k x m qual st ps [] sp) (hm : L2.Meth X.K (cl X.mg x) m (He.ma X.K (cl X.mg x) m)) (hr : Room j X.A) (hk : k ≤ j)
    (hb : ∀ (kV doc pm : Value) (an : Option Addr) (cdv ct : Value) (us : List Value), us.length = ps.length → bindArgs (PySem.W.fnOf m qual (defArgs st) (defBody st) (defScope st) .none kV doc pm an cdv ct) ⟨us, []⟩ = pure (ps.zip us))
    (hx : Passes CX X E) (he : PE X o ta)
    (ht : eval (.Call (.Attribute o m apos) [] [] pos) X.env = (do
      let ov ← eval o X.env
      standAt apos.atName
      let (f, first) ← holding [ov] (getMethod ov m pl)
      callWith pos f first (backTo pos (starEach [] X.env)) (backToKw pos (keywordEach [] X.env))) := by rfl) :
    PE X (.Call (.Attribute o m apos) [] [] pos) (tMeth (cl X.mg x) m sp [] E ta tNil) := by
  obtain ⟨fd, Z, F1⟩ := F.ex
  obtain ⟨oc, od, dV, kV, doc, pm, an, cdv, ct, osl, rfl, lk, hcd, hD, hK⟩ := Z.ex
  rcases hD with ⟨_, e⟩ | ⟨e, _⟩
  · subst e
    exact pe_meth0 he F.c hm F1 (hr.mono hk) (Binds.all fun us l => hb kV doc pm an cdv ct us l) .nil hx ht
  · exact absurd rfl e
/-- e.f, a property -/
theorem pe_prp {CX : CXT} {E : XK} {f : Str} {pA gA : Addr} {fd : FuncData} (hp : L2.PropOf X.K (cl X.mg x) f pA gA) (c : L2.Cls X.K (cl X.mg x)) (F : FnOk X.prog X.w X.K X.mg X.base CX k gA fd ["self"] sp) (hb : Binds X.K fd ["self"] []) (hr : Room j X.A) (hk : k + 1 ≤ j) (hx : Passes CX X.nox E)
    (he : PE X e ta) (hab : attributeBase e f X.env (eval e X.env) = eval e X.env := by rfl) : PE X (.Attribute e f pos) (tProp (cl X.mg x) sp [] E ta) :=
  pe_prop he c hp F (hr.mono hk) hb .nil hx hab
end
theorem call_isiK {X : Cx} {K : PySem.W.Frag} (hK : X.K = K) : CallR X (.builtin "isinstance") (rIsi K) := by
  subst hK
  exact call_isi
/-- x in t, a tuple of data -/
def rInDT (K : PySem.W.Frag) : R2 := fun x y H Q => ∃ d ds, Dp K H x d ∧ Dp K H y (.tuple ds) ∧ SeqAt.shaped d = true ∧ SeqAt.shaped (.tuple ds) = true ∧ Q (.bl (ds.any fun z => PyData.eqv z d)) H
theorem op_inDT {X : Cx} {K : PySem.W.Frag} (hK : X.K = K) (hu : X.A.units + 65 < cLine) : OpR X (compareOp .In) (rInDT K) := by
  subst hK
  intro pins s σ H x y v u Q I rx ry h
  obtain ⟨d, ds, hd, he, sd, se, q⟩ := h
  obtain ⟨as, r1⟩ := Dp.reads I d x v hd rx
  obtain ⟨bs, r2⟩ := Dp.reads I (.tuple ds) y u he ry
  exact SeqAt.in_tuple_reads r2 r1 (SeqAt.canLay_of_shaped se) (SeqAt.canLay_of_shaped sd) (room_in_shaped sd hu) ⟨.bl _, H, I, rfl, q⟩
end Gx
namespace Gx
open PySem PySem.Spec PyProof.Rows L2
/-! ### len(x) of an instance whose class has its own __len__ -/
section
variable {X : Cx} {CX : CXT} {k : Nat} {C f : Addr} {fd : FuncData} {ps : List Str} {sp : Sp} {E : XK}
def rLenOwn (C : Addr) (sp : Sp) (E : XK) : List V → Hp → VK → Prop := fun xs H Q => ∃ a dx fs, xs = [.ref a] ∧ H a = some (.ins C dx fs) ∧ sp [.ref a] H (fun v H' => ∃ n : Nat, v = .int n ∧ n ≤ sizeLine ∧ Q (.int n) H') E
theorem call_lenOwn (F : FnOk X.prog X.w X.K X.mg X.base CX k f fd ps sp) (hs : PySem.W.findIn X.K (.ref C) "__len__" = some (some (.ref f))) (ht : PySem.W.typeIn X.K (.ref f) = some (.type "function")) (hb : Binds X.K fd ps []) (hr : Room (k + 1) X.A) (hx : Passes CX X.nox E) :
    CallR X (.builtin "len") (rLenOwn C sp E) := by
  intro pins s σ H xs us Q I r h
  obtain ⟨a, dx, fs, rfl, ea, q⟩ := h
  obtain ⟨u, rfl, ru⟩ := vals1 r
  obtain rfl : u = Value.ref a := ru
  obtain ⟨mA, O, _⟩ := ins_get I.hok ea
  obtain ⟨od, J, _⟩ := O.look
  have sp1 : PySem.W.Looks (model X.prog X.w) s.heap (specialOf (.ref a) "__len__") (some (.ref f)) := J.type.andThen (PySem.W.looks_findIn I.kIn hs)
  have bd := PySem.W.bind_fn (M := model X.prog X.w) I.kIn (.ref a) ht
  refine Calls.call_function_entry kind_len plain_len entry_len (args_len1 _) ?_
  unfold Builtin.«len»
  refine wpAny_bind (m := oneArg "len" _) (wpAny_pure ?_)
  have hl : ([Value.ref a] ++ ([] : List Value)).length = ps.length := by
    rw [← F.len _ _ _ _ q]
    rfl
  have main : wpAny (model X.prog X.w) X.A.in1 (callSpecial? (.ref a) (PySem.Str.ofString "__len__")) (fun v s' => ∃ (n : Nat) (t : Tok) (H' : Hp), v = some (.int n t) ∧ n ≤ sizeLine ∧ Inv X pins σ H' s' ∧ Q (.int n) H') X.xe s := by
    simp only [callSpecial?]
    refine wpAny_bind (sp1.here ?_)
    refine wpAny_holding (wpAny_bind (bd.here ?_))
    refine wpAny_bind (wpAny_mono (Q := fun v s' => ∃ (n : Nat) (t : Tok) (H' : Hp), v = .int n t ∧ n ≤ sizeLine ∧ Inv X pins σ H' s' ∧ Q (.int n) H') ?_ (fun v s' z => ?_) fun _ _ z => z)
    · refine wpAny_call (codeAny_mono (F.run X.A.in1 X.stack s H ⟨[.ref a], []⟩ [.ref a] [.ref a] _ E hr.in1 I.env0.in1 (hb s [.ref a] I.kIn hl) (.cons rfl .nil) q) fun r s' hq => ?_)
      cases r with
      | error er => exact False.elim (hx pins σ H s er s' (I.wish _) hq)
      | ok fl =>
        cases fl with
        | ret u =>
          obtain ⟨v, H', I3, rv, n, rfl, hn, q3⟩ := I.after hq
          obtain ⟨t, rfl⟩ := rv
          exact ⟨n, t, H', rfl, hn, I3, q3⟩
        | next => exact False.elim hq
        | brk => exact False.elim hq
        | cont => exact False.elim hq
    · obtain ⟨n, t, H', rfl, hn, I', q'⟩ := z
      exact wpAny_pure ⟨n, t, H', rfl, hn, I', q'⟩
  refine wpAny_bind (wpAny_mono main (fun v s' z => ?_) fun _ _ z => z)
  obtain ⟨n, t, H', rfl, hn, I', q'⟩ := z
  have hz : sizeLine = 16777216 := sizeLine_eq
  refine wpAny_bind (wpAny_holding (wpAny_pure ?_))
  refine wpAny_bind (wpAny_letGo ?_)
  show wpAny _ _ (if ((n : Nat) : Int) < 0 then _ else _) _ _ _
  rw [if_neg (by omega)]
  show wpAny _ _ (if ((n : Nat) : Int) ≥ 2 ^ 63 then _ else _) _ _ _
  rw [if_neg (by omega)]
  exact wpAny_bind (wpAny_mkInt (wpAny_pure ⟨_, rfl, ⟨.int n, H', I'.tok _, ⟨_, rfl⟩, q'⟩⟩))
end
end Gx
namespace Gx
open PySem PySem.Spec PyProof.Rows L2
/-! ### the head by one run, for programs with own classes: defs at any address, the interpreter's statics -/
def asN (g : Addr → Option Obj) (n : Nat) : List Addr := levels g n [mainGlobals] ++ [cStatics]
def obsN (n : Nat) (fa : List He.Fa) (fn : List He5.DefA) (ex : PySem.W.Frag → Bool) (g : Addr → Option Obj) : AlM := (He5.obsA fa fn (He.frG g (asN g n)), ex (He.frG g (asN g n)), sysB g)
def hookN (n : Nat) (fa : List He.Fa) (fn : List He5.DefA) (ex : PySem.W.Frag → Bool) : PySem.W.Hook where
  α := AlM
  obs := fun s => obsN n fa fn ex s.heap.get?
  val := fun _ => (He5.valA fn, true, true)
  says := fun _ h => ∃ K : PySem.W.Frag, K.In h ∧ He5.SaysA fa fn K ∧ ex K = true ∧ SysD h
  of := fun _ s e => by
    have e1 : He5.obsA fa fn (He.frG s.heap.get? (asN s.heap.get? n)) = He5.valA fn := congrArg (fun z : AlM => z.1) e
    have e2 : ex (He.frG s.heap.get? (asN s.heap.get? n)) = true := congrArg (fun z : AlM => z.2.1) e
    have e3 : sysB s.heap.get? = true := congrArg (fun z : AlM => z.2.2) e
    refine ⟨_, He.frG_in, e1, e2, ?_⟩
    unfold sysB at e3
    split at e3
    · rename_i o ho
      exact ⟨o, ho, beq_iff_eq.mp e3⟩
    · cases e3
  keeps := fun _ _ _ ⟨K, hK, c, x, o, h1, h2⟩ k => ⟨K, PySem.W.Frag.In.keeps hK k, c, x, o, k _ _ h1, h2⟩
theorem obsN_eq {n : Nat} {fa : List He.Fa} {fn : List He5.DefA} {ex : PySem.W.Frag → Bool} {g : Addr → Option Obj} {s : Shared} (h : ∀ a, g a = s.heap.get? a) : obsN n fa fn ex g = (hookN n fa fn ex).obs s := by
  have e : g = s.heap.get? := funext h
  rw [e]
  rfl
open PySem.W PySem.Calls in
/-- the run's equation from three looks at it -/
theorem run_threeN {r : PySem.W.OpenRow} {q : Program} {M n : Nat} {loose : List Str} {fa : List He.Fa} {fn : List He5.DefA} {ex : PySem.W.Frag → Bool} {w : World} {ob : PySem.W.SharedT → AlM}
    (ho : ∀ s, ob s = obsN n fa fn ex (HandSHeadRun.getT s))
    (h1 : ∀ os : OsState, (HandSHeadRun.endF (HandSHeadRun.stepQ (HandSHeadRun.denQ HandSHeadRun.tabQ) r.prog w) M r.prog w os).map (fun s => (HandSHeadRun.looksF r.prog (boot_heap w.params) s.abs, HandSHeadRun.seenQ q loose (importedModules r.prog.main.body) (fun s => PySem.W.xlAt q [] s && PySem.W.recOk r.toRowW.records s) s.abs)) = some (true, PySem.W.openGood q loose))
    (h2 : ∀ os : OsState, (HandSHeadRun.endF (HandSHeadRun.stepQ (HandSHeadRun.denQ HandSHeadRun.tabQ) r.prog w) M r.prog w os).map (fun s => He5.obsA fa fn (He.frG (HandSHeadRun.getT s) (asN (HandSHeadRun.getT s) n))) = some (He5.valA fn))
    (h3 : ∀ os : OsState, (HandSHeadRun.endF (HandSHeadRun.stepQ (HandSHeadRun.denQ HandSHeadRun.tabQ) r.prog w) M r.prog w os).map (fun s => (ex (He.frG (HandSHeadRun.getT s) (asN (HandSHeadRun.getT s) n)), sysB (HandSHeadRun.getT s))) = some (true, true)) :
    HandSHeadRun.RunEq r q (hookN n fa fn ex) ob M loose w := fun os => by
  have z := map_three (h1 os) (h2 os) (h3 os)
  rw [show ob = fun s => obsN n fa fn ex (HandSHeadRun.getT s) from funext ho]
  exact z
/-- a def of the top, with these defaults -/
def defN (x : Str) (st : Stmt) (dfl : List He.Dv) : He5.DefA := ⟨fun K => He.ga K x, x, x, defArgs st, defBody st, defScope st, dfl, []⟩
/-- a method -/
def metN (c m qual : Str) (st : Stmt) (dfl : List He.Dv) : He5.DefA := ⟨fun K => He.ma K (He.ga K c) m, m, qual, defArgs st, defBody st, defScope st, dfl, []⟩
/-- the getter of a property -/
def gtA (K : PySem.W.Frag) (c m : Str) : Addr := match PySem.W.recIn K (He.ma K (He.ga K c) m) "property" with
  | some (.ref g :: _) => g
  | _ => 0
def getN (c m qual : Str) (st : Stmt) : He5.DefA := ⟨fun K => gtA K c m, m, qual, defArgs st, defBody st, defScope st, [], []⟩
/-- a property, looked at -/
def prpB (K : PySem.W.Frag) (c m : Str) : Bool := decide (PySem.W.findIn K (.ref (He.ga K c)) m = some (some (.ref (He.ma K (He.ga K c) m)))) && (decide (PySem.W.specialIn K (.ref (He.ma K (He.ga K c) m)) "__get__" = some (some (.builtin "property.__get__"))) &&
  (decide (PySem.W.takesIn K (.ref (He.ma K (He.ga K c) m)) = some true) && (match PySem.W.recIn K (He.ma K (He.ga K c) m) "property" with
    | some (.ref _ :: _) => true
    | _ => false)))
theorem prpB_ok {K : PySem.W.Frag} {c m : Str} (h : prpB K c m = true) : L2.PropOf K (He.ga K c) m (He.ma K (He.ga K c) m) (gtA K c m) := by
  obtain ⟨h1, h⟩ := He.ba h
  obtain ⟨h2, h⟩ := He.ba h
  obtain ⟨h3, h4⟩ := He.ba h
  refine ⟨of_decide_eq_true h1, of_decide_eq_true h2, of_decide_eq_true h3, ?_⟩
  unfold gtA
  split at h4
  · rename_i g r e
    exact ⟨r, by rw [e]⟩
  · cases h4
/-- a constant of a class, looked at -/
def cvalB (K : PySem.W.Frag) (c m : Str) (i : Int) : Bool := PySem.W.readsIn K (He.ga K c) (.type "type") && (decide (PySem.W.specialIn K (.ref (He.ga K c)) "__getattribute__" = some (some (.builtin "type.__getattribute__"))) && (match PySem.W.findCls K (.ref (He.ga K c)) (.type "type") m with
  | some (.val (.int j _)) => decide (j = i)
  | _ => false))
/-- C.m is this number -/
structure CInt (K : PySem.W.Frag) (mg : Str → Option Value) (c m : Str) (i : Int) : Prop where
  g : mg c = some (.ref (cl mg c))
  r : ClX.CRead K (cl mg c) (.type "type")
  v : ∃ u, ClX.CVal K (cl mg c) (.type "type") m (.int i) u
theorem cvalB_ok {K : PySem.W.Frag} {mg : Str → Option Value} {h : Heap} {c m : Str} {i : Int} (X : K.In h) (G : h.Ns mainGlobals mg) (f : (He.Fa.glo c).ok K = true) (b : cvalB K c m i = true) : CInt K mg c m i := by
  obtain ⟨h1, b⟩ := He.ba b
  obtain ⟨h2, h3⟩ := He.ba b
  have e := cl_ga X G f
  refine ⟨by rw [e]; exact He.glo_ok X G f, by rw [e]; exact ⟨h1, of_decide_eq_true h2⟩, ?_⟩
  rw [e]
  split at h3
  · rename_i j t z
    have ej : j = i := of_decide_eq_true h3
    subst ej
    exact ⟨_, z, ⟨t, rfl⟩⟩
  · cases h3
/-- C.m, a number -/
theorem pe_cint {X : Cx} {c m : Str} {i : Int} {p pos : Pos} (T : CInt X.K X.mg c m i) (hg : Gl X c) (hd : (c == ("__debug__" : Str)) = false := by decide) (hb : attributeBase (.Name c p) m X.env (eval (.Name c p) X.env) = eval (.Name c p) X.env := by rfl) : PE X (.Attribute (.Name c p) m pos) (tC (.int i)) := by
  refine ⟨fun pins s σ H Q I h => ?_⟩
  obtain ⟨u, v⟩ := T.v
  refine (ClX.pe_cval (X := X) (f := m) (pos := pos) (pe_k hg (⟨_, T.g, rfl⟩ : KnownAt X.mg c (.ref (cl X.mg c))) hd) hb).run pins s σ H Q I ?_
  exact ⟨_, _, _, u, rfl, T.r, v, h⟩
section
variable {K : PySem.W.Frag} {h : Heap} {mg : Str → Option Value} {x m qual : Str} {st : Stmt} {dfl : List He.Dv}
theorem defAt_n (X : K.In h) (G : h.Ns mainGlobals mg) (f : (He.Fa.glo x).ok K = true) (d : ∃ fd, L2.FunD K x x (defArgs st) (defBody st) (defScope st) [] [] (He.ga K x) fd) : DefAt K mg x st :=
  let ⟨fd, F⟩ := d
  ⟨_, fd, He.glo_ok X G f, He5.fun_of F⟩
theorem metAt_n (X : K.In h) (G : h.Ns mainGlobals mg) (f : (He.Fa.glo x).ok K = true) (c : (He.Fa.cls x).ok K = true) {dvs : List V} (d : ∃ fd, L2.FunD K m qual (defArgs st) (defBody st) (defScope st) dvs [] (He.ma K (He.ga K x) m) fd) : MetAt K mg x m qual st dvs := by
  have e := cl_ga X G f
  exact ⟨by rw [e]; exact He.glo_ok X G f, by rw [e]; exact He.cls_ok c, by rw [e]; exact d⟩
end
end Gx
namespace Gx
open PySem PySem.Spec PyProof.Rows L2
/-- a class of the module with this property -/
structure GetAt (K : PySem.W.Frag) (mg : Str → Option Value) (x f qual : Str) (st : Stmt) : Prop where
  g : mg x = some (.ref (cl mg x))
  c : L2.Cls K (cl mg x)
  ex : ∃ pA gA fd, L2.PropOf K (cl mg x) f pA gA ∧ Fun K f qual st gA fd
section
variable (P : Program) (w : World) (K : PySem.W.Frag) (mg : Str → Option Value) (base : Heap)
structure PrQ (k : Nat) (x f : Str) (sp : Sp) : Prop where
  g : mg x = some (.ref (cl mg x))
  c : L2.Cls K (cl mg x)
  ex : ∃ pA gA fd, L2.PropOf K (cl mg x) f pA gA ∧ FnOk P w K mg base CX0 k gA fd ["self"] sp ∧ Binds K fd ["self"] []
end
section
variable {P : Program} {w : World} {K : PySem.W.Frag} {mg : Str → Option Value} {base : Heap} {h : Heap} {k : Nat} {x f qual : Str} {st : Stmt} {N : List Str} {sp : Sp}
theorem getAt_n (X : K.In h) (G : h.Ns mainGlobals mg) (fa : (He.Fa.glo x).ok K = true) (c : (He.Fa.cls x).ok K = true) (p : prpB K x f = true) (d : ∃ fd, L2.FunD K f qual (defArgs st) (defBody st) (defScope st) [] [] (gtA K x f) fd) : GetAt K mg x f qual st := by
  have e := cl_ga X G fa
  obtain ⟨fd, F⟩ := d
  exact ⟨by rw [e]; exact He.glo_ok X G fa, by rw [e]; exact He.cls_ok c, by rw [e]; exact ⟨_, _, fd, prpB_ok p, He5.fun_of F⟩⟩
theorem GetAt.ok (D : GetAt K mg x f qual st) (S : FnScope N ["self"] (defScope st)) (hq : PosQ f qual st ["self"]) (len : ∀ vs H Q E, sp vs H Q E → vs.length = 1)
    (body : ∀ (f : Addr) (cdv : Value) (A : Around) (outer : List Env) (s : Shared) (H : Hp) (vs : List V) (Q : VK) (E : XK), Room k (A.deeper (envOfC qual (defScope st) s.heap.objs.size f cdv)) → sp vs H Q E →
      ∃ t, PSs (cxOf CX0 P w K mg base N qual (defScope st) f cdv A outer s H E).nox (defBody st) t ∧ t { nx := fun _ H' => Q .non H', rt := Q } (start N vs) H) : PrQ P w K mg base (k + 1) x f sp := by
  obtain ⟨g, c, pA, gA, fd, p, F⟩ := D
  exact ⟨g, c, pA, gA, fd, p, F.ok S len fun cdv A outer s H vs Q E hr z => body _ cdv A outer s H vs Q E hr z, F.binds hq⟩
end
section
variable {X : Cx} {j k : Nat} {qual : Str} {st : Stmt} {ps : List Str} {sp : Sp} {x f : Str} {pos : Pos} {e : Expr} {ta : TE}
theorem pe_prq (F : PrQ X.prog X.w X.K X.mg X.base k x f sp) (hr : Room j X.A) (hk : k + 1 ≤ j) (he : PE X e ta) (hab : attributeBase e f X.env (eval e X.env) = eval e X.env := by rfl) : PE X (.Attribute e f pos) (tProp (cl X.mg x) sp [] E0 ta) := by
  obtain ⟨pA, gA, fd, p, F1, b⟩ := F.ex
  exact pe_prop he F.c p F1 (hr.mono hk) b .nil pass0 hab
theorem call_lenM (F : PrM X.prog X.w X.K X.mg X.base CX0 k x "__len__" qual st ps [] sp) (hm : L2.Meth X.K (cl X.mg x) "__len__" (He.ma X.K (cl X.mg x) "__len__"))
    (hb : ∀ (kV doc pm : Value) (an : Option Addr) (cdv ct : Value) (us : List Value), us.length = ps.length → bindArgs (PySem.W.fnOf "__len__" qual (defArgs st) (defBody st) (defScope st) .none kV doc pm an cdv ct) ⟨us, []⟩ = pure (ps.zip us))
    (hr : Room j X.A) (hk : k + 1 ≤ j) : CallR X (.builtin "len") (rLenOwn (cl X.mg x) sp E0) := by
  obtain ⟨fd, Z, F1⟩ := F.ex
  obtain ⟨oc, od, dV, kV, doc, pm, an, cdv, ct, osl, rfl, lk, hcd, hD, hK⟩ := Z.ex
  rcases hD with ⟨_, e⟩ | ⟨e, _⟩
  · subst e
    exact call_lenOwn F1 hm.at_ (beq_iff_eq.mp hm.fn) (Binds.all fun us l => hb kV doc pm an cdv ct us l) (hr.mono hk) pass0
  · exact absurd rfl e
end
end Gx
namespace Gx
open PySem PySem.Spec PyProof.Rows L2
/-! ### calls of own classes, where the context is bound by a try -/
section
variable {X : Cx} {CX : CXT} {k j n : Nat} {st : Stmt} {mg : Str → Option Value} {ps ks : List Str} {sp : Sp} {E : L2.St → XK} {x m qual f : Str} {p pos apos : Pos} {e o : Expr} {es : List Expr} {kws : List Keyword} {dvs : List V} {t tk : TA} {ta : TE} {g : {α : Type} → List α → List α → List α → List α}
theorem pe_mkPt (hm : X.mg = mg) (F : PrM X.prog X.w X.K mg X.base CX k x "__init__" qual st ps dvs sp) (M : L2.Mk X.K (cl mg x) (He.ma X.K (cl mg x) "__init__")) (hr : Room j X.A) (hk : k + 1 ≤ j) (hg : Gl X x) (hd : dvs ≠ []) (hb : MetB "__init__" qual st ps dvs.length (n + 1) [] g)
    (hx : ∀ σ, PassesAt CX X σ (E σ)) (ha : PA X (e :: es) t)
    (n0 : (x == ("__debug__" : Str)) = false := by decide) (n1 : starEach (e :: es) X.env = (false, eval e X.env) :: starEach es X.env := by rfl) (n2 : (backTo pos (starEach es X.env)).any (·.1) = false := by rfl) :
    PE X (.Call (.Name x p) (e :: es) [] pos) (tMkC (cl mg x) n 0 sp (fun vs zs => g vs dvs zs) E t tNil) := by
  subst hm
  exact pe_mkP F M hr hk hg hd hb hx ha n0 n1 n2
theorem pe_mkPKt (hm : X.mg = mg) (F : PrM X.prog X.w X.K mg X.base CX k x "__init__" qual st ps dvs sp) (M : L2.Mk X.K (cl mg x) (He.ma X.K (cl mg x) "__init__")) (hr : Room j X.A) (hk : k + 1 ≤ j) (hg : Gl X x) (hd : dvs ≠ []) (hb : MetB "__init__" qual st ps dvs.length (n + 1) ks g)
    (hx : ∀ σ, PassesAt CX X σ (E σ)) (ha : PA X (e :: es) t) (hkw : PK X kws tk)
    (n1 : (backToKw pos (keywordEach kws X.env)).all (·.1.isSome) = true := by rfl) (n2 : (backToKw pos (keywordEach kws X.env)).filterMap (·.1) = ks := by rfl) (n0 : (x == ("__debug__" : Str)) = false := by decide)
    (n4 : starEach (e :: es) X.env = (false, eval e X.env) :: starEach es X.env := by rfl) (n3 : ((backTo pos (starEach (e :: es) X.env)).any (·.1) || (backToKw pos (keywordEach kws X.env)).any (·.1.isNone)) = false := by rfl) :
    PE X (.Call (.Name x p) (e :: es) kws pos) (tMkC (cl mg x) n ks.length sp (fun vs zs => g vs dvs zs) E t tk) := by
  subst hm
  exact pe_mkPK F M hr hk hg hd hb hx ha hkw n1 n2 n0 n4 n3
theorem pe_mkKt (hm : X.mg = mg) (F : PrM X.prog X.w X.K mg X.base CX k x "__init__" qual st ps dvs sp) (M : L2.Mk X.K (cl mg x) (He.ma X.K (cl mg x) "__init__")) (hr : Room j X.A) (hk : k + 1 ≤ j) (hg : Gl X x) (hd : dvs ≠ []) (hb : MetB "__init__" qual st ps dvs.length 1 ks g)
    (hx : ∀ σ, PassesAt CX X σ (E σ)) (hkw : PK X kws tk)
    (n1 : (backToKw pos (keywordEach kws X.env)).all (·.1.isSome) = true := by rfl) (n2 : (backToKw pos (keywordEach kws X.env)).filterMap (·.1) = ks := by rfl) (n0 : (x == ("__debug__" : Str)) = false := by decide)
    (n3 : ((backTo pos (starEach [] X.env)).any (·.1) || (backToKw pos (keywordEach kws X.env)).any (·.1.isNone)) = false := by rfl) :
    PE X (.Call (.Name x p) [] kws pos) (tMkC (cl mg x) 0 ks.length sp (fun vs zs => g vs dvs zs) E tNil tk) := by
  subst hm
  exact pe_mkK F M hr hk hg hd hb hx hkw n1 n2 n0 n3
theorem pe_met0t {E : XK} {pl : Sem Bool} (hm0 : X.mg = mg) (F : PrM X.prog X.w X.K mg X.base CX k x m qual st ps [] sp) (hm : L2.Meth X.K (cl mg x) m (He.ma X.K (cl mg x) m)) (hr : Room j X.A) (hk : k ≤ j)
    (hb : ∀ (kV doc pm : Value) (an : Option Addr) (cdv ct : Value) (us : List Value), us.length = ps.length → bindArgs (PySem.W.fnOf m qual (defArgs st) (defBody st) (defScope st) .none kV doc pm an cdv ct) ⟨us, []⟩ = pure (ps.zip us))
    (hx : Passes CX X E) (he : PE X o ta)
    (ht : eval (.Call (.Attribute o m apos) [] [] pos) X.env = (do
      let ov ← eval o X.env
      standAt apos.atName
      let (f, first) ← holding [ov] (getMethod ov m pl)
      callWith pos f first (backTo pos (starEach [] X.env)) (backToKw pos (keywordEach [] X.env))) := by rfl) :
    PE X (.Call (.Attribute o m apos) [] [] pos) (tMeth (cl mg x) m sp [] E ta tNil) := by
  subst hm0
  exact pe_met0 F hm hr hk hb hx he ht
theorem pe_prqt (hm : X.mg = mg) (F : PrQ X.prog X.w X.K mg X.base k x f sp) (hr : Room j X.A) (hk : k + 1 ≤ j) (he : PE X e ta) (hab : attributeBase e f X.env (eval e X.env) = eval e X.env := by rfl) : PE X (.Attribute e f pos) (tProp (cl mg x) sp [] E0 ta) := by
  subst hm
  exact pe_prq F hr hk he hab
theorem call_lenMt (hm0 : X.mg = mg) (F : PrM X.prog X.w X.K mg X.base CX0 k x "__len__" qual st ps [] sp) (hm : L2.Meth X.K (cl mg x) "__len__" (He.ma X.K (cl mg x) "__len__"))
    (hb : ∀ (kV doc pm : Value) (an : Option Addr) (cdv ct : Value) (us : List Value), us.length = ps.length → bindArgs (PySem.W.fnOf "__len__" qual (defArgs st) (defBody st) (defScope st) .none kV doc pm an cdv ct) ⟨us, []⟩ = pure (ps.zip us))
    (hr : Room j X.A) (hk : k + 1 ≤ j) : CallR X (.builtin "len") (rLenOwn (cl mg x) sp E0) := by
  subst hm0
  exact call_lenM F hm hb hr hk
theorem call_isPt {K : PySem.W.Frag} {a : Addr} {oe : Obj} {cls : Value} {d : Option Addr} (hK : X.K = K) (hm : X.mg = mg) (hp : (a, oe) ∈ X.pn) (hz : Zc cls d oe) (hf : ∃ vs, oe.data = .fields vs) : CallR X (.builtin "isinstance") (rIsP K mg a cls d) := by
  subst hK hm
  exact call_isP hp hz hf
end
end Gx
namespace Gx
open PySem PySem.Spec PyProof.Rows L2
/-! ### error classes in the head, by looks -/
def clsB (K : PySem.W.Frag) (C : Addr) : Bool := decide (PySem.W.typeIn K (.ref C) = some (.type "type")) && (PySem.W.isClsIn K C && (decide (PySem.W.subIn K (.ref C) (.type "BaseException") = some true) && decide (PySem.W.subIn K (.ref C) (.ref C) = some true)))
def subB (K : PySem.W.Frag) (C D : Addr) (b : Bool) : Bool := decide (PySem.W.subIn K (.ref C) (.ref D) = some b)
section
variable {K : PySem.W.Frag} {h : Heap} {mg : Str → Option Value} {x y qual : Str} {st : Stmt} {b : Bool} {fs : List Str}
theorem clsAt_b (X : K.In h) (G : h.Ns mainGlobals mg) (f : (He.Fa.glo x).ok K = true) (q : clsB K (He.ga K x) = true) : ClsAt K mg x := by
  obtain ⟨h1, q⟩ := He.ba q
  obtain ⟨h2, q⟩ := He.ba q
  obtain ⟨h3, h4⟩ := He.ba q
  exact .of (He.glo_ok X G f) (of_decide_eq_true h1) h2 (of_decide_eq_true h3) (of_decide_eq_true h4)
theorem subAt_b (X : K.In h) (G : h.Ns mainGlobals mg) (f : (He.Fa.glo x).ok K = true) (g : (He.Fa.glo y).ok K = true) (q : subB K (He.ga K x) (He.ga K y) b = true) : SubAt K mg x y b := .of (He.glo_ok X G f) (He.glo_ok X G g) (of_decide_eq_true q)
theorem refs_of {l : List Value} (h : PySem.W.excTail tlV l = true) : PySem.HandSPX.refsVE l = true := by
  induction l with
  | nil => exact absurd h (by decide +kernel)
  | cons a r ih =>
    rcases PySem.W.excTail_cases (a :: r) h with ⟨c, r', q, h'⟩ | q
    · obtain ⟨rfl, rfl⟩ := List.cons.inj q
      exact ih h'
    · rw [q]
      decide +kernel
theorem errAt_q (X : K.In h) (G : h.Ns mainGlobals mg) (f : (He.Fa.glo x).ok K = true) (E : ETail tlV fs) (q : ecQ K fs (He.ga K x) tlV "ValueError.__new__" = true) (i : (He.Fa.meth x "__init__").ok K = true)
    (d : ∃ fd, L2.FunD K "__init__" qual (defArgs st) (defBody st) (defScope st) [] [] (He.ma K (He.ga K x) "__init__") fd) : ErrAt K mg x qual st := by
  obtain ⟨fd, F⟩ := d
  obtain ⟨e, _⟩ := ecQ_of E q
  have hd := e.hd
  have q := e.i
  unfold PySem.W.excInitIn at q
  split at q
  · rename_i dd cd sl ho
    split at q
    · rename_i C' bm k0 k1 k2 k3 n k5 hm hs
      simp only [Bool.and_eq_true, beq_iff_eq, Bool.not_eq_true'] at q
      obtain ⟨⟨⟨ec, en⟩, hdel⟩, ht⟩ := q
      obtain ⟨nm, bs, mro, ns, qn, hdd, sn, sub, ab, col, del⟩ := cd
      dsimp only at hm hdel
      subst hm hdel
      have hsl : sl = #[k0, k1, k2, k3, some (.builtin n), k5] := by
        obtain ⟨l⟩ := sl
        simp only at hs
        rw [hs]
      subst hsl
      have hd' : hdd = true := by
        have hc : PySem.W.clsIn K (He.ga K x) = some { name := nm, bases := bs, mro := Value.ref C' :: bm, ns := ns, qualname := qn, hasDict := hdd, slotNames := sn, subclasses := sub, abstract := ab, collection := col } := by
          unfold PySem.W.clsIn
          rw [show K.lookup (He.ga K x) = _ from ho]
        unfold PySem.W.hasDictIn at hd
        rw [hc] at hd
        exact hd
      subst hd'
      subst en
      rw [ec] at ho
      refine .of (He.glo_ok X G f) ho (refs_of ht) e.sa e.ex e.ty e.kC e.ga e.gg e.gc e.gn e.gt e.mo e.hd (He.eqO_ok (He.ba i).1) (beq_iff_eq.mp (He.ba (He.ba i).2).1) (He5.fun_of F)
    · cases q
  · cases q
end
end Gx
namespace My
open PySem PySem.Spec PyProof.Rows L2
def top (i : Nat) : Stmt := PySem.Challenge.pw_coverstore_k31_queries_judged.main.body.getD i (.Pass ⟨0, 0, 0, 0⟩)
abbrev s__wall : Stmt := top 0
abbrev N__wall : List Str := ["k"]
theorem sc__wall : FnScope N__wall ["k"] (defScope s__wall) := ⟨rfl, rfl, rfl, by decide +kernel, rfl, by decide +kernel, by decide +kernel⟩
theorem b__wall : Gx.PosB "_wall" s__wall ["k"] := fun _ _ _ _ _ _ us hl => match us, hl with | [_], _ => rfl
abbrev s_is_int : Stmt := top 9
abbrev N_is_int : List Str := ["value"]
theorem sc_is_int : FnScope N_is_int ["value"] (defScope s_is_int) := ⟨rfl, rfl, rfl, by decide +kernel, rfl, by decide +kernel, by decide +kernel⟩
theorem b_is_int : Gx.PosB "is_int" s_is_int ["value"] := fun _ _ _ _ _ _ us hl => match us, hl with | [_], _ => rfl
abbrev s_is_place : Stmt := top 10
abbrev N_is_place : List Str := ["value", "length"]
theorem sc_is_place : FnScope N_is_place ["value", "length"] (defScope s_is_place) := ⟨rfl, rfl, rfl, by decide +kernel, rfl, by decide +kernel, by decide +kernel⟩
theorem b_is_place : Gx.PosB "is_place" s_is_place ["value", "length"] := fun _ _ _ _ _ _ us hl => match us, hl with | [_, _], _ => rfl
abbrev s_is_list : Stmt := top 11
abbrev N_is_list : List Str := ["value"]
theorem sc_is_list : FnScope N_is_list ["value"] (defScope s_is_list) := ⟨rfl, rfl, rfl, by decide +kernel, rfl, by decide +kernel, by decide +kernel⟩
theorem b_is_list : Gx.PosB "is_list" s_is_list ["value"] := fun _ _ _ _ _ _ us hl => match us, hl with | [_], _ => rfl
abbrev s_is_name : Stmt := top 12
abbrev N_is_name : List Str := ["value"]
theorem sc_is_name : FnScope N_is_name ["value"] (defScope s_is_name) := ⟨rfl, rfl, rfl, by decide +kernel, rfl, by decide +kernel, by decide +kernel⟩
theorem b_is_name : Gx.PosB "is_name" s_is_name ["value"] := fun _ _ _ _ _ _ us hl => match us, hl with | [_], _ => rfl
abbrev s_is_term : Stmt := top 20
abbrev N_is_term : List Str := ["value"]
theorem sc_is_term : FnScope N_is_term ["value"] (defScope s_is_term) := ⟨rfl, rfl, rfl, by decide +kernel, rfl, by decide +kernel, by decide +kernel⟩
theorem b_is_term : Gx.PosB "is_term" s_is_term ["value"] := fun _ _ _ _ _ _ us hl => match us, hl with | [_], _ => rfl
abbrev s_are_terms : Stmt := top 21
abbrev N_are_terms : List Str := ["value", "element"]
theorem sc_are_terms : FnScope N_are_terms ["value"] (defScope s_are_terms) := ⟨rfl, rfl, rfl, by decide +kernel, rfl, by decide +kernel, by decide +kernel⟩
theorem b_are_terms : Gx.PosB "are_terms" s_are_terms ["value"] := fun _ _ _ _ _ _ us hl => match us, hl with | [_], _ => rfl
abbrev s_is_literal : Stmt := top 22
abbrev N_is_literal : List Str := ["value", "kind", "one", "other"]
theorem sc_is_literal : FnScope N_is_literal ["value"] (defScope s_is_literal) := ⟨rfl, rfl, rfl, by decide +kernel, rfl, by decide +kernel, by decide +kernel⟩
theorem b_is_literal : Gx.PosB "is_literal" s_is_literal ["value"] := fun _ _ _ _ _ _ us hl => match us, hl with | [_], _ => rfl
abbrev s_terms_of : Stmt := top 23
abbrev N_terms_of : List Str := ["literal"]
theorem sc_terms_of : FnScope N_terms_of ["literal"] (defScope s_terms_of) := ⟨rfl, rfl, rfl, by decide +kernel, rfl, by decide +kernel, by decide +kernel⟩
theorem b_terms_of : Gx.PosB "terms_of" s_terms_of ["literal"] := fun _ _ _ _ _ _ us hl => match us, hl with | [_], _ => rfl
abbrev s_variables_of : Stmt := top 24
abbrev N_variables_of : List Str := ["literals", "found", "literal", "term"]
theorem sc_variables_of : FnScope N_variables_of ["literals"] (defScope s_variables_of) := ⟨rfl, rfl, rfl, by decide +kernel, rfl, by decide +kernel, by decide +kernel⟩
theorem b_variables_of : Gx.PosB "variables_of" s_variables_of ["literals"] := fun _ _ _ _ _ _ us hl => match us, hl with | [_], _ => rfl
abbrev s_is_order_of : Stmt := top 25
abbrev N_is_order_of : List Str := ["value", "variables", "element"]
theorem sc_is_order_of : FnScope N_is_order_of ["value", "variables"] (defScope s_is_order_of) := ⟨rfl, rfl, rfl, by decide +kernel, rfl, by decide +kernel, by decide +kernel⟩
theorem b_is_order_of : Gx.PosB "is_order_of" s_is_order_of ["value", "variables"] := fun _ _ _ _ _ _ us hl => match us, hl with | [_, _], _ => rfl
abbrev s_problem_with : Stmt := top 26
abbrev N_problem_with : List Str := ["literals", "order", "position", "literal", "variables"]
theorem sc_problem_with : FnScope N_problem_with ["literals", "order"] (defScope s_problem_with) := ⟨rfl, rfl, rfl, by decide +kernel, rfl, by decide +kernel, by decide +kernel⟩
theorem b_problem_with : Gx.PosB "problem_with" s_problem_with ["literals", "order"] := fun _ _ _ _ _ _ us hl => match us, hl with | [_, _], _ => rfl
abbrev s_text_of : Stmt := top 27
abbrev N_text_of : List Str := ["literal", "kind", "one", "other", "inside", "term", "before"]
theorem sc_text_of : FnScope N_text_of ["literal"] (defScope s_text_of) := ⟨rfl, rfl, rfl, by decide +kernel, rfl, by decide +kernel, by decide +kernel⟩
theorem b_text_of : Gx.PosB "text_of" s_text_of ["literal"] := fun _ _ _ _ _ _ us hl => match us, hl with | [_], _ => rfl
abbrev s_text_of_query : Stmt := top 28
abbrev N_text_of_query : List Str := ["literals", "variables", "text", "literal", "names"]
theorem sc_text_of_query : FnScope N_text_of_query ["literals", "variables"] (defScope s_text_of_query) := ⟨rfl, rfl, rfl, by decide +kernel, rfl, by decide +kernel, by decide +kernel⟩
theorem b_text_of_query : Gx.PosB "text_of_query" s_text_of_query ["literals", "variables"] := fun _ _ _ _ _ _ us hl => match us, hl with | [_, _], _ => rfl
abbrev s_read_literal : Stmt := top 29
abbrev N_read_literal : List Str := ["text", "words"]
theorem sc_read_literal : FnScope N_read_literal ["text"] (defScope s_read_literal) := ⟨rfl, rfl, rfl, by decide +kernel, rfl, by decide +kernel, by decide +kernel⟩
theorem b_read_literal : Gx.PosB "read_literal" s_read_literal ["text"] := fun _ _ _ _ _ _ us hl => match us, hl with | [_], _ => rfl
abbrev s_read_row : Stmt := top 30
abbrev N_read_row : List Str := ["kind", "text", "table", "_", "inside", "word"]
theorem sc_read_row : FnScope N_read_row ["kind", "text"] (defScope s_read_row) := ⟨rfl, rfl, rfl, by decide +kernel, rfl, by decide +kernel, by decide +kernel⟩
theorem b_read_row : Gx.PosB "read_row" s_read_row ["kind", "text"] := fun _ _ _ _ _ _ us hl => match us, hl with | [_, _], _ => rfl
abbrev s_read_term : Stmt := top 31
abbrev N_read_term : List Str := ["word"]
theorem sc_read_term : FnScope N_read_term ["word"] (defScope s_read_term) := ⟨rfl, rfl, rfl, by decide +kernel, rfl, by decide +kernel, by decide +kernel⟩
theorem b_read_term : Gx.PosB "read_term" s_read_term ["word"] := fun _ _ _ _ _ _ us hl => match us, hl with | [_], _ => rfl
abbrev s__law_pot : Stmt := top 34
abbrev N__law_pot : List Str := ["_law_script", "_law_k", "_law_cell", "_law_seed"]
theorem sc__law_pot : FnScope N__law_pot ["_law_script", "_law_k"] (defScope s__law_pot) := ⟨rfl, rfl, rfl, by decide +kernel, rfl, by decide +kernel, by decide +kernel⟩
theorem b__law_pot : Gx.PosB "_law_pot" s__law_pot ["_law_script", "_law_k"] := fun _ _ _ _ _ _ us hl => match us, hl with | [_, _], _ => rfl
abbrev s__law_take : Stmt := top 35
abbrev N__law_take : List Str := ["_law_pot_here", "_law_many", "_law_digit"]
theorem sc__law_take : FnScope N__law_take ["_law_pot_here", "_law_many"] (defScope s__law_take) := ⟨rfl, rfl, rfl, by decide +kernel, rfl, by decide +kernel, by decide +kernel⟩
theorem b__law_take : Gx.PosB "_law_take" s__law_take ["_law_pot_here", "_law_many"] := fun _ _ _ _ _ _ us hl => match us, hl with | [_, _], _ => rfl
abbrev s__law_pick : Stmt := top 36
abbrev N__law_pick : List Str := ["_law_pot_here", "_law_some"]
theorem sc__law_pick : FnScope N__law_pick ["_law_pot_here", "_law_some"] (defScope s__law_pick) := ⟨rfl, rfl, rfl, by decide +kernel, rfl, by decide +kernel, by decide +kernel⟩
theorem b__law_pick : Gx.PosB "_law_pick" s__law_pick ["_law_pot_here", "_law_some"] := fun _ _ _ _ _ _ us hl => match us, hl with | [_, _], _ => rfl
abbrev s__law_word : Stmt := top 37
abbrev N__law_word : List Str := ["_law_pot_here", "_law_first", "_law_more", "_law_at"]
theorem sc__law_word : FnScope N__law_word ["_law_pot_here", "_law_first"] (defScope s__law_word) := ⟨rfl, rfl, rfl, by decide +kernel, rfl, by decide +kernel, by decide +kernel⟩
theorem b__law_word : Gx.PosB "_law_word" s__law_word ["_law_pot_here", "_law_first"] := fun _ _ _ _ _ _ us hl => match us, hl with | [_, _], _ => rfl
abbrev s__law_mixed : Stmt := top 38
abbrev N__law_mixed : List Str := ["_law_pot_here", "_law_some", "_law_rest", "_law_found"]
theorem sc__law_mixed : FnScope N__law_mixed ["_law_pot_here", "_law_some"] (defScope s__law_mixed) := ⟨rfl, rfl, rfl, by decide +kernel, rfl, by decide +kernel, by decide +kernel⟩
theorem b__law_mixed : Gx.PosB "_law_mixed" s__law_mixed ["_law_pot_here", "_law_some"] := fun _ _ _ _ _ _ us hl => match us, hl with | [_, _], _ => rfl
abbrev s__law_term : Stmt := top 39
abbrev N__law_term : List Str := ["_law_pot_here", "_law_names"]
theorem sc__law_term : FnScope N__law_term ["_law_pot_here", "_law_names"] (defScope s__law_term) := ⟨rfl, rfl, rfl, by decide +kernel, rfl, by decide +kernel, by decide +kernel⟩
theorem b__law_term : Gx.PosB "_law_term" s__law_term ["_law_pot_here", "_law_names"] := fun _ _ _ _ _ _ us hl => match us, hl with | [_, _], _ => rfl
abbrev s__law_literal : Stmt := top 40
abbrev N__law_literal : List Str := ["_law_pot_here", "_law_names", "_law_way", "_law_terms", "_law_at"]
theorem sc__law_literal : FnScope N__law_literal ["_law_pot_here", "_law_names"] (defScope s__law_literal) := ⟨rfl, rfl, rfl, by decide +kernel, rfl, by decide +kernel, by decide +kernel⟩
theorem b__law_literal : Gx.PosB "_law_literal" s__law_literal ["_law_pot_here", "_law_names"] := fun _ _ _ _ _ _ us hl => match us, hl with | [_, _], _ => rfl
abbrev s__law_odd_row : Stmt := top 41
abbrev N__law_odd_row : List Str := ["_law_pot_here", "_law_literal_here", "_law_word_here", "_law_table", "_law_terms", "_law_odds", "_law_odd_here", "_law_some", "_law_title"]
theorem sc__law_odd_row : FnScope N__law_odd_row ["_law_pot_here", "_law_literal_here"] (defScope s__law_odd_row) := ⟨rfl, rfl, rfl, by decide +kernel, rfl, by decide +kernel, by decide +kernel⟩
theorem b__law_odd_row : Gx.PosB "_law_odd_row" s__law_odd_row ["_law_pot_here", "_law_literal_here"] := fun _ _ _ _ _ _ us hl => match us, hl with | [_, _], _ => rfl
abbrev s__law_odd_comparison : Stmt := top 42
abbrev N__law_odd_comparison : List Str := ["_law_pot_here", "_law_literal_here", "_law_word_here", "_law_one", "_law_other", "_law_odd_here"]
theorem sc__law_odd_comparison : FnScope N__law_odd_comparison ["_law_pot_here", "_law_literal_here"] (defScope s__law_odd_comparison) := ⟨rfl, rfl, rfl, by decide +kernel, rfl, by decide +kernel, by decide +kernel⟩
theorem b__law_odd_comparison : Gx.PosB "_law_odd_comparison" s__law_odd_comparison ["_law_pot_here", "_law_literal_here"] := fun _ _ _ _ _ _ us hl => match us, hl with | [_, _], _ => rfl
abbrev s__law_odd : Stmt := top 43
abbrev N__law_odd : List Str := ["_law_pot_here", "_law_literal_here", "_law_word_here", "_law_first", "_law_second", "_law_some"]
theorem sc__law_odd : FnScope N__law_odd ["_law_pot_here", "_law_literal_here"] (defScope s__law_odd) := ⟨rfl, rfl, rfl, by decide +kernel, rfl, by decide +kernel, by decide +kernel⟩
theorem b__law_odd : Gx.PosB "_law_odd" s__law_odd ["_law_pot_here", "_law_literal_here"] := fun _ _ _ _ _ _ us hl => match us, hl with | [_, _], _ => rfl
abbrev s__law_is_title : Stmt := top 44
abbrev N__law_is_title : List Str := ["_law_thing", "_law_sign"]
theorem sc__law_is_title : FnScope N__law_is_title ["_law_thing"] (defScope s__law_is_title) := ⟨rfl, rfl, rfl, by decide +kernel, rfl, by decide +kernel, by decide +kernel⟩
theorem b__law_is_title : Gx.PosB "_law_is_title" s__law_is_title ["_law_thing"] := fun _ _ _ _ _ _ us hl => match us, hl with | [_], _ => rfl
abbrev s__law_is_term : Stmt := top 45
abbrev N__law_is_term : List Str := ["_law_thing"]
theorem sc__law_is_term : FnScope N__law_is_term ["_law_thing"] (defScope s__law_is_term) := ⟨rfl, rfl, rfl, by decide +kernel, rfl, by decide +kernel, by decide +kernel⟩
theorem b__law_is_term : Gx.PosB "_law_is_term" s__law_is_term ["_law_thing"] := fun _ _ _ _ _ _ us hl => match us, hl with | [_], _ => rfl
abbrev s__law_is_literal : Stmt := top 46
abbrev N__law_is_literal : List Str := ["_law_thing", "_law_word_here", "_law_first", "_law_second", "_law_term_here"]
theorem sc__law_is_literal : FnScope N__law_is_literal ["_law_thing"] (defScope s__law_is_literal) := ⟨rfl, rfl, rfl, by decide +kernel, rfl, by decide +kernel, by decide +kernel⟩
theorem b__law_is_literal : Gx.PosB "_law_is_literal" s__law_is_literal ["_law_thing"] := fun _ _ _ _ _ _ us hl => match us, hl with | [_], _ => rfl
abbrev s__law_first_order : Stmt := top 47
abbrev N__law_first_order : List Str := ["_law_parts", "_law_found", "_law_word_here", "_law_first", "_law_second", "_law_term_here"]
theorem sc__law_first_order : FnScope N__law_first_order ["_law_parts"] (defScope s__law_first_order) := ⟨rfl, rfl, rfl, by decide +kernel, rfl, by decide +kernel, by decide +kernel⟩
theorem b__law_first_order : Gx.PosB "_law_first_order" s__law_first_order ["_law_parts"] := fun _ _ _ _ _ _ us hl => match us, hl with | [_], _ => rfl
abbrev s__law_problem : Stmt := top 48
abbrev N__law_problem : List Str := ["_law_thing", "_law_lane", "_law_at", "_law_literal_here", "_law_names", "_law_good", "_law_name"]
theorem sc__law_problem : FnScope N__law_problem ["_law_thing", "_law_lane"] (defScope s__law_problem) := ⟨rfl, rfl, rfl, by decide +kernel, rfl, by decide +kernel, by decide +kernel⟩
theorem b__law_problem : Gx.PosB "_law_problem" s__law_problem ["_law_thing", "_law_lane"] := fun _ _ _ _ _ _ us hl => match us, hl with | [_, _], _ => rfl
abbrev s__law_some_order : Stmt := top 49
abbrev N__law_some_order : List Str := ["_law_pot_here", "_law_names", "_law_lane", "_law_way", "_law_some", "_law_name"]
theorem sc__law_some_order : FnScope N__law_some_order ["_law_pot_here", "_law_names"] (defScope s__law_some_order) := ⟨rfl, rfl, rfl, by decide +kernel, rfl, by decide +kernel, by decide +kernel⟩
theorem b__law_some_order : Gx.PosB "_law_some_order" s__law_some_order ["_law_pot_here", "_law_names"] := fun _ _ _ _ _ _ us hl => match us, hl with | [_, _], _ => rfl
abbrev s__law_told : Stmt := top 50
abbrev N__law_told : List Str := ["_law_thing", "_law_lane", "_law_way", "_law_told_here", "_law_made", "e"]
theorem sc__law_told : FnScope N__law_told ["_law_thing", "_law_lane", "_law_way"] (defScope s__law_told) := ⟨rfl, rfl, rfl, by decide +kernel, rfl, by decide +kernel, by decide +kernel⟩
theorem b__law_told : Gx.PosB "_law_told" s__law_told ["_law_thing", "_law_lane", "_law_way"] := fun _ _ _ _ _ _ us hl => match us, hl with | [_, _, _], _ => rfl
abbrev s__law_stays : Stmt := top 51
abbrev N__law_stays : List Str := ["_law_parts", "_law_lane", "_law_thing", "_law_made", "_law_names"]
theorem sc__law_stays : FnScope N__law_stays ["_law_parts", "_law_lane"] (defScope s__law_stays) := ⟨rfl, rfl, rfl, by decide +kernel, rfl, by decide +kernel, by decide +kernel⟩
theorem b__law_stays : Gx.PosB "_law_stays" s__law_stays ["_law_parts", "_law_lane"] := fun _ _ _ _ _ _ us hl => match us, hl with | [_, _], _ => rfl
abbrev s__law_right : Stmt := top 52
abbrev N__law_right : List Str := ["_law_pot_here", "_law_thing", "_law_lane", "_law_shown", "_law_problem_here", "_law_due", "_law_names"]
theorem sc__law_right : FnScope N__law_right ["_law_pot_here", "_law_thing", "_law_lane"] (defScope s__law_right) := ⟨rfl, rfl, rfl, by decide +kernel, rfl, by decide +kernel, by decide +kernel⟩
theorem b__law_right : Gx.PosB "_law_right" s__law_right ["_law_pot_here", "_law_thing", "_law_lane"] := fun _ _ _ _ _ _ us hl => match us, hl with | [_, _, _], _ => rfl
abbrev s__law_cell_right : Stmt := top 53
abbrev N__law_cell_right : List Str := ["_law_pot_here", "_law_names", "_law_at", "_law_parts", "_law_lane", "_law_spoilt", "_law_turn", "_law_some"]
theorem sc__law_cell_right : FnScope N__law_cell_right ["_law_pot_here"] (defScope s__law_cell_right) := ⟨rfl, rfl, rfl, by decide +kernel, rfl, by decide +kernel, by decide +kernel⟩
theorem b__law_cell_right : Gx.PosB "_law_cell_right" s__law_cell_right ["_law_pot_here"] := fun _ _ _ _ _ _ us hl => match us, hl with | [_], _ => rfl
abbrev s_law : Stmt := top 54
abbrev N_law : List Str := ["_law_script", "_law_k"]
theorem sc_law : FnScope N_law ["_law_script"] (defScope s_law) := ⟨rfl, rfl, rfl, by decide +kernel, rfl, by decide +kernel, by decide +kernel⟩
theorem b_law : Gx.PosB "law" s_law ["_law_script"] := fun _ _ _ _ _ _ us hl => match us, hl with | [_], _ => rfl
abbrev s_Query___init__ : Stmt := Gx.meth (top 32) 3
abbrev N_Query___init__ : List Str := ["self", "literals", "order", "found", "problem", "position"]
theorem sc_Query___init__ : FnScope N_Query___init__ ["self", "literals", "order"] (defScope s_Query___init__) := ⟨rfl, rfl, rfl, by decide +kernel, rfl, by decide +kernel, by decide +kernel⟩
abbrev s_Query_variables : Stmt := Gx.meth (top 32) 5
abbrev N_Query_variables : List Str := ["self"]
theorem sc_Query_variables : FnScope N_Query_variables ["self"] (defScope s_Query_variables) := ⟨rfl, rfl, rfl, by decide +kernel, rfl, by decide +kernel, by decide +kernel⟩
theorem bq_Query_variables : Gx.PosQ "variables" "Query.variables" s_Query_variables ["self"] := fun _ _ _ _ _ _ us hl => match us, hl with | [_], _ => rfl
abbrev s_Query_literals : Stmt := Gx.meth (top 32) 6
abbrev N_Query_literals : List Str := ["self"]
theorem sc_Query_literals : FnScope N_Query_literals ["self"] (defScope s_Query_literals) := ⟨rfl, rfl, rfl, by decide +kernel, rfl, by decide +kernel, by decide +kernel⟩
theorem bm_Query_literals : ∀ (kV doc pm : Value) (an : Option Addr) (cdv ct : Value) (us : List Value), us.length = 1 → bindArgs (PySem.W.fnOf "literals" "Query.literals" (defArgs s_Query_literals) (defBody s_Query_literals) (defScope s_Query_literals) .none kV doc pm an cdv ct) ⟨us, []⟩ = pure ((["self"] : List Str).zip us) := fun _ _ _ _ _ _ us hl => match us, hl with | [_], _ => rfl
abbrev s_Query___len__ : Stmt := Gx.meth (top 32) 8
abbrev N_Query___len__ : List Str := ["self"]
theorem sc_Query___len__ : FnScope N_Query___len__ ["self"] (defScope s_Query___len__) := ⟨rfl, rfl, rfl, by decide +kernel, rfl, by decide +kernel, by decide +kernel⟩
theorem bm_Query___len__ : ∀ (kV doc pm : Value) (an : Option Addr) (cdv ct : Value) (us : List Value), us.length = 1 → bindArgs (PySem.W.fnOf "__len__" "Query.__len__" (defArgs s_Query___len__) (defBody s_Query___len__) (defScope s_Query___len__) .none kV doc pm an cdv ct) ⟨us, []⟩ = pure ((["self"] : List Str).zip us) := fun _ _ _ _ _ _ us hl => match us, hl with | [_], _ => rfl
theorem mb_Query_0_order_literals : Gx.MetB "__init__" "Query.__init__" s_Query___init__ ["self", "literals", "order"] 1 1 ["order", "literals"] (fun vs ds zs => vs ++ ((match zs with | [y0, y1] => [y1, y0] | z => z) ++ ds.drop 1)) := ⟨fun _ _ _ _ _ _ _ us its ws hu hi hw => match us, its, ws, hu, hi, hw with | [_], [_], [_, _], _, _, _ => ⟨_, rfl, rfl⟩, fun a d r => a.append (L2.Vals.append (match r with | .nil => .nil | .cons h0 .nil => .cons h0 .nil | .cons h0 (.cons h1 .nil) => .cons h1 (.cons h0 .nil) | .cons h0 (.cons h1 (.cons h2 (z))) => .cons h0 (.cons h1 (.cons h2 (z)))) (d.drop 1))⟩
theorem mb_Query_1 : Gx.MetB "__init__" "Query.__init__" s_Query___init__ ["self", "literals", "order"] 1 2 [] (fun vs ds zs => vs ++ (zs ++ ds.drop 0)) := ⟨fun _ _ _ _ _ _ _ us its ws hu hi hw => match us, its, ws, hu, hi, hw with | [_, _], [_], [], _, _, _ => ⟨_, rfl, rfl⟩, fun a d r => a.append (L2.Vals.append (r) (d.drop 0))⟩
theorem mb_Query_1_order : Gx.MetB "__init__" "Query.__init__" s_Query___init__ ["self", "literals", "order"] 1 2 ["order"] (fun vs ds zs => vs ++ (zs ++ ds.drop 1)) := ⟨fun _ _ _ _ _ _ _ us its ws hu hi hw => match us, its, ws, hu, hi, hw with | [_, _], [_], [_], _, _, _ => ⟨_, rfl, rfl⟩, fun a d r => a.append (L2.Vals.append (r) (d.drop 1))⟩
theorem mb_Query_2 : Gx.MetB "__init__" "Query.__init__" s_Query___init__ ["self", "literals", "order"] 1 3 [] (fun vs ds zs => vs ++ (zs ++ ds.drop 1)) := ⟨fun _ _ _ _ _ _ _ us its ws hu hi hw => match us, its, ws, hu, hi, hw with | [_, _, _], [_], [], _, _, _ => ⟨_, rfl, rfl⟩, fun a d r => a.append (L2.Vals.append (r) (d.drop 1))⟩
abbrev i_InvalidQuery : Stmt := Gx.meth (top 3) 0
theorem sci_InvalidQuery : FnScope ["self", "problem", "position"] ["self", "problem", "position"] (defScope i_InvalidQuery) := ⟨rfl, rfl, rfl, by decide +kernel, rfl, by decide +kernel, by decide +kernel⟩
theorem bi_InvalidQuery : Gx.PosQ "__init__" "InvalidQuery.__init__" i_InvalidQuery ["self", "problem", "position"] := fun _ _ _ _ _ _ us hl => match us, hl with | [_, _, _], _ => rfl
theorem bodyi_InvalidQuery {P : Program} {w : World} {K : PySem.W.Frag} {mg : Str → Option Value} {base : Heap} : ∀ (f : Addr) (cdv : Value) (A : Around) (outer : List Env) (s : Shared) (H : Hp) (E : XK), PSs (cxOf CX0 P w K mg base ["self", "problem", "position"] "InvalidQuery.__init__" (defScope i_InvalidQuery) f cdv A outer s H E).nox (defBody i_InvalidQuery) (fun D σ H => tOst K "problem" (tVar 0) (tVar 1) { D with nx := fun σ1 H1 => tOst K "position" (tVar 0) (tVar 2) D σ1 H1 } σ H) :=
  fun _ _ _ _ _ _ _ => pss_cons (ps_ost (pv 0) (pv 1)) (pss_one (ps_ost (pv 0) (pv 2)))
abbrev i_InvalidText : Stmt := Gx.meth (top 4) 0
theorem sci_InvalidText : FnScope ["self", "value"] ["self", "value"] (defScope i_InvalidText) := ⟨rfl, rfl, rfl, by decide +kernel, rfl, by decide +kernel, by decide +kernel⟩
theorem bi_InvalidText : Gx.PosQ "__init__" "InvalidText.__init__" i_InvalidText ["self", "value"] := fun _ _ _ _ _ _ us hl => match us, hl with | [_, _], _ => rfl
theorem bodyi_InvalidText {P : Program} {w : World} {K : PySem.W.Frag} {mg : Str → Option Value} {base : Heap} : ∀ (f : Addr) (cdv : Value) (A : Around) (outer : List Env) (s : Shared) (H : Hp) (E : XK), PSs (cxOf CX0 P w K mg base ["self", "value"] "InvalidText.__init__" (defScope i_InvalidText) f cdv A outer s H E).nox (defBody i_InvalidText) (fun D σ H => tOst K "value" (tVar 0) (tVar 1) D σ H) :=
  fun _ _ _ _ _ _ _ => pss_one (ps_ost (pv 0) (pv 1))
/-- what the module's names stand for -/
structure Mo (K : PySem.W.Frag) (mg : Str → Option Value) : Prop where
  d_is_int : Gx.DefAt K mg "is_int" s_is_int
  d_is_place : Gx.DefAt K mg "is_place" s_is_place
  d_is_list : Gx.DefAt K mg "is_list" s_is_list
  d_is_name : Gx.DefAt K mg "is_name" s_is_name
  d_is_term : Gx.DefAt K mg "is_term" s_is_term
  d_are_terms : Gx.DefAt K mg "are_terms" s_are_terms
  d_is_literal : Gx.DefAt K mg "is_literal" s_is_literal
  d_terms_of : Gx.DefAt K mg "terms_of" s_terms_of
  d_variables_of : Gx.DefAt K mg "variables_of" s_variables_of
  d_is_order_of : Gx.DefAt K mg "is_order_of" s_is_order_of
  d_problem_with : Gx.DefAt K mg "problem_with" s_problem_with
  d__law_pot : Gx.DefAt K mg "_law_pot" s__law_pot
  d__law_take : Gx.DefAt K mg "_law_take" s__law_take
  d__law_pick : Gx.DefAt K mg "_law_pick" s__law_pick
  d__law_word : Gx.DefAt K mg "_law_word" s__law_word
  d__law_mixed : Gx.DefAt K mg "_law_mixed" s__law_mixed
  d__law_term : Gx.DefAt K mg "_law_term" s__law_term
  d__law_literal : Gx.DefAt K mg "_law_literal" s__law_literal
  d__law_odd_row : Gx.DefAt K mg "_law_odd_row" s__law_odd_row
  d__law_odd_comparison : Gx.DefAt K mg "_law_odd_comparison" s__law_odd_comparison
  d__law_odd : Gx.DefAt K mg "_law_odd" s__law_odd
  d__law_is_title : Gx.DefAt K mg "_law_is_title" s__law_is_title
  d__law_is_term : Gx.DefAt K mg "_law_is_term" s__law_is_term
  d__law_is_literal : Gx.DefAt K mg "_law_is_literal" s__law_is_literal
  d__law_first_order : Gx.DefAt K mg "_law_first_order" s__law_first_order
  d__law_problem : Gx.DefAt K mg "_law_problem" s__law_problem
  d__law_some_order : Gx.DefAt K mg "_law_some_order" s__law_some_order
  d__law_told : Gx.DefAt K mg "_law_told" s__law_told
  d__law_stays : Gx.DefAt K mg "_law_stays" s__law_stays
  d__law_right : Gx.DefAt K mg "_law_right" s__law_right
  d__law_cell_right : Gx.DefAt K mg "_law_cell_right" s__law_cell_right
  d_law : Gx.DefAt K mg "law" s_law
  b_ValueError : mg "ValueError" = none
  b_abs : mg "abs" = none
  b_all : mg "all" = none
  b_bool : mg "bool" = none
  b_enumerate : mg "enumerate" = none
  b_int : mg "int" = none
  b_isinstance : mg "isinstance" = none
  b_len : mg "len" = none
  b_list : mg "list" = none
  b_max : mg "max" = none
  b_min : mg "min" = none
  b_range : mg "range" = none
  b_repr : mg "repr" = none
  b_sorted : mg "sorted" = none
  b_str : mg "str" = none
  b_tuple : mg "tuple" = none
  g_LETTERS : Gx.KnownAt mg "LETTERS" (.str "abcdefghijklmnopqrstuvwxyz")
  g_MAX_NAME : Gx.KnownAt mg "MAX_NAME" (.int 8)
  g_MAX_TERMS : Gx.KnownAt mg "MAX_TERMS" (.int 4)
  g_RESERVED_WORDS : Gx.TupAt K mg "RESERVED_WORDS" [.str "not", .str "by"]
  g_ROW_KINDS : Gx.TupAt K mg "ROW_KINDS" [.str "row", .str "none"]
  g_SIGNS : Gx.TupAt K mg "SIGNS" [.str "<", .str "<=", .str "=", .str "!="]
  d_Query___init__ : Gx.MetAt K mg "Query" "__init__" "Query.__init__" s_Query___init__ [.non]
  mk_Query : L2.Mk K (Gx.cl mg "Query") (He.ma K (Gx.cl mg "Query") "__init__")
  d_Query_variables : Gx.GetAt K mg "Query" "variables" "Query.variables" s_Query_variables
  d_Query_literals : Gx.MetAt K mg "Query" "literals" "Query.literals" s_Query_literals []
  m_Query_literals : L2.Meth K (Gx.cl mg "Query") "literals" (He.ma K (Gx.cl mg "Query") "literals")
  d_Query___len__ : Gx.MetAt K mg "Query" "__len__" "Query.__len__" s_Query___len__ []
  m_Query___len__ : L2.Meth K (Gx.cl mg "Query") "__len__" (He.ma K (Gx.cl mg "Query") "__len__")
  n_Query__literals : L2.NoAttr K (Gx.cl mg "Query") "_literals"
  n_Query__variables : L2.NoAttr K (Gx.cl mg "Query") "_variables"
  k_Query_MAX_INTEGER : Gx.CInt K mg "Query" "MAX_INTEGER" (1023)
  k_Query_MAX_LITERALS : Gx.CInt K mg "Query" "MAX_LITERALS" (8)
  k_Query_MAX_VARIABLES : Gx.CInt K mg "Query" "MAX_VARIABLES" (5)
  c_CoverError : Gx.ClsAt K mg "CoverError"
  c_InvalidQuery : Gx.ClsAt K mg "InvalidQuery"
  c_InvalidText : Gx.ClsAt K mg "InvalidText"
  e_InvalidQuery : Gx.ErrAt K mg "InvalidQuery" "InvalidQuery.__init__" i_InvalidQuery
  f_InvalidQuery_problem : PySem.W.findIn K (.ref (Gx.cl mg "InvalidQuery")) "problem" = some none
  f_InvalidQuery_position : PySem.W.findIn K (.ref (Gx.cl mg "InvalidQuery")) "position" = some none
  u_InvalidQuery_InvalidQuery : Gx.SubAt K mg "InvalidQuery" "InvalidQuery" true
  u_InvalidQuery_CoverError : Gx.SubAt K mg "InvalidQuery" "CoverError" true
  u_InvalidQuery_InvalidText : Gx.SubAt K mg "InvalidQuery" "InvalidText" false
  v_InvalidQuery_ValueError : PySem.W.subIn K (.ref (Gx.cl mg "InvalidQuery")) (.type "ValueError") = some true
end My
namespace My
open PySem PySem.Spec PySem.Builtin PySem.Builtin.Str PyProof.Rows L2
/-! ### texts -/
theorem strip_nil (z y : Str) : (Txt.stripChars z y = Str.empty) ↔ ∀ c ∈ z.cps.toList, y.cps.contains c = true := by
  unfold Txt.stripChars
  rw [PyProof.Rows.stripBy_eq]
  generalize y.cps.contains = g
  obtain ⟨l1, l2, l3⟩ := lo_facts g z
  obtain ⟨h1, h2, h3, h4⟩ := hi_facts g z (stripLo g true z) l1
  have sz : ∀ i : Nat, i < z.length → z.cps.toList[i]? = some (z.cps.getD i 0) := fun i hi => by
    have hi' : i < z.cps.size := hi
    simp [Array.getD, hi']
  constructor
  · intro e c hc
    have e0 : (strSub z (stripLo g true z) (stripHi g true z (stripLo g true z))).length = 0 := by rw [e]; rfl
    rw [size_strSub _ _ _ h2] at e0
    obtain ⟨i, hi, rfl⟩ := List.mem_iff_getElem.mp hc
    have hi' : i < z.length := by simpa [Str.length] using hi
    have q := sz i hi'
    rw [List.getElem?_eq_getElem hi] at q
    rw [Option.some.inj q]
    by_cases c1 : i < stripLo g true z
    · exact l2 i c1
    · exact h3 i (by omega) hi'
  · intro h
    have all : ∀ i, i < z.length → g (z.cps.getD i 0) = true := fun i hi => h _ (List.mem_of_getElem? (sz i hi))
    have e1 : stripLo g true z = z.length := by
      rcases l3 with e | e
      · exact e
      · by_cases c : stripLo g true z < z.length
        · rw [all _ c] at e
          cases e
        · omega
    have e0 : (strSub z (stripLo g true z) (stripHi g true z (stripLo g true z))).length = 0 := by
      rw [size_strSub _ _ _ h2]
      omega
    revert e0
    generalize strSub z (stripLo g true z) (stripHi g true z (stripLo g true z)) = u
    intro e0
    obtain ⟨a⟩ := u
    have : a = #[] := Array.eq_empty_of_size_eq_zero e0
    rw [this]
    rfl
/-! ### what names, terms and literals are -/
def isLw (c : Nat) : Bool := decide (97 ≤ c) && decide (c ≤ 122)
theorem lw_in (c : Nat) : ((("abcdefghijklmnopqrstuvwxyz" : String) : Str)).cps.contains c = isLw c := by
  have e : ((("abcdefghijklmnopqrstuvwxyz" : String) : Str)).cps = #[97, 98, 99, 100, 101, 102, 103, 104, 105, 106, 107, 108, 109, 110, 111, 112, 113, 114, 115, 116, 117, 118, 119, 120, 121, 122] := by decide +kernel
  rw [e, Bool.eq_iff_iff]
  simp only [isLw, Bool.and_eq_true, decide_eq_true_eq, Array.contains_eq_any_beq, Array.any_eq_true', List.mem_toArray, List.mem_cons, List.not_mem_nil, or_false, beq_iff_eq]
  constructor
  · rintro ⟨x, h, rfl⟩
    omega
  · intro h
    exact ⟨c, by omega, rfl⟩
theorem stripLw (z : Str) : decide (V.str (Txt.stripChars z "abcdefghijklmnopqrstuvwxyz") = V.str "") = z.cps.toList.all isLw := by
  have e : (V.str (Txt.stripChars z "abcdefghijklmnopqrstuvwxyz") = V.str "") ↔ z.cps.toList.all isLw = true := by
    rw [V.str.injEq, show (("" : String) : Str) = Str.empty from rfl, strip_nil, List.all_eq_true]
    constructor
    · intro h c hc
      rw [← lw_in]; exact h c hc
    · intro h c hc
      rw [lw_in]; exact h c hc
  by_cases c : z.cps.toList.all isLw = true
  · rw [c, decide_eq_true (e.mpr c)]
  · rw [Bool.not_eq_true] at c
    rw [c, decide_eq_false (fun h => by rw [e.mp h] at c; cases c)]
theorem in_strs (l : List Str) {z : Str} : inV (.str z) (l.map V.str) = l.any fun y => decide (z = y) := by
  induction l with
  | nil => rfl
  | cons a l ih =>
    show ((a == z) || inV (.str z) (l.map V.str)) = _
    rw [ih, List.any_cons]
    congr 1
    rw [Bool.eq_iff_iff, beq_iff_eq, decide_eq_true_eq]
    exact ⟨fun h => h.symm, fun h => h.symm⟩
/-- a name -/
def nameZ (z : Str) : Bool := decide (1 ≤ z.length) && (decide (z.length ≤ 8) && (z.cps.toList.all isLw && !(decide (z = "not") || decide (z = "by"))))
def nameD : PyData → Bool
  | .str z => nameZ z
  | _ => false
def isIntD : PyData → Bool
  | .int _ => true
  | _ => false
def placeD (n : Int) : PyData → Bool
  | .int i => decide (0 ≤ i) && decide (i < n)
  | _ => false
def termD (d : PyData) : Bool := nameD d || placeD 1024 d
def termsD : PyData → Bool
  | .tuple ds => decide (1 ≤ ds.length) && (decide (ds.length ≤ 4) && ds.all termD)
  | _ => false
def strD : PyData → Bool
  | .str _ => true
  | _ => false
def rowW (d : PyData) : Bool := match d with
  | .str z => decide (z = "row") || decide (z = "none")
  | _ => false
def signW (d : PyData) : Bool := match d with
  | .str z => decide (z = "<") || (decide (z = "<=") || (decide (z = "=") || decide (z = "!=")))
  | _ => false
def litD : PyData → Bool
  | .tuple [k, a, b] => if rowW k then nameD a && termsD b else signW k && (termD a && (termD b && (strD a || strD b)))
  | _ => false
section
variable {P : Program} {w : World} {K : PySem.W.Frag} {mg : Str → Option Value} {base : Heap}
/-- a question about one thing -/
def sp1D (f : PyData → Bool) : Sp := fun vs H Q _ => ∃ p x d, vs = [x] ∧ Gx.Dat p H x d ∧ Q (.bl (f d)) H
def spPl : Sp := fun vs H Q _ => ∃ p x d n, vs = [x, .int n] ∧ Gx.Dat p H x d ∧ Q (.bl (placeD n d)) H
theorem p_is_int (T : Mo K mg) : Gx.Pr P w K mg base CX0 1 "is_int" s_is_int ["value"] (sp1D isIntD) := by
  refine T.d_is_int.ok sc_is_int (fun vs H Q E h => ?_) (fun f cdv A outer s H vs Q E hr h => ?_)
  · obtain ⟨p, x, d, rfl, _⟩ := h
    rfl
  · obtain ⟨p, x, d, rfl, t, q⟩ := h
    refine ⟨_, (pss_one (ps_ret (pe_and (pe_callB call_isi (by rfl) T.b_isinstance (by decide +kernel) (pa_cons (pv 0) (pa_cons (pe_bltn (v := .ty "int") rfl T.b_int (by decide +kernel) rfl) pa_nil))) (pe_one (pe_not (pe_callB call_isi (by rfl) T.b_isinstance (by decide +kernel) (pa_cons (pv 0) (pa_cons (pe_bltn (v := .ty "bool") rfl T.b_bool (by decide +kernel) rfl) pa_nil)))))))), ?_⟩
    refine ⟨x, rfl, x, .ty "int", _, _, _, rfl, .ty _, t.ty, Gx.kit_D (by simp), _, rfl, ?_⟩
    have go : ∀ Q' : V → Hp → Prop, Q' (.bl (!Gx.isD "bool" d)) H → Q' (.bl (!Gx.isD "bool" d)) H := fun _ h => h
    cases d with
    | int i => exact ⟨_, rfl, _, .ty "bool", _, _, _, rfl, .ty _, t.ty, Gx.kit_D (by simp), _, rfl, q⟩
    | bool i => exact ⟨_, rfl, _, .ty "bool", _, _, _, rfl, .ty _, t.ty, Gx.kit_D (by simp), _, rfl, q⟩
    | none => exact q
    | str => exact q
    | list => exact q
    | tuple => exact q
    | dict => exact q
theorem p_is_place (T : Mo K mg) : Gx.Pr P w K mg base CX0 2 "is_place" s_is_place ["value", "length"] spPl := by
  refine T.d_is_place.ok sc_is_place (fun vs H Q E h => ?_) (fun f cdv A outer s H vs Q E hr h => ?_)
  · obtain ⟨p, x, d, n, rfl, _⟩ := h
    rfl
  · obtain ⟨p, x, d, n, rfl, t, q⟩ := h
    refine ⟨_, (pss_one (ps_ret (pe_and (Gx.pe_pos (p_is_int T) hr (by decide) (by rfl) b_is_int pass0 (pa_cons (pv 0) pa_nil)) (pe_one (pe_chain op_le op_lt pe_int (pv 0) (pv 1)))))), ?_⟩
    refine ⟨x, rfl, p, x, d, rfl, t, _, rfl, ?_⟩
    cases t with
    | int i =>
      refine ⟨_, rfl, _, _, rfl, rfl, _, rfl, ?_⟩
      show if decide (0 ≤ i) = true then _ else _
      have q : Q (.bl (decide (0 ≤ i) && decide (i < n))) H := q
      by_cases c : 0 ≤ i
      · rw [decide_eq_true c] at q ⊢
        exact ⟨_, rfl, _, _, rfl, rfl, q⟩
      · rw [decide_eq_false c] at q ⊢
        exact q
    | bl i => exact q
    | non => exact q
    | str => exact q
    | lst => exact q
    | tup => exact q
    | nil => exact q
    | one => exact q
def spLT : Sp := fun vs H Q _ => ∃ p x d, vs = [x] ∧ Gx.Dat p H x d ∧ ∀ H', Same H H' → Q (.bl (Gx.isD "list" d || Gx.isD "tuple" d)) H'
theorem p_is_list (T : Mo K mg) : Gx.Pr P w K mg base CX0 1 "is_list" s_is_list ["value"] spLT := by
  refine T.d_is_list.ok sc_is_list (fun vs H Q E h => ?_) (fun f cdv A outer s H vs Q E hr h => ?_)
  · obtain ⟨p, x, d, rfl, _⟩ := h
    rfl
  · obtain ⟨p, x, d, rfl, t, q⟩ := h
    refine ⟨_, (pss_one (ps_ret (pe_callB call_isiT (by rfl) T.b_isinstance (by decide +kernel) (pa_cons (pv 0) (pa_cons (pe_tup (pa_cons (pe_bltn (v := .ty "list") rfl T.b_list (by decide +kernel) rfl) (pa_cons (pe_bltn (v := .ty "tuple") rfl T.b_tuple (by decide +kernel) rfl) pa_nil))) pa_nil))))), ?_⟩
    refine ⟨x, rfl, by show 2 ≤ sizeLine; decide, fun e ne => ?_⟩
    exact ⟨x, e, _, _, _, _, rfl, upd_same, .cons (.ty _) (.cons (.ty _) .nil), (t.kp (Gx.Kp.of (Gx.sameU ne))).ty, Gx.kit_D2 (by simp) (by simp), q _ (Gx.sameU ne)⟩
theorem p_is_name (T : Mo K mg) : Gx.Pr P w K mg base CX0 1 "is_name" s_is_name ["value"] (sp1D nameD) := by
  refine T.d_is_name.ok sc_is_name (fun vs H Q E h => ?_) (fun f cdv A outer s H vs Q E hr h => ?_)
  · obtain ⟨p, x, d, rfl, _⟩ := h
    rfl
  · obtain ⟨p, x, d, rfl, t, q⟩ := h
    refine ⟨_, (pss_cons (ps_if (PW.pt (pw_or (pt_not (pt_val (pe_callB call_isi (by rfl) T.b_isinstance (by decide +kernel) (pa_cons (pv 0) (pa_cons (pe_bltn (v := .ty "str") rfl T.b_str (by decide +kernel) rfl) pa_nil))))) (pw_or1 (pt_not (pt_chain op_le op_le pe_int (pe_callB call_len_str (by rfl) T.b_len (by decide +kernel) (pa_cons (pv 0) pa_nil)) (Gx.pe_k rfl T.g_MAX_NAME)))))) (pss_one (ps_ret pe_bl)) pss_nil)
      (pss_one (ps_ret (pe_and (pe_cmpR op_eq (pe_bm PySem.F.plainAttrs_str PySem.F.slot_str_strip PySem.F.type_str_strip mt_stripChars (pv 0) (pa_cons (Gx.pe_k rfl T.g_LETTERS) pa_nil)) pe_str (nomark _)) (pe_one (pe_cmpR op_notIn_seq (pv 0) (Gx.pe_k rfl T.g_RESERVED_WORDS.known) (by rfl))))))), ?_⟩
    refine ⟨x, rfl, x, .ty "str", _, _, _, rfl, .ty _, t.ty, Gx.kit_D (by simp), _, rfl, ?_⟩
    cases t with
    | str z hz ha =>
      refine iteF ?_
      have hz' : z.length ≤ sizeLine := Nat.le_trans hz (by decide)
      refine ⟨_, rfl, z, rfl, hz', _, _, rfl, rfl, _, rfl, ?_⟩
      show if decide ((1 : Int) ≤ (z.length : Int)) = true then _ else _
      have q : Q (.bl (nameZ z)) H := q
      by_cases c : 1 ≤ z.length
      · rw [decide_eq_true (show (1 : Int) ≤ (z.length : Int) by omega)]
        refine ⟨_, _, rfl, rfl, _, rfl, ?_⟩
        show if (!decide ((z.length : Int) ≤ 8)) = true then _ else _
        by_cases c2 : z.length ≤ 8
        · rw [decide_eq_true (show (z.length : Int) ≤ 8 by omega)]
          refine iteF ?_
          refine ⟨_, rfl, rfl, z, _, rfl, rfl, hz', rfl, ?_⟩
          rw [stripLw]
          have e1 : nameZ z = (z.cps.toList.all isLw && !(decide (z = "not") || decide (z = "by"))) := by simp [nameZ, c, c2]
          rw [e1] at q
          cases hl : z.cps.toList.all isLw with
          | false =>
            rw [hl] at q
            exact ⟨_, rfl, q⟩
          | true =>
            rw [hl, Bool.true_and] at q
            refine ⟨_, rfl, _, rfl, _, _, rfl, .inr (T.g_RESERVED_WORDS.t H), rfl, rfl, ?_⟩
            show Q (.bl (!inV (.str z) ([("not" : Str), "by"].map V.str))) H
            rw [in_strs [("not" : Str), "by"]]
            simpa using q
        · rw [decide_eq_false (show ¬ (z.length : Int) ≤ 8 by omega)]
          have e1 : nameZ z = false := by simp [nameZ, c2]
          rw [e1] at q
          exact iteT q
      · rw [decide_eq_false (show ¬ (1 : Int) ≤ (z.length : Int) by omega)]
        have e1 : nameZ z = false := by simp [nameZ, c]
        rw [e1] at q
        exact ⟨_, rfl, iteT q⟩
    | int i => exact iteT q
    | bl i => exact iteT q
    | non => exact iteT q
    | lst => exact iteT q
    | tup => exact iteT q
    | nil => exact iteT q
    | one => exact iteT q
theorem p_is_term (T : Mo K mg) : Gx.Pr P w K mg base CX0 3 "is_term" s_is_term ["value"] (sp1D termD) := by
  refine T.d_is_term.ok sc_is_term (fun vs H Q E h => ?_) (fun f cdv A outer s H vs Q E hr h => ?_)
  · obtain ⟨p, x, d, rfl, _⟩ := h
    rfl
  · obtain ⟨p, x, d, rfl, t, q⟩ := h
    refine ⟨_, (pss_one (ps_ret (pe_or (Gx.pe_pos (p_is_name T) hr (by decide) (by rfl) b_is_name pass0 (pa_cons (pv 0) pa_nil)) (pe_one (Gx.pe_pos (p_is_place T) hr (by decide) (by rfl) b_is_place pass0 (pa_cons (pv 0) (pa_cons (pe_op op_add (Gx.pe_cint T.k_Query_MAX_INTEGER rfl) pe_int) pa_nil))))))), ?_⟩
    refine ⟨x, rfl, p, x, d, rfl, t, _, rfl, ?_⟩
    have q : Q (.bl (nameD d || placeD 1024 d)) H := q
    cases c : nameD d with
    | true =>
      rw [c] at q
      exact q
    | false =>
      rw [c, Bool.false_or] at q
      exact ⟨x, rfl, _, _, rfl, rfl, p, x, d, _, rfl, t, q⟩
/-- the same, the heap may grow -/
def sp1G (f : PyData → Bool) : Sp := fun vs H Q _ => ∃ p x d, vs = [x] ∧ Gx.Dat p H x d ∧ ∀ H', Same H H' → Q (.bl (f d)) H'
theorem p_are_terms (T : Mo K mg) : Gx.Pr P w K mg base CX0 4 "are_terms" s_are_terms ["value"] (sp1G termsD) := by
  refine T.d_are_terms.ok sc_are_terms (fun vs H Q E h => ?_) (fun f cdv A outer s H vs Q E hr h => ?_)
  · obtain ⟨p, x, d, rfl, _⟩ := h
    rfl
  · obtain ⟨p, x, d, rfl, t, q⟩ := h
    refine ⟨_, (pss_cons (ps_if (PW.pt (pw_or (pt_not (pt_val (pe_callB call_isi (by rfl) T.b_isinstance (by decide +kernel) (pa_cons (pv 0) (pa_cons (pe_bltn (v := .ty "tuple") rfl T.b_tuple (by decide +kernel) rfl) pa_nil))))) (pw_or1 (pt_not (pt_chain op_le op_le pe_int (pe_callB call_len_seq (by rfl) T.b_len (by decide +kernel) (pa_cons (pv 0) pa_nil)) (Gx.pe_k rfl T.g_MAX_TERMS)))))) (pss_one (ps_ret pe_bl)) pss_nil)
      (pss_one (ps_ret (pe_callB (cr_all rfl) (by rfl) T.b_all (by decide +kernel) (pa_cons (pe_lc (own := [("element", 1)]) (g := gName 1) (tt := tYes) rfl sc_are_terms.nd (pi_tup (pv 0)) (blkOk_by (N := N_are_terms) (sc := defScope s_are_terms) (by decide +kernel)) (fun _ _ _ _ _ => (pg_name (i := 1) sc_are_terms.nd rfl (Or.inl rfl))) (fun _ _ _ _ _ => pts_nil) (fun _ _ _ _ _ => (Gx.pe_pos (p_is_term T) hr (by decide) (by rfl) b_is_term pass0 (pa_cons (pv 1) pa_nil)))) pa_nil))))), ?_⟩
    refine ⟨x, rfl, x, .ty "tuple", _, _, _, rfl, .ty _, t.ty, Gx.kit_D (by simp), _, rfl, ?_⟩
    cases t with
    | @tup a xs ds n h r =>
      refine iteF ?_
      have q : ∀ H', Same H H' → Q (.bl (decide (1 ≤ ds.length) && (decide (ds.length ≤ 4) && ds.all termD))) H' := q
      refine ⟨_, rfl, a, xs, rfl, .inr (SqT.of h), _, _, rfl, rfl, _, rfl, ?_⟩
      show if decide ((1 : Int) ≤ (xs.length : Int)) = true then _ else _
      rw [r.len]
      by_cases c : 1 ≤ ds.length
      · rw [decide_eq_true (show (1 : Int) ≤ (ds.length : Int) by omega)]
        refine ⟨_, _, rfl, rfl, _, rfl, ?_⟩
        show if (!decide ((ds.length : Int) ≤ 4)) = true then _ else _
        by_cases c2 : ds.length ≤ 4
        · rw [decide_eq_true (show (ds.length : Int) ≤ 4 by omega)]
          refine iteF ?_
          rw [decide_eq_true c, decide_eq_true c2] at q
          refine ⟨_, rfl, a, rfl, ⟨xs, SqT.of h⟩, fun D hD => ?_⟩
          refine lc_it (walk_tup (K := K) (a := a) (xs := xs)) (fun i H' => Same H H' ∧ H' D = some (.lst (((ds.take i).map termD).map V.bl))) ⟨Gx.sameU hD, upd_same⟩ (fun i H' _ h' => .inl (.inl (h'.1 _ _ h))) (fun i v H1 H2 hi h' Y => ?_) fun H1 h' => ?_
          · obtain ⟨s3, hl3⟩ := h'
            obtain ⟨rfl, he⟩ := Y
            obtain ⟨d, hd, t⟩ := r.get he
            refine ⟨rfl, _, rfl, p, v, d, rfl, t.kp (Gx.Kp.of s3), _, hl3, ?_, ?_, ?_⟩
            · rw [List.length_map, List.length_map, List.length_take]
              exact Nat.lt_of_le_of_lt (show _ ≤ 100 by omega) (by decide)
            · intro b o e
              by_cases cb : b = D
              · subst cb
                rw [hD] at e
                cases e
              · rw [upd_ne cb]
                exact s3 b o e
            · rw [upd_same, List.take_add_one, hd]
              simp
          · obtain ⟨s3, hl3⟩ := h'
            refine ⟨D, ds.map termD, rfl, SqL.of ?_, ?_⟩
            · rw [hl3, r.len, List.take_length]
            · rw [List.all_map]
              exact q _ s3
        · rw [decide_eq_false (show ¬ (ds.length : Int) ≤ 4 by omega)]
          rw [decide_eq_false c2, Bool.false_and, Bool.and_false] at q
          exact iteT (q H (Same.refl H))
      · rw [decide_eq_false (show ¬ (1 : Int) ≤ (ds.length : Int) by omega)]
        rw [decide_eq_false c, Bool.false_and] at q
        exact ⟨_, rfl, iteT (q H (Same.refl H))⟩
    | int i => exact iteT (q H (Same.refl H))
    | bl i => exact iteT (q H (Same.refl H))
    | non => exact iteT (q H (Same.refl H))
    | lst => exact iteT (q H (Same.refl H))
    | str => exact iteT (q H (Same.refl H))
    | nil => exact iteT (q H (Same.refl H))
    | one => exact iteT (q H (Same.refl H))
end
end My
namespace My
open PySem PySem.Spec PyProof.Rows L2
section
variable {P : Program} {w : World} {K : PySem.W.Frag} {mg : Str → Option Value} {base : Heap}
theorem strD_isD (d : PyData) : Gx.isD "str" d = strD d := by cases d <;> rfl
theorem litD_len {ds : List PyData} (h : ds.length ≠ 3) : litD (.tuple ds) = false := by
  match ds, h with
  | [], _ => rfl
  | [_], _ => rfl
  | [_, _], _ => rfl
  | [_, _, _], h => exact absurd rfl h
  | _ :: _ :: _ :: _ :: _, _ => rfl
theorem p_is_literal (T : Mo K mg) : Gx.Pr P w K mg base CX0 5 "is_literal" s_is_literal ["value"] (sp1G litD) := by
  refine T.d_is_literal.ok sc_is_literal (fun vs H Q E h => ?_) (fun f cdv A outer s H vs Q E hr h => ?_)
  · obtain ⟨p, x, d, rfl, _⟩ := h
    rfl
  · obtain ⟨p, x, d, rfl, t, q⟩ := h
    refine ⟨_, (pss_cons (ps_if (PW.pt (pw_or (pt_not (pt_val (pe_callB call_isi (by rfl) T.b_isinstance (by decide +kernel) (pa_cons (pv 0) (pa_cons (pe_bltn (v := .ty "tuple") rfl T.b_tuple (by decide +kernel) rfl) pa_nil))))) (pw_or1 (pt_cmpR op_ne (pe_callB call_len_seq (by rfl) T.b_len (by decide +kernel) (pa_cons (pv 0) pa_nil)) pe_int (nomark _))))) (pss_one (ps_ret pe_bl)) pss_nil)
      (pss_cons (ps_asg (pv 0) (pg_tup rfl (pgs_cons (pg_name (i := 1) sc_is_literal.nd rfl (Or.inl rfl)) (pgs_cons (pg_name (i := 2) sc_is_literal.nd rfl (Or.inl rfl)) (pgs_cons (pg_name (i := 3) sc_is_literal.nd rfl (Or.inl rfl)) pgs_nil)))))
      (pss_cons (ps_if (pt_not (pt_val (pe_callB call_isi (by rfl) T.b_isinstance (by decide +kernel) (pa_cons (pv 1) (pa_cons (pe_bltn (v := .ty "str") rfl T.b_str (by decide +kernel) rfl) pa_nil))))) (pss_one (ps_ret pe_bl)) pss_nil)
      (pss_cons (ps_if (pt_cmpR op_in_seq (pv 1) (Gx.pe_k rfl T.g_ROW_KINDS.known) (by rfl)) (pss_one (ps_ret (pe_and (Gx.pe_pos (p_is_name T) hr (by decide) (by rfl) b_is_name pass0 (pa_cons (pv 2) pa_nil)) (pe_one (Gx.pe_pos (p_are_terms T) hr (by decide) (by rfl) b_are_terms pass0 (pa_cons (pv 3) pa_nil)))))) pss_nil)
      (pss_cons (ps_if (PW.pt (pw_or (pt_cmpR op_notIn_seq (pv 1) (Gx.pe_k rfl T.g_SIGNS.known) (by rfl)) (pw_or (pt_not (pt_val (Gx.pe_pos (p_is_term T) hr (by decide) (by rfl) b_is_term pass0 (pa_cons (pv 2) pa_nil)))) (pw_or1 (pt_not (pt_val (Gx.pe_pos (p_is_term T) hr (by decide) (by rfl) b_is_term pass0 (pa_cons (pv 3) pa_nil)))))))) (pss_one (ps_ret pe_bl)) pss_nil)
      (pss_one (ps_ret (pe_or (pe_callB call_isi (by rfl) T.b_isinstance (by decide +kernel) (pa_cons (pv 2) (pa_cons (pe_bltn (v := .ty "str") rfl T.b_str (by decide +kernel) rfl) pa_nil))) (pe_one (pe_callB call_isi (by rfl) T.b_isinstance (by decide +kernel) (pa_cons (pv 3) (pa_cons (pe_bltn (v := .ty "str") rfl T.b_str (by decide +kernel) rfl) pa_nil)))))))))))), ?_⟩
    refine ⟨x, rfl, x, .ty "tuple", _, _, _, rfl, .ty _, t.ty, Gx.kit_D (by simp), _, rfl, ?_⟩
    cases t with
    | @tup a xs ds n h r =>
      refine iteF ?_
      refine ⟨_, rfl, a, xs, rfl, .inr (SqT.of h), rfl, _, rfl, ?_⟩
      by_cases c : ds.length = 3
      · have cx : xs.length = 3 := by rw [r.len, c]
        match ds, xs, r with
        | [k, b, o], [vk, vb, vo], .cons tk (.cons tb (.cons to_ .nil)) =>
        refine iteF ?_
        have q : ∀ H', Same H H' → Q (.bl (if rowW k then nameD b && termsD o else signW k && (termD b && (termD o && (strD b || strD o))))) H' := q
        refine ⟨_, rfl, a, [vk, vb, vo], rfl, SqT.of h, rfl, vk, _, rfl, vb, _, rfl, vo, _, rfl, rfl, ?_⟩
        refine ⟨vk, rfl, vk, .ty "str", _, _, _, rfl, .ty _, tk.ty, Gx.kit_D (by simp), _, rfl, ?_⟩
        cases tk with
        | str z hz ha =>
          refine iteF ?_
          refine ⟨_, rfl, _, _, rfl, .inr (T.g_ROW_KINDS.t H), rfl, rfl, _, rfl, ?_⟩
          have e1 : rowW (.str z) = inV (.str z) ([("row" : Str), "none"].map V.str) := by
            rw [in_strs]
            simp [rowW]
          show if inV (.str z) ([("row" : Str), "none"].map V.str) = true then _ else _
          rw [← e1]
          cases c1 : rowW (.str z) with
          | true =>
            rw [c1] at q
            have q : ∀ H', Same H H' → Q (.bl (nameD b && termsD o)) H' := q
            refine ⟨vb, rfl, p, vb, b, rfl, tb, _, rfl, ?_⟩
            cases c2 : nameD b with
            | false =>
              rw [c2] at q
              exact q H (Same.refl H)
            | true =>
              rw [c2] at q
              exact ⟨vo, rfl, p, vo, o, rfl, to_, q⟩
          | false =>
            rw [c1] at q
            have q : ∀ H', Same H H' → Q (.bl (signW (.str z) && (termD b && (termD o && (strD b || strD o))))) H' := q
            refine ⟨_, rfl, _, _, rfl, .inr (T.g_SIGNS.t H), rfl, rfl, _, rfl, ?_⟩
            have e2 : signW (.str z) = inV (.str z) ([("<" : Str), "<=", "=", "!="].map V.str) := by
              rw [in_strs]
              simp [signW]
            show if (!inV (.str z) ([("<" : Str), "<=", "=", "!="].map V.str)) = true then _ else _
            rw [← e2]
            cases c2 : signW (.str z) with
            | false =>
              rw [c2] at q
              exact iteT (iteT (q H (Same.refl H)))
            | true =>
              rw [c2] at q
              refine iteF ⟨vb, rfl, p, vb, b, rfl, tb, _, rfl, ?_⟩
              show if (!termD b) = true then _ else _
              cases c3 : termD b with
              | false =>
                rw [c3] at q
                exact iteT (iteT (q H (Same.refl H)))
              | true =>
                rw [c3] at q
                refine iteF ⟨vo, rfl, p, vo, o, rfl, to_, _, rfl, ?_⟩
                show if (!termD o) = true then _ else _
                cases c4 : termD o with
                | false =>
                  rw [c4] at q
                  exact iteT (q H (Same.refl H))
                | true =>
                  rw [c4] at q
                  have q : ∀ H', Same H H' → Q (.bl (strD b || strD o)) H' := q
                  refine iteF ?_
                  refine ⟨vb, rfl, vb, .ty "str", _, _, _, rfl, .ty _, tb.ty, Gx.kit_D (by simp), _, rfl, ?_⟩
                  rw [strD_isD]
                  cases c5 : strD b with
                  | true =>
                    rw [c5] at q
                    exact q H (Same.refl H)
                  | false =>
                    rw [c5] at q
                    refine ⟨vo, rfl, vo, .ty "str", _, _, _, rfl, .ty _, to_.ty, Gx.kit_D (by simp), ?_⟩
                    rw [strD_isD]
                    exact q H (Same.refl H)
        | int i => exact iteT (q H (Same.refl H))
        | bl i => exact iteT (q H (Same.refl H))
        | non => exact iteT (q H (Same.refl H))
        | lst => exact iteT (q H (Same.refl H))
        | tup => exact iteT (q H (Same.refl H))
        | nil => exact iteT (q H (Same.refl H))
        | one => exact iteT (q H (Same.refl H))
      · rw [r.len, decide_eq_false (show ¬ V.int (ds.length : Int) = V.int 3 from fun e => c (by injection e; omega))]
        rw [litD_len c] at q
        exact iteT (q H (Same.refl H))
    | int i => exact iteT (q H (Same.refl H))
    | bl i => exact iteT (q H (Same.refl H))
    | non => exact iteT (q H (Same.refl H))
    | lst => exact iteT (q H (Same.refl H))
    | str => exact iteT (q H (Same.refl H))
    | nil => exact iteT (q H (Same.refl H))
    | one => exact iteT (q H (Same.refl H))
end
end My
namespace My
open PySem PySem.Spec PyProof.Rows L2
/-! ### the variables of literals -/
def termsOf : PyData → List PyData
  | .tuple [k, b, o] => if rowW k then (match o with
    | .tuple es => es
    | _ => []) else [b, o]
  | _ => []
def addS (acc : List Str) : PyData → List Str
  | .str z => if z ∈ acc then acc else acc ++ [z]
  | _ => acc
def foS (acc : List Str) (ts : List PyData) : List Str := ts.foldl addS acc
def varsD (ds : List PyData) : List Str := ds.foldl (fun acc d => foS acc (termsOf d)) []
theorem addS_len (acc : List Str) (t : PyData) : (addS acc t).length ≤ acc.length + 1 := by
  cases t with
  | str z =>
    simp only [addS]
    split
    · omega
    · simp
  | _ => simp [addS]
theorem foS_len : ∀ (ts : List PyData) (acc : List Str), (foS acc ts).length ≤ acc.length + ts.length
  | [], acc => by simp [foS]
  | t :: r, acc => by
    have h := foS_len r (addS acc t)
    have h2 := addS_len acc t
    show (foS (addS acc t) r).length ≤ _
    simp only [List.length_cons]
    omega
theorem foS_take {ts : List PyData} {i : Nat} {t : PyData} (acc : List Str) (h : ts[i]? = some t) : foS acc (ts.take (i + 1)) = addS (foS acc (ts.take i)) t := by
  rw [List.take_add_one, h]
  simp [foS]
theorem lit_inv {d : PyData} (h : litD d = true) : ∃ k b o, d = .tuple [k, b, o] ∧ strD k = true ∧ (termsOf d).length ≤ 4 ∧ (∀ t ∈ termsOf d, termD t = true) ∧ (rowW k = true → ∃ es, o = .tuple es ∧ termsOf d = es) ∧ (rowW k = false → termsOf d = [b, o]) := by
  match d, h with
  | .tuple [k, b, o], h =>
    refine ⟨k, b, o, rfl, ?_⟩
    simp only [litD] at h
    cases c : rowW k with
    | true =>
      rw [c, if_pos rfl, Bool.and_eq_true] at h
      have hk : strD k = true := by
        cases k <;> first | rfl | cases c
      obtain ⟨_, h2⟩ := h
      cases o with
      | tuple es =>
        simp only [termsD, Bool.and_eq_true, decide_eq_true_eq, List.all_eq_true] at h2
        refine ⟨hk, ?_, ?_, fun _ => ⟨es, rfl, ?_⟩, (fun e => by cases e)⟩
        · simp only [termsOf, c, if_true]
          exact h2.2.1
        · simp only [termsOf, c, if_true]
          exact h2.2.2
        · simp only [termsOf, c, if_true]
      | _ => cases h2
    | false =>
      rw [c, if_neg (by simp)] at h
      simp only [Bool.and_eq_true] at h
      obtain ⟨h1, h2, h3, _⟩ := h
      have hk : strD k = true := by
        cases k <;> first | rfl | cases h1
      refine ⟨hk, ?_, ?_, (fun e => by cases e), fun _ => ?_⟩
      · simp [termsOf, c]
      · simp only [termsOf, c]
        intro t ht
        have : t = b ∨ t = o := by simpa using ht
        rcases this with e | e
        · rw [e]; exact h2
        · rw [e]; exact h3
      · simp [termsOf, c]
section
variable {P : Program} {w : World} {K : PySem.W.Frag} {mg : Str → Option Value} {base : Heap}
def spTO : Sp := fun vs H Q _ => ∃ p x d, vs = [x] ∧ Gx.Dat p H x d ∧ litD d = true ∧ ∀ t us H', Same H H' → H' t = some (.tup us) → Gx.DatL p H' us (termsOf d) → Q (.ref t) H'
theorem p_terms_of (T : Mo K mg) : Gx.Pr P w K mg base CX0 1 "terms_of" s_terms_of ["literal"] spTO := by
  refine T.d_terms_of.ok sc_terms_of (fun vs H Q E h => ?_) (fun f cdv A outer s H vs Q E hr h => ?_)
  · obtain ⟨p, x, d, rfl, _⟩ := h
    rfl
  · obtain ⟨p, x, d, rfl, t, hl, q⟩ := h
    obtain ⟨k, b, o, rfl, hk, _, _, h1, h2⟩ := lit_inv hl
    refine ⟨_, (pss_one (ps_ret (pe_ifExp (pt_cmpR op_in_seq (pe_ix ix_tup (pv 0) pe_int (fun _ _ => rfl)) (Gx.pe_k rfl T.g_ROW_KINDS.known) (by rfl)) (pe_ix ix_tup (pv 0) pe_int (fun _ _ => rfl)) (pe_slice sl_tup (pv 0) (po_some pe_int) po_none)))), ?_⟩
    cases t with
    | @tup a xs _ n h r =>
      match xs, r with
      | [vk, vb, vo], .cons tk (.cons tb (.cons to_ .nil)) =>
      cases tk with
      | str z hz ha =>
        refine ⟨_, rfl, a, _, 0, _, rfl, rfl, SqT.of h, rfl, _, _, rfl, .inr (T.g_ROW_KINDS.t H), rfl, rfl, _, rfl, ?_⟩
        have e1 : rowW (.str z) = inV (.str z) ([("row" : Str), "none"].map V.str) := by
          rw [in_strs]
          simp [rowW]
        show if inV (.str z) ([("row" : Str), "none"].map V.str) = true then _ else _
        rw [← e1]
        cases c1 : rowW (.str z) with
        | true =>
          obtain ⟨es, rfl, e2⟩ := h1 c1
          rw [e2] at q
          cases to_ with
          | @tup t us _ n2 h2' r2 => exact ⟨_, rfl, a, _, 2, _, rfl, rfl, SqT.of h, rfl, q t us H (Same.refl H) h2' r2⟩
        | false =>
          rw [h2 c1] at q
          refine ⟨_, rfl, _, rfl, a, _, rfl, SqT.of h, (fun e => absurd (show HT.sIx 3 0 (some 1) = 0 from e.1) (by decide)), fun t ht => ?_⟩
          have s1 : Same H (L2.upd H t (.tup [vb, vo])) := Gx.sameU ht
          exact q t [vb, vo] _ s1 upd_same (.cons (tb.kp (Gx.Kp.of s1)) (.cons (to_.kp (Gx.Kp.of s1)) .nil))
      | _ => cases hk
/-- the variables of right literals: a new tuple -/
def spVO : Sp := fun vs H Q _ => ∃ p a xs ds, vs = [.ref a] ∧ (H a = some (.lst xs) ∨ H a = some (.tup xs)) ∧ Gx.DatL p H xs ds ∧ ds.length ≤ 8 ∧ (∀ d ∈ ds, litD d = true) ∧ ∀ t H', Same H H' → H t = none → H' t = some (.tup ((varsD ds).map V.str)) → Q (.ref t) H'
theorem vars_take {ds : List PyData} {i : Nat} {d : PyData} (h : ds[i]? = some d) : varsD (ds.take (i + 1)) = foS (varsD (ds.take i)) (termsOf d) := by
  rw [List.take_add_one, h]
  simp [varsD]
theorem vars_len0 : ∀ (ds : List PyData) (acc : List Str), (∀ d ∈ ds, litD d = true) → (ds.foldl (fun acc d => foS acc (termsOf d)) acc).length ≤ acc.length + 4 * ds.length
  | [], acc, _ => by simp
  | d :: r, acc, h => by
    obtain ⟨_, _, _, _, _, h2, _⟩ := lit_inv (h d (by simp))
    have h3 := foS_len (termsOf d) acc
    have h4 := vars_len0 r (foS acc (termsOf d)) fun e he => h e (List.mem_cons_of_mem _ he)
    simp only [List.foldl_cons, List.length_cons]
    omega
theorem vars_len {ds : List PyData} (h : ∀ d ∈ ds, litD d = true) : (varsD ds).length ≤ 4 * ds.length := by
  have := vars_len0 ds [] h
  simpa [varsD] using this
/-- a list or tuple that is walked, with a new object beside it -/
theorem wk_upd {K : PySem.W.Frag} {a D : Addr} {xs : List V} {H : Hp} {o : HO} {J : It} (h : Gx.Wk K a xs (L2.upd H D o) J) (ne : a ≠ D) : ∃ G, Walk J xs.length G (YAt xs) ∧ ∀ H', Same H H' → G H' := by
  rcases h with ⟨rfl, hs⟩ | ⟨rfl, hs⟩
  · refine ⟨_, walk_list (K := K) (a := a) (xs := xs), fun H' s => ?_⟩
    rcases hs with (hs | ⟨o, hs⟩) | hs
    · rw [upd_ne ne] at hs
      exact .inl (.inl (s _ _ hs))
    · rw [upd_ne ne] at hs
      exact .inl (.inr ⟨o, s _ _ hs⟩)
    · exact .inr hs
  · refine ⟨_, walk_tup (K := K) (a := a) (xs := xs), fun H' s => ?_⟩
    rcases hs with (hs | ⟨o, hs⟩) | hs
    · rw [upd_ne ne] at hs
      exact .inl (.inl (s _ _ hs))
    · rw [upd_ne ne] at hs
      exact .inl (.inr ⟨o, s _ _ hs⟩)
    · exact .inr hs
theorem flat_strs (l : List Str) : (l.map V.str).all flatV = true := by
  rw [List.all_map, List.all_eq_true]
  intro x _
  rfl
theorem p_variables_of (T : Mo K mg) : Gx.Pr P w K mg base CX0 2 "variables_of" s_variables_of ["literals"] spVO := by
  refine T.d_variables_of.ok sc_variables_of (fun vs H Q E h => ?_) (fun f cdv A outer s H vs Q E hr h => ?_)
  · obtain ⟨p, a, xs, ds, rfl, _⟩ := h
    rfl
  · obtain ⟨p, a, xs, ds, rfl, hs, r, hn, good, q⟩ := h
    refine ⟨_, (pss_cons (ps_set (i := 1) sc_variables_of.nd rfl (Or.inl rfl) (pe_lst pa_nil))
      (pss_cons (ps_for PassesOwn.never rfl (Gx.pi_seq (pv 0)) (pg_name (i := 2) sc_variables_of.nd rfl (Or.inl rfl)) (pss_one (ps_for PassesOwn.never rfl (pi_tup (Gx.pe_pos (p_terms_of T) hr (by decide) (by rfl) b_terms_of pass0 (pa_cons (pv 2) pa_nil))) (pg_name (i := 3) sc_variables_of.nd rfl (Or.inl rfl)) (pss_one (ps_if (PW.pt (pw_and (pt_val (pe_callB call_isi (by rfl) T.b_isinstance (by decide +kernel) (pa_cons (pv 3) (pa_cons (pe_bltn (v := .ty "str") rfl T.b_str (by decide +kernel) rfl) pa_nil)))) (pw_and1 (pt_cmpR op_notIn_seq (pv 3) (pv 1) (by rfl))))) (pss_one (ps_expr (pe_bm PySem.F.plainAttrs_list PySem.F.slot_list_append PySem.F.type_list_append mt_append (pv 1) (pa_cons (pv 3) pa_nil)))) pss_nil)))))
      (pss_one (ps_ret (pe_callTy call_tuple_of (by rfl) T.b_tuple (by decide +kernel) (pa_cons (pv 1) pa_nil)))))), ?_⟩
    refine ⟨by show 0 ≤ sizeLine; decide, fun D hD => ?_⟩
    have s0 : Same H (L2.upd H D (.lst [])) := Gx.sameU hD
    have ne : a ≠ D := fun e => by
      rw [e, hD] at hs
      rcases hs with e | e <;> cases e
    have hs1 : SqL K (L2.upd H D (.lst [])) a xs ∨ SqT K (L2.upd H D (.lst [])) a xs := by
      rcases hs with e | e
      · exact .inl (SqL.of (s0 _ _ e))
      · exact .inr (SqT.of (s0 _ _ e))
    refine ⟨_, rfl, a, xs, rfl, hs1, fun J hJ => ?_⟩
    obtain ⟨G, wk, mono⟩ := wk_upd hJ ne
    refine for_it wk (fun i σ H' => Same H H' ∧ H' D = some (.lst ((varsD (ds.take i)).map V.str)) ∧ ∃ l t, σ = [some (.ref a), some (.ref D), l, t]) ⟨s0, upd_same, _, _, rfl⟩ (fun i σ H' _ h => mono H' h.1) (fun i v σ H1 H2 hi h Y => ?_) fun σ H1 h => ?_
    · obtain ⟨s1, hD1, l, t, rfl⟩ := h
      obtain ⟨rfl, hv⟩ := Y
      obtain ⟨d, hd, tv⟩ := r.get hv
      have gd := good d (List.mem_of_getElem? hd)
      obtain ⟨_, _, _, _, _, l4, tms, _⟩ := lit_inv gd
      have vl := vars_len (ds := ds.take i) fun e he => good e (List.mem_of_mem_take he)
      refine ⟨_, rfl, p, v, d, rfl, tv.kp (Gx.Kp.of s1), gd, fun q1 us H3 s3 h3 r3 => ?_⟩
      have hD3 := s3 _ _ hD1
      have neD : q1 ≠ D := fun e => by
        rw [e, hD3] at h3
        cases h3
      refine ⟨q1, rfl, ⟨us, SqT.of h3⟩, ?_⟩
      refine for_it (walk_tup (K := K) (a := q1) (xs := us)) (fun j σ H' => Same H H' ∧ H' q1 = some (.tup us) ∧ H' D = some (.lst ((foS (varsD (ds.take i)) ((termsOf d).take j)).map V.str)) ∧ ∃ u, σ = [some (.ref a), some (.ref D), some v, u]) ⟨s1.trans s3, h3, hD3, _, rfl⟩ (fun j σ H' _ h => SqT.of h.2.1) (fun j y σ H4 H5 hj h Y => ?_) fun σ H4 h => ?_
      · obtain ⟨s4, h4, hD4, u, rfl⟩ := h
        obtain ⟨rfl, hy⟩ := Y
        obtain ⟨e, he, te⟩ := r3.get hy
        have ge := tms e (List.mem_of_getElem? he)
        have ft := foS_take (varsD (ds.take i)) he
        have bl : (foS (varsD (ds.take i)) ((termsOf d).take j)).length < sizeLine := by
          have := foS_len ((termsOf d).take j) (varsD (ds.take i))
          rw [List.length_take] at *
          exact Nat.lt_of_le_of_lt (show _ ≤ 100 by omega) (by decide)
        cases te with
        | str z hz ha =>
          refine ⟨_, rfl, .str z, .ty "str", _, _, _, rfl, .ty _, (Gx.DatN.str (N := fun a => a ≠ p) z hz ha).ty, Gx.kit_D (by simp), _, rfl, ?_⟩
          refine ⟨_, rfl, _, rfl, D, _, rfl, .inl (SqL.of hD4), rfl, flat_strs _, _, rfl, ?_⟩
          show if (!inV (.str z) ((foS (varsD (ds.take i)) ((termsOf d).take j)).map V.str)) = true then _ else _
          rw [in_strs]
          by_cases c : z ∈ foS (varsD (ds.take i)) ((termsOf d).take j)
          · rw [show ((foS (varsD (ds.take i)) ((termsOf d).take j)).any fun y => decide (z = y)) = true from List.any_eq_true.mpr ⟨z, c, by simp⟩]
            refine iteF ⟨s4, h4, ?_, _, rfl⟩
            rw [hD4, ft]
            simp [addS, c]
          · rw [show ((foS (varsD (ds.take i)) ((termsOf d).take j)).any fun y => decide (z = y)) = false from List.any_eq_false.mpr fun y hy => by
              simp only [decide_eq_true_eq]
              exact fun e => c (e ▸ hy)]
            refine iteT ⟨_, rfl, .inl ⟨rfl, _, SqL.of hD4⟩, _, rfl, D, _, _, rfl, rfl, hD4, by rw [List.length_map]; exact bl, ?_⟩
            refine ⟨fun b o e => ?_, ?_, ?_, _, rfl⟩
            · rw [upd_ne (ne_of_none e hD)]
              exact s4 b o e
            · rw [upd_ne neD]
              exact h4
            · rw [upd_same, ft]
              simp [addS, c]
        | int n hn =>
          refine ⟨_, rfl, .int n, .ty "str", _, _, _, rfl, .ty _, (Gx.DatN.int (N := fun a => a ≠ p) n hn).ty, Gx.kit_D (by simp), _, rfl, ?_⟩
          refine iteF (iteF ⟨s4, h4, ?_, _, rfl⟩)
          rw [hD4, ft]
          rfl
        | _ => cases ge
      · obtain ⟨s4, h4, hD4, u, rfl⟩ := h
        refine ⟨s4, ?_, _, _, rfl⟩
        rw [hD4, vars_take hd, r3.len, List.take_length]
    · obtain ⟨s1, hD1, l, t, rfl⟩ := h
      rw [r.len, List.take_length] at hD1
      refine ⟨_, rfl, D, _, rfl, .inl ⟨SqL.of hD1, fun t ht => ?_⟩⟩
      have s2 : Same H1 (L2.upd H1 t (.tup ((varsD ds).map V.str))) := Gx.sameU ht
      exact q t _ (s1.trans s2) (by
        cases e : H t with
        | none => rfl
        | some o => rw [s1 _ _ e] at ht; cases ht) upd_same
end
end My
namespace My
open PySem PySem.Spec PyProof.Rows L2
/-! ### sorted texts -/
theorem rising_all : ∀ (l : List Str) (p : Str), PyProof.Rows.risingS p l = true → (∀ x ∈ l, p.cps.toList ≤ x.cps.toList) ∧ PyProof.Rows.sortedS l = true
  | [], p, _ => ⟨fun _ h => (by cases h), rfl⟩
  | x :: r, p, h => by
    have h1 : (!ltCps x.cps.toList p.cps.toList && PyProof.Rows.risingS x r) = true := h
    rw [Bool.and_eq_true, Bool.not_eq_true', ltCps_eq, decide_eq_false_iff_not] at h1
    obtain ⟨h2, h3⟩ := rising_all r x h1.2
    have hp : p.cps.toList ≤ x.cps.toList := h1.1
    refine ⟨fun y hy => ?_, h1.2⟩
    rcases List.mem_cons.mp hy with rfl | hy
    · exact hp
    · exact List.le_trans hp (h2 y hy)
theorem sorted_head {a : Str} {r : List Str} (h : PyProof.Rows.sortedS (a :: r) = true) : (∀ x ∈ r, a.cps.toList ≤ x.cps.toList) ∧ PyProof.Rows.sortedS r = true := rising_all r a h
theorem str_ext {a b : Str} (h : a.cps.toList = b.cps.toList) : a = b := by
  obtain ⟨a⟩ := a
  obtain ⟨b⟩ := b
  exact congrArg Str.mk (Array.toList_inj.mp h)
theorem sorted_one : ∀ {a b : List Str}, a.Perm b → PyProof.Rows.sortedS a = true → PyProof.Rows.sortedS b = true → a = b
  | [], b, p, _, _ => (List.nil_perm.mp p).symm ▸ rfl
  | x :: r, [], p, _, _ => absurd (List.perm_nil.mp p) (by simp)
  | x :: r, y :: t, p, ha, hb => by
    obtain ⟨a1, a2⟩ := sorted_head ha
    obtain ⟨b1, b2⟩ := sorted_head hb
    have e : x = y := by
      have hx : x ∈ y :: t := p.mem_iff.mp (by simp)
      have hy : y ∈ x :: r := p.mem_iff.mpr (by simp)
      rcases List.mem_cons.mp hx with h | h
      · exact h
      · rcases List.mem_cons.mp hy with h' | h'
        · exact h'.symm
        · exact str_ext (List.le_antisymm (a1 y h') (b1 x h))
    subst e
    rw [sorted_one (List.Perm.cons_inv p) a2 b2]
/-! ### orders -/
def isS (z : Str) : PyData → Bool
  | .str y => decide (y = z)
  | _ => false
/-- d is an order of these names -/
def orderD (d : PyData) (names : List Str) : Bool := match d with
  | .tuple ds => decide (ds.length = names.length) && names.all fun z => ds.any (isS z)
  | _ => false
theorem isS_iff {z : Str} {d : PyData} : isS z d = true ↔ d = .str z := by
  cases d with
  | str y => simp [isS]
  | _ => simp [isS]
theorem perm_all {α : Type} [DecidableEq α] : ∀ {names l : List α}, names.Nodup → l.length = names.length → (∀ z ∈ names, z ∈ l) → l.Perm names
  | [], l, _, hl, _ => by
    rw [List.length_nil] at hl
    rw [List.eq_nil_of_length_eq_zero hl]
  | z :: r, l, nd, hl, h => by
    have hz := h z (by simp)
    have p := List.perm_cons_erase hz
    have nd' := List.nodup_cons.mp nd
    refine p.trans (List.Perm.cons z (perm_all nd'.2 ?_ fun y hy => ?_))
    · rw [List.length_erase_of_mem hz, hl]
      rfl
    · exact (List.mem_erase_of_ne (fun e : y = z => nd'.1 (by rw [← e]; exact hy))).mpr (h y (List.mem_cons_of_mem _ hy))
theorem order_strs {ws names : List Str} (nd : names.Nodup) : orderD (.tuple (ws.map .str)) names = decide (ws.Perm names) := by
  rw [Bool.eq_iff_iff, decide_eq_true_eq]
  simp only [orderD, Bool.and_eq_true, decide_eq_true_eq, List.all_eq_true, List.any_eq_true, List.length_map]
  constructor
  · rintro ⟨h1, h2⟩
    refine perm_all nd h1 fun z hz => ?_
    obtain ⟨d, hd, e⟩ := h2 z hz
    obtain ⟨y, hy, rfl⟩ := List.mem_map.mp hd
    have := isS_iff.mp e
    injection this with this
    exact this ▸ hy
  · intro p
    exact ⟨p.length_eq, fun z hz => ⟨.str z, List.mem_map.mpr ⟨z, p.mem_iff.mpr hz, rfl⟩, isS_iff.mpr rfl⟩⟩
theorem order_perm {ds : List PyData} {names : List Str} (nd : names.Nodup) (h : orderD (.tuple ds) names = true) : ds.Perm (names.map .str) := by
  simp only [orderD, Bool.and_eq_true, decide_eq_true_eq, List.all_eq_true, List.any_eq_true] at h
  obtain ⟨h1, h2⟩ := h
  haveI : DecidableEq PyData := fun a b => Classical.propDecidable (a = b)
  refine perm_all ?_ (by rw [h1, List.length_map]) fun d hd => ?_
  · exact List.Pairwise.map _ (fun a b e z => e (by injection z)) nd
  · obtain ⟨z, hz, rfl⟩ := List.mem_map.mp hd
    obtain ⟨d, hd, e⟩ := h2 z hz
    rw [isS_iff.mp e] at hd
    exact hd
theorem order_not {ds : List PyData} {names : List Str} (nd : names.Nodup) (h : ds.all strD = false) : orderD (.tuple ds) names = false := by
  cases c : orderD (.tuple ds) names with
  | false => rfl
  | true =>
    have p := order_perm nd c
    have : ds.all strD = true := List.all_eq_true.mpr fun d hd => by
      obtain ⟨z, _, rfl⟩ := List.mem_map.mp (p.mem_iff.mp hd)
      rfl
    rw [this] at h
    cases h
theorem addS_nodup {acc : List Str} (nd : acc.Nodup) (t : PyData) : (addS acc t).Nodup := by
  cases t with
  | str z =>
    simp only [addS]
    split
    · exact nd
    · rename_i c
      rw [List.nodup_append]
      refine ⟨nd, by simp, fun a ha b hb => ?_⟩
      rw [List.mem_singleton.mp hb]
      exact fun e => c (e ▸ ha)
  | _ => exact nd
theorem foS_nodup : ∀ (ts : List PyData) {acc : List Str}, acc.Nodup → (foS acc ts).Nodup
  | [], _, nd => nd
  | t :: r, _, nd => foS_nodup r (addS_nodup nd t)
theorem vars_nodup0 : ∀ (ds : List PyData) (acc : List Str), acc.Nodup → (ds.foldl (fun acc d => foS acc (termsOf d)) acc).Nodup
  | [], _, nd => nd
  | d :: r, acc, nd => vars_nodup0 r _ (foS_nodup (termsOf d) nd)
theorem vars_nodup (ds : List PyData) : (varsD ds).Nodup := vars_nodup0 ds [] List.nodup_nil
theorem eqv_strs : ∀ (a b : List Str), PyData.eqvAll (a.map .str) (b.map .str) = decide (a = b)
  | [], [] => by simp [PyData.eqvAll]
  | [], _ :: _ => by simp [PyData.eqvAll]
  | _ :: _, [] => by simp [PyData.eqvAll]
  | x :: r, y :: t => by
    simp only [List.map_cons, PyData.eqvAll, PyData.eqv, eqv_strs r t]
    rw [Bool.eq_iff_iff]
    simp
/-- two sorted lists of texts are equal just if one is the other's permutation -/
theorem sorted_eq {a b ys zs : List Str} (pa : ys.Perm a) (pb : zs.Perm b) (sa : PyProof.Rows.sortedS ys = true) (sb : PyProof.Rows.sortedS zs = true) : decide (ys = zs) = decide (a.Perm b) := by
  rw [Bool.eq_iff_iff, decide_eq_true_eq, decide_eq_true_eq]
  constructor
  · rintro rfl
    exact pa.symm.trans pb
  · intro p
    exact sorted_one (pa.trans (p.trans pb.symm)) sa sb
/-- a text of a few signs below 128 -/
def okZ (z : Str) : Prop := z.length ≤ 100 ∧ ∀ c ∈ z.cps.toList, c < 128
theorem okZ.ok {z : Str} (h : okZ z) : PyData.strOk z = true := by
  unfold PyData.strOk
  rw [← Array.all_toList, List.all_eq_true]
  exact fun c hc => decide_eq_true (Nat.lt_trans (h.2 c hc) (by decide))
theorem dpStrs {K : PySem.W.Frag} {H : Hp} : ∀ l : List Str, DpAll K H (l.map V.str) (l.map PyData.str)
  | [] => .nil
  | x :: l => .cons (.str x) (dpStrs l)
theorem strs_ok : ∀ l : List Str, (∀ x ∈ l, PyData.strOk x = true) → PyData.canLayAll0 (l.map PyData.str) = true
  | [], _ => by simp [PyData.canLayAll0]
  | x :: l, h => by
    simp only [List.map_cons, PyData.canLayAll0, PyData.canLay0, Bool.and_eq_true]
    exact ⟨h x List.mem_cons_self, strs_ok l fun y hy => h y (List.mem_cons_of_mem _ hy)⟩
theorem strs_depth : ∀ l : List Str, PyData.depthAll (l.map PyData.str) = 0
  | [] => by simp [PyData.depthAll]
  | x :: l => by simp [PyData.depthAll, PyData.depth, strs_depth l]
theorem strs_shaped (l : List Str) (h : ∀ x ∈ l, PyData.strOk x = true) : SeqAt.shaped (.list (l.map PyData.str)) = true := by
  unfold SeqAt.shaped
  simp only [PyData.canLay0, PyData.depth, strs_ok l h, strs_depth, Bool.true_and]
  decide
section
variable {P : Program} {w : World} {K : PySem.W.Frag} {mg : Str → Option Value} {base : Heap}
theorem dat_strs {p : Addr} {H : Hp} : ∀ {xs : List V} {ds : List PyData}, Gx.DatL p H xs ds → ds.all strD = true → ∃ ws : List Str, xs = ws.map V.str ∧ ds = ws.map .str ∧ ∀ z ∈ ws, okZ z
  | _, _, .nil, _ => ⟨[], rfl, rfl, fun _ h => (by cases h)⟩
  | _, _, .cons h r, e => by
    rw [List.all_cons, Bool.and_eq_true] at e
    obtain ⟨ws, e1, e2, e3⟩ := dat_strs r e.2
    cases h with
    | str z hz ha =>
      refine ⟨z :: ws, by rw [e1]; rfl, by rw [e2]; rfl, fun y hy => ?_⟩
      rcases List.mem_cons.mp hy with rfl | hy
      · exact ⟨hz, ha⟩
      · exact e3 y hy
    | _ => cases e.1
def spOr : Sp := fun vs H Q _ => ∃ p x d t names, vs = [x, .ref t] ∧ Gx.Dat p H x d ∧ (∀ ds, d = .tuple ds → ds.length < 64) ∧ H t = some (.tup (names.map V.str)) ∧ names.length < 64 ∧ names.Nodup ∧ (∀ z ∈ names, okZ z) ∧ ∀ H', Same H H' → Q (.bl (orderD d names)) H'
theorem p_is_order_of (T : Mo K mg) : Gx.Pr P w K mg base CX0 1 "is_order_of" s_is_order_of ["value", "variables"] spOr := by
  refine T.d_is_order_of.ok sc_is_order_of (fun vs H Q E h => ?_) (fun f cdv A outer s H vs Q E hr h => ?_)
  · obtain ⟨p, x, d, t, names, rfl, _⟩ := h
    rfl
  · obtain ⟨p, x, d, t, names, rfl, tx, hl, ht, hn, nd, hz, q⟩ := h
    have hu64 := hr.units
    refine ⟨_, (pss_cons (ps_if (PW.pt (pw_or (pt_not (pt_val (pe_callB call_isi (by rfl) T.b_isinstance (by decide +kernel) (pa_cons (pv 0) (pa_cons (pe_bltn (v := .ty "tuple") rfl T.b_tuple (by decide +kernel) rfl) pa_nil))))) (pw_or1 (pt_not (pt_val (pe_callB (cr_all rfl) (by rfl) T.b_all (by decide +kernel) (pa_cons (pe_lc (own := [("element", 2)]) (g := gName 2) (tt := tYes) rfl sc_is_order_of.nd (pi_tup (pv 0)) (blkOk_by (N := N_is_order_of) (sc := defScope s_is_order_of) (by decide +kernel)) (fun _ _ _ _ _ => (pg_name (i := 2) sc_is_order_of.nd rfl (Or.inl rfl))) (fun _ _ _ _ _ => pts_nil) (fun _ _ _ _ _ => (pe_callB (Gx.call_isiK (K := K) rfl) (by rfl) T.b_isinstance (show bootBuiltins "isinstance" = some (.builtin "isinstance") by decide +kernel) (pa_cons (pv 2) (pa_cons (pe_bltn (v := .ty "str") rfl T.b_str (by decide +kernel) rfl) pa_nil))))) pa_nil))))))) (pss_one (ps_ret pe_bl)) pss_nil)
      (pss_one (ps_ret (pe_cmpR (op_eqD hu64) (pe_callB Gx.cr_sortedQ (by rfl) T.b_sorted (by decide +kernel) (pa_cons (pv 0) pa_nil)) (pe_callB Gx.cr_sortedQ (by rfl) T.b_sorted (by decide +kernel) (pa_cons (pv 1) pa_nil)) (nomark _))))), ?_⟩
    refine ⟨x, rfl, x, .ty "tuple", _, _, _, rfl, .ty _, tx.ty, Gx.kit_D (by simp), _, rfl, ?_⟩
    cases tx with
    | @tup a xs ds n h r =>
      refine iteF ?_
      refine ⟨_, rfl, a, rfl, ⟨xs, SqT.of h⟩, fun D hD => ?_⟩
      refine lc_it (walk_tup (K := K) (a := a) (xs := xs)) (fun i H' => Same H H' ∧ H' D = some (.lst (((ds.take i).map strD).map V.bl))) ⟨Gx.sameU hD, upd_same⟩ (fun i H' _ h' => .inl (.inl (h'.1 _ _ h))) (fun i v H1 H2 hi h' Y => ?_) fun H1 h' => ?_
      · obtain ⟨s3, hl3⟩ := h'
        obtain ⟨rfl, he⟩ := Y
        obtain ⟨d, hd, t⟩ := r.get he
        refine ⟨rfl, _, rfl, v, .ty "str", _, _, _, rfl, .ty _, (t.kp (Gx.Kp.of s3)).ty, Gx.kit_D (by simp), _, hl3, ?_, ?_, ?_⟩
        · rw [List.length_map, List.length_map, List.length_take]
          exact Nat.lt_of_le_of_lt (show _ ≤ 100 by have := hl ds rfl; omega) (by decide)
        · intro b o e
          by_cases cb : b = D
          · subst cb
            rw [hD] at e
            cases e
          · rw [upd_ne cb]
            exact s3 b o e
        · rw [upd_same, List.take_add_one, hd, strD_isD]
          simp
      · obtain ⟨s3, hl3⟩ := h'
        refine ⟨D, ds.map strD, rfl, SqL.of ?_, _, rfl, ?_⟩
        · rw [hl3, r.len, List.take_length]
        · rw [List.all_map]
          show if (!ds.all strD) = true then _ else _
          cases c : ds.all strD with
          | false =>
            rw [order_not nd c] at q
            exact iteT (q H1 s3)
          | true =>
            obtain ⟨ws, rfl, rfl, hw⟩ := dat_strs r c
            rw [order_strs nd] at q
            refine iteF ?_
            have hws : ws.length < 64 := by simpa using hl _ rfl
            refine ⟨_, rfl, a, ws, rfl, .inr (SqT.of (s3 _ _ h)), hws, fun ys b1 p1 o1 n1 => ?_⟩
            have s4 := s3.trans (Gx.sameU n1 (o := .lst (ys.map V.str)))
            refine ⟨_, rfl, t, names, rfl, .inr (SqT.of (s4 _ _ ht)), hn, fun zs b2 p2 o2 n2 => ?_⟩
            have s5 := s4.trans (Gx.sameU n2 (o := .lst (zs.map V.str)))
            refine ⟨.list (ys.map .str), .list (zs.map .str), .lst (SqL.of (by rw [upd_ne (fun e => by rw [e, upd_same] at n2; cases n2)]; exact upd_same)) (dpStrs _), .lst (SqL.of upd_same) (dpStrs _),
              strs_shaped _ (fun x hx => (hw x (p1.mem_iff.mp hx)).ok), strs_shaped _ (fun x hx => (hz x (p2.mem_iff.mp hx)).ok), ?_⟩
            have q := q _ s5
            rw [← sorted_eq p1 p2 o1 o2] at q
            show Q (.bl (PyData.eqvAll (ys.map .str) (zs.map .str))) _
            rw [eqv_strs]
            exact q
    | int i => exact iteT (q H (Same.refl H))
    | bl i => exact iteT (q H (Same.refl H))
    | non => exact iteT (q H (Same.refl H))
    | lst => exact iteT (q H (Same.refl H))
    | str => exact iteT (q H (Same.refl H))
    | nil => exact iteT (q H (Same.refl H))
    | one => exact iteT (q H (Same.refl H))
end
end My
namespace My
open PySem PySem.Spec PyProof.Rows L2
/-! ### what is wrong with literals and an order -/
def itemsD : PyData → Option (List PyData)
  | .list ds => some ds
  | .tuple ds => some ds
  | _ => none
def badD (ds : List PyData) : Option Nat := ds.findIdx? fun d => !litD d
def nonD : PyData → Bool
  | .none => true
  | _ => false
def probD (dl dor : PyData) : Option (Str × Int) := match itemsD dl with
  | none => some ("literals", -1)
  | some ds => if ds.length = 0 ∨ 8 < ds.length then some ("literals", -1) else match badD ds with
    | some i => some ("literal", (i : Int))
    | none => if 5 < (varsD ds).length then some ("variables", -1) else if nonD dor || orderD dor (varsD ds) then none else some ("order", -1)
theorem bad_none {ds : List PyData} (h : badD ds = none) : ∀ d ∈ ds, litD d = true := fun d hd => by
  have := List.findIdx?_eq_none_iff.mp h d hd
  simpa using this
theorem dat_items {p : Addr} {H : Hp} {v : V} {d : PyData} (t : Gx.Dat p H v d) : (itemsD d = none ∧ (Gx.isD "list" d || Gx.isD "tuple" d) = false) ∨ ∃ a xs ds, v = .ref a ∧ (H a = some (.lst xs) ∨ H a = some (.tup xs)) ∧ Gx.DatL p H xs ds ∧ itemsD d = some ds ∧ (Gx.isD "list" d || Gx.isD "tuple" d) = true := by
  cases t with
  | lst n h r => exact .inr ⟨_, _, _, rfl, .inl h, r, rfl, rfl⟩
  | tup n h r => exact .inr ⟨_, _, _, rfl, .inr h, r, rfl, rfl⟩
  | _ => exact .inl ⟨rfl, rfl⟩
theorem lw_ok {z : Str} (h : nameZ z = true) : okZ z := by
  simp only [nameZ, Bool.and_eq_true, decide_eq_true_eq, List.all_eq_true] at h
  refine ⟨by omega, fun c hc => ?_⟩
  have := h.2.2.1 c hc
  simp only [isLw, Bool.and_eq_true, decide_eq_true_eq] at this
  omega
theorem addS_ok {acc : List Str} {t : PyData} (h : ∀ z ∈ acc, okZ z) (ht : termD t = true) : ∀ z ∈ addS acc t, okZ z := by
  cases t with
  | str y =>
    simp only [addS]
    split
    · exact h
    · intro z hz
      rcases List.mem_append.mp hz with hz | hz
      · exact h z hz
      · rw [List.mem_singleton.mp hz]
        have : (nameZ y || false) = true := ht
        rw [Bool.or_false] at this
        exact lw_ok this
  | _ => exact h
theorem foS_ok : ∀ (ts : List PyData) {acc : List Str}, (∀ z ∈ acc, okZ z) → (∀ t ∈ ts, termD t = true) → ∀ z ∈ foS acc ts, okZ z
  | [], _, h, _ => h
  | t :: r, _, h, ht => foS_ok r (addS_ok h (ht t (by simp))) fun y hy => ht y (List.mem_cons_of_mem _ hy)
theorem vars_ok0 : ∀ (ds : List PyData) (acc : List Str), (∀ z ∈ acc, okZ z) → (∀ d ∈ ds, litD d = true) → ∀ z ∈ ds.foldl (fun acc d => foS acc (termsOf d)) acc, okZ z
  | [], _, h, _ => h
  | d :: r, acc, h, hd => by
    obtain ⟨_, _, _, _, _, _, tms, _⟩ := lit_inv (hd d (by simp))
    exact vars_ok0 r _ (foS_ok (termsOf d) h tms) fun y hy => hd y (List.mem_cons_of_mem _ hy)
theorem vars_ok {ds : List PyData} (h : ∀ d ∈ ds, litD d = true) : ∀ z ∈ varsD ds, okZ z := vars_ok0 ds [] (fun _ h => by cases h) h
/-- the answer of problem_with -/
def IsProb (H : Hp) (v : V) : Option (Str × Int) → Prop
  | none => v = .non
  | some (z, i) => ∃ t, v = .ref t ∧ H t = some (.tup [.str z, .int i])
section
variable {P : Program} {w : World} {K : PySem.W.Frag} {mg : Str → Option Value} {base : Heap}
def spPW : Sp := fun vs H Q _ => ∃ p x y dx dy, vs = [x, y] ∧ Gx.Dat p H x dx ∧ Gx.Dat p H y dy ∧ (∀ ds, dy = .tuple ds → ds.length < 64) ∧ ∀ v H', Same H H' → IsProb H' v (probD dx dy) → Q v H'
theorem p_problem_with (T : Mo K mg) : Gx.Pr P w K mg base CX0 6 "problem_with" s_problem_with ["literals", "order"] spPW := by
  refine T.d_problem_with.ok sc_problem_with (fun vs H Q E h => ?_) (fun f cdv A outer s H vs Q E hr h => ?_)
  · obtain ⟨p, x, y, dx, dy, rfl, _⟩ := h
    rfl
  · obtain ⟨p, x, y, dx, dy, rfl, tx, ty, hy, q⟩ := h
    refine ⟨_, (pss_cons (ps_if (PW.pt (pw_or (pt_not (pt_val (Gx.pe_pos (p_is_list T) hr (by decide) (by rfl) b_is_list pass0 (pa_cons (pv 0) pa_nil)))) (pw_or1 (pt_not (pt_chain op_le op_le pe_int (pe_callB call_len_seq (by rfl) T.b_len (by decide +kernel) (pa_cons (pv 0) pa_nil)) (Gx.pe_cint T.k_Query_MAX_LITERALS rfl)))))) (pss_one (ps_ret (pe_tup (pa_cons pe_str (pa_cons (pe_un un_neg pe_int) pa_nil))))) pss_nil)
      (pss_cons (ps_for PassesOwn.never rfl (Gx.pi_enumS (by rfl) T.b_enumerate (pa_cons (pv 0) pa_nil)) (pg_tup rfl (pgs_cons (pg_name (i := 2) sc_problem_with.nd rfl (Or.inl rfl)) (pgs_cons (pg_name (i := 3) sc_problem_with.nd rfl (Or.inl rfl)) pgs_nil))) (pss_one (ps_if (pt_not (pt_val (Gx.pe_pos (p_is_literal T) hr (by decide) (by rfl) b_is_literal pass0 (pa_cons (pv 3) pa_nil)))) (pss_one (ps_ret (pe_tup (pa_cons pe_str (pa_cons (pv 2) pa_nil))))) pss_nil)))
      (pss_cons (ps_set (i := 4) sc_problem_with.nd rfl (Or.inl rfl) (Gx.pe_pos (p_variables_of T) hr (by decide) (by rfl) b_variables_of pass0 (pa_cons (pv 0) pa_nil)))
      (pss_cons (ps_if (pt_cmpR op_gt (pe_callB call_len_seq (by rfl) T.b_len (by decide +kernel) (pa_cons (pv 4) pa_nil)) (Gx.pe_cint T.k_Query_MAX_VARIABLES rfl) (nomark _)) (pss_one (ps_ret (pe_tup (pa_cons pe_str (pa_cons (pe_un un_neg pe_int) pa_nil))))) pss_nil)
      (pss_cons (ps_if (PW.pt (pw_and (pt_cmpR op_notN (pv 1) pe_non (nomark _)) (pw_and1 (pt_not (pt_val (Gx.pe_pos (p_is_order_of T) hr (by decide) (by rfl) b_is_order_of pass0 (pa_cons (pv 1) (pa_cons (pv 4) pa_nil)))))))) (pss_one (ps_ret (pe_tup (pa_cons pe_str (pa_cons (pe_un un_neg pe_int) pa_nil))))) pss_nil)
      (pss_one (ps_ret pe_non))))))), ?_⟩
    refine ⟨x, rfl, p, x, dx, rfl, tx, fun H1 s1 => ⟨_, rfl, ?_⟩⟩
    have give : ∀ (z : Str) (i : Int), probD dx dy = some (z, i) → ∀ H1, Same H H1 → ∀ t, H1 t = none → Q (.ref t) (L2.upd H1 t (.tup [.str z, .int i])) := fun z i e H1 s1 t ht => q _ _ (s1.trans (Gx.sameU ht)) (by
      rw [e]
      exact ⟨t, rfl, upd_same⟩)
    rcases dat_items tx with ⟨e1, e2⟩ | ⟨a, xs, ds, rfl, hs, r, e1, e2⟩
    · rw [e2]
      exact iteT (iteT ⟨_, rfl, by show 2 ≤ sizeLine; decide, fun t nt => give "literals" (-1) (by simp [probD, e1]) H1 s1 t nt⟩)
    · rw [e2]
      refine iteF ?_
      have hs1 : H1 a = some (.lst xs) ∨ H1 a = some (.tup xs) := hs.elim (fun e => .inl (s1 _ _ e)) fun e => .inr (s1 _ _ e)
      have sq1 : SqL K H1 a xs ∨ SqT K H1 a xs := hs1.elim (fun e => .inl (SqL.of e)) fun e => .inr (SqT.of e)
      refine ⟨_, rfl, a, xs, rfl, sq1, _, _, rfl, rfl, _, rfl, ?_⟩
      show if decide ((1 : Int) ≤ (xs.length : Int)) = true then _ else _
      rw [r.len]
      by_cases c1 : 1 ≤ ds.length
      · rw [decide_eq_true (show (1 : Int) ≤ (ds.length : Int) by omega)]
        refine ⟨_, _, rfl, rfl, _, rfl, ?_⟩
        show if (!decide ((ds.length : Int) ≤ 8)) = true then _ else _
        by_cases c2 : ds.length ≤ 8
        · rw [decide_eq_true (show (ds.length : Int) ≤ 8 by omega)]
          refine iteF ?_
          have pe : probD dx dy = match badD ds with
              | some i => some (("literal" : Str), (i : Int))
              | none => if 5 < (varsD ds).length then some ("variables", -1) else if nonD dy || orderD dy (varsD ds) then none else some ("order", -1) := by
            simp only [probD, e1]
            rw [if_neg (by omega)]
          refine ⟨_, rfl, a, xs, rfl, sq1, fun J hJ => ?_⟩
          obtain ⟨G, wk, _, mono⟩ := hJ.walk
          refine for_it wk (fun i σ H' => Same H1 H' ∧ (∀ j d, j < i → ds[j]? = some d → litD d = true) ∧ ∃ t2 t3, σ = [some (.ref a), some y, t2, t3, none]) ⟨Same.refl _, fun j d hj => absurd hj (by omega), _, _, rfl⟩ (fun i σ H' _ h => mono H' h.1) (fun i v σ H2 H3 hi h Y => ?_) fun σ H2 h => ?_
          · obtain ⟨s2, ok, t2, t3, rfl⟩ := h
            obtain ⟨t, v1, v2, rfl, nt, rfl, e3, e4⟩ := Y
            cases e3
            have s3 := s2.trans (Gx.sameU nt (o := .tup [.int (i : Nat), v2]))
            obtain ⟨d, hd, tv⟩ := r.get e4
            refine ⟨t, _, rfl, SqT.of upd_same, rfl, _, _, rfl, _, _, rfl, rfl, ?_⟩
            refine ⟨_, rfl, p, v2, d, rfl, tv.kp (Gx.Kp.of (s1.trans s3)), fun H4 s4 => ⟨_, rfl, ?_⟩⟩
            show if (!litD d) = true then _ else _
            cases c3 : litD d with
            | false =>
              have eb : badD ds = some i := by
                have hi' : i < ds.length := by rw [← r.len]; exact hi
                refine List.findIdx?_eq_some_iff_getElem.mpr ⟨hi', ?_, fun j hj => ?_⟩
                · rw [List.getElem?_eq_getElem hi'] at hd
                  rw [Option.some.inj hd, c3]
                  rfl
                · rw [ok j _ hj (List.getElem?_eq_getElem (by omega))]
                  simp
              rw [eb] at pe
              exact iteT ⟨_, rfl, by show 2 ≤ sizeLine; decide, fun t nt => give "literal" i pe _ (s1.trans (s3.trans s4)) t nt⟩
            | true =>
              refine iteF ⟨s3.trans s4, fun j e hj he => ?_, _, _, rfl⟩
              by_cases cj : j = i
              · rw [cj, hd] at he
                rw [← Option.some.inj he]
                exact c3
              · exact ok j e (by omega) he
          · obtain ⟨s2, ok, t2, t3, rfl⟩ := h
            have good : ∀ d ∈ ds, litD d = true := fun d hd => by
              obtain ⟨j, hj, rfl⟩ := List.mem_iff_getElem.mp hd
              exact ok j _ (by rw [r.len]; exact hj) (List.getElem?_eq_getElem hj)
            have eb : badD ds = none := List.findIdx?_eq_none_iff.mpr fun d hd => by rw [good d hd]; rfl
            rw [eb] at pe
            have s12 := s1.trans s2
            have hs2 : H2 a = some (.lst xs) ∨ H2 a = some (.tup xs) := hs.elim (fun e => .inl (s12 _ _ e)) fun e => .inr (s12 _ _ e)
            refine ⟨_, rfl, p, a, xs, ds, rfl, hs2, r.kp (Gx.Kp.of s12), c2, good, fun t H3 s3 nt hv => ?_⟩
            refine ⟨_, rfl, t, _, rfl, .inr (SqT.of hv), _, _, rfl, rfl, _, rfl, ?_⟩
            rw [List.length_map]
            show if decide ((5 : Int) < ((varsD ds).length : Int)) = true then _ else _
            have s13 := s12.trans s3
            have vl := vars_len good
            by_cases c5 : 5 < (varsD ds).length
            · rw [decide_eq_true (show (5 : Int) < ((varsD ds).length : Int) by omega)]
              rw [if_pos c5] at pe
              exact iteT ⟨_, rfl, by show 2 ≤ sizeLine; decide, fun t nt => give "variables" (-1) pe _ s13 t nt⟩
            · rw [decide_eq_false (show ¬ (5 : Int) < ((varsD ds).length : Int) by omega)]
              rw [if_neg c5] at pe
              refine iteF ?_
              refine ⟨_, rfl, rfl, _, rfl, ?_⟩
              show if (!decide (y = V.non)) = true then _ else _
              have en : decide (y = V.non) = nonD dy := by
                cases ty <;> rfl
              rw [en]
              cases c6 : nonD dy with
              | true =>
                rw [c6] at pe
                exact iteF (iteF (q _ _ s13 (by rw [pe]; rfl)))
              | false =>
                rw [c6] at pe
                refine iteT ⟨_, rfl, _, rfl, p, y, dy, t, varsD ds, rfl, ty.kp (Gx.Kp.of s13), hy, hv, by omega, vars_nodup ds, vars_ok good, fun H5 s5 => ⟨_, rfl, ?_⟩⟩
                show if (!orderD dy (varsD ds)) = true then _ else _
                cases c7 : orderD dy (varsD ds) with
                | true =>
                  rw [c7] at pe
                  exact iteF (q _ _ (s13.trans s5) (by rw [pe]; rfl))
                | false =>
                  rw [c7] at pe
                  exact iteT ⟨_, rfl, by show 2 ≤ sizeLine; decide, fun t nt => give "order" (-1) pe _ (s13.trans s5) t nt⟩
        · rw [decide_eq_false (show ¬ (ds.length : Int) ≤ 8 by omega)]
          exact iteT ⟨_, rfl, by show 2 ≤ sizeLine; decide, fun t nt => give "literals" (-1) (by simp only [probD, e1]; rw [if_pos (by omega)]) _ s1 t nt⟩
      · rw [decide_eq_false (show ¬ (1 : Int) ≤ (ds.length : Int) by omega)]
        exact ⟨_, rfl, iteT ⟨_, rfl, by show 2 ≤ sizeLine; decide, fun t nt => give "literals" (-1) (by simp only [probD, e1]; rw [if_pos (by omega)]) _ s1 t nt⟩⟩
end
end My
namespace My
open PySem PySem.Spec PyProof.Rows L2
/-! ### a query -/
/-- lists, tuples and dicts -/
def isDt : HO → Bool
  | .lst _ => true
  | .tup _ => true
  | .dK _ => true
  | _ => false
/-- all lists, tuples and dicts but the one at p are as they were -/
def Kd (p : Addr) (H H' : Hp) : Prop := ∀ b o, b ≠ p → isDt o = true → H b = some o → H' b = some o
theorem Kd.of {p : Addr} {H H' : Hp} (k : Same H H') : Kd p H H' := fun b o _ _ e => k b o e
theorem Kd.trans {p : Addr} {H H1 H2 : Hp} (a : Kd p H H1) (b : Kd p H1 H2) : Kd p H H2 := fun c o n i e => b c o n i (a c o n i e)
theorem Kd.ins {p q C d : Addr} {fs : List (Str × V)} {H : Hp} {o : HO} (h : H q = some (.ins C d fs)) : Kd p H (L2.upd H q o) := fun b x _ i e => by
  rw [upd_ne fun z => ?_]
  · exact e
  · rw [z, h] at e
    cases e
    cases i
mutual
theorem dat_kd {p : Addr} {H H' : Hp} (k : Kd p H H') : ∀ {v : V} {d : PyData}, Gx.Dat p H v d → Gx.Dat p H' v d
  | _, _, .non => .non
  | _, _, .bl b => .bl b
  | _, _, .int i h => .int i h
  | _, _, .str z h a => .str z h a
  | _, _, .lst n h r => .lst n (k _ _ n rfl h) (datL_kd k r)
  | _, _, .tup n h r => .tup n (k _ _ n rfl h) (datL_kd k r)
  | _, _, .nil n h => .nil n (k _ _ n rfl h)
  | _, _, .one i n h r => .one i n (k _ _ n rfl h) (dat_kd k r)
theorem datL_kd {p : Addr} {H H' : Hp} (k : Kd p H H') : ∀ {vs : List V} {ds : List PyData}, Gx.DatL p H vs ds → Gx.DatL p H' vs ds
  | _, _, .nil => .nil
  | _, _, .cons h r => .cons (dat_kd k h) (datL_kd k r)
end
theorem datL_strs {p : Addr} {H : Hp} : ∀ (ws : List Str), (∀ z ∈ ws, okZ z) → Gx.DatL p H (ws.map V.str) (ws.map .str)
  | [], _ => .nil
  | z :: r, h => .cons (.str z (h z (by simp)).1 (h z (by simp)).2) (datL_strs r fun y hy => h y (List.mem_cons_of_mem _ hy))
theorem prob_none {dx dy : PyData} {ds : List PyData} (e : itemsD dx = some ds) (h : probD dx dy = none) : ds.length ≤ 8 ∧ (∀ d ∈ ds, litD d = true) ∧ (nonD dy = true ∨ orderD dy (varsD ds) = true) := by
  simp only [probD, e] at h
  by_cases c : ds.length = 0 ∨ 8 < ds.length
  · rw [if_pos c] at h
    cases h
  · rw [if_neg c] at h
    cases b : badD ds with
    | some i =>
      rw [b] at h
      cases h
    | none =>
      rw [b] at h
      by_cases c5 : 5 < (varsD ds).length
      · simp only [if_pos c5] at h
        cases h
      · simp only [if_neg c5] at h
        refine ⟨by omega, bad_none b, ?_⟩
        by_cases c6 : (nonD dy || orderD dy (varsD ds)) = true
        · simpa using c6
        · rw [if_neg c6] at h
          cases h
/-- the variables that a query shows -/
def varD (ds : List PyData) (dy : PyData) : PyData := if nonD dy then .tuple ((varsD ds).map .str) else dy
/-- the query at q holds these literals and variables -/
def QryAt (mg : Str → Option Value) (p : Addr) (H : Hp) (q : Addr) (ds : List PyData) (dv : PyData) : Prop :=
  ∃ dx l v xs, H q = some (.ins (Gx.cl mg "Query") dx [("_literals", .ref l), ("_variables", v)]) ∧ H l = some (.tup xs) ∧ l ≠ p ∧ Gx.DatL p H xs ds ∧ Gx.Dat p H v dv
theorem QryAt.kp {mg : Str → Option Value} {p : Addr} {H H' : Hp} {q : Addr} {ds : List PyData} {dv : PyData} (h : QryAt mg p H q ds dv) (n : q ≠ p) (k : Gx.Kp p H H') : QryAt mg p H' q ds dv := by
  obtain ⟨dx, l, v, xs, h1, h2, h3, h4, h5⟩ := h
  exact ⟨dx, l, v, xs, k _ _ n h1, k _ _ h3 h2, h3, h4.kp k, h5.kp k⟩
section
variable {P : Program} {w : World} {K : PySem.W.Frag} {mg : Str → Option Value} {base : Heap}
def spQI (mg : Str → Option Value) : Sp := fun vs H Q E => ∃ p q dd x y dx dy, vs = [.ref q, x, y] ∧ H q = some (.ins (Gx.cl mg "Query") dd []) ∧ (∃ o, H p = some o) ∧ q ≠ p ∧ Gx.Dat p H x dx ∧ Gx.Dat p H y dy ∧ (∀ ds, dy = .tuple ds → ds.length < 64) ∧
  (∀ H' ds, (∀ b o, b ≠ q → H b = some o → H' b = some o) → itemsD dx = some ds → probD dx dy = none → QryAt mg p H' q ds (varD ds dy) → Q .non H') ∧
  (∀ z i H' d, Same H H' → probD dx dy = some (z, i) → H' d = none → E (.ref (Gx.cl mg "InvalidQuery")) (some d) (L2.upd H' d (.xd [("position", .int i), ("problem", .str z)])))
theorem p_Query___init__ (T : Mo K mg) : Gx.PrM P w K mg base (L2.CX P w) 7 "Query" "__init__" "Query.__init__" s_Query___init__ ["self", "literals", "order"] [.non] (spQI mg) := by
  refine T.d_Query___init__.okX sc_Query___init__ (fun vs H Q E h => ?_) (fun f cdv A outer s H vs Q E hr h => ?_)
  · obtain ⟨p, q, dd, x, y, dx, dy, rfl, _⟩ := h
    rfl
  · obtain ⟨p, q, dd, x, y, dx, dy, rfl, hq, ⟨op, hp⟩, nqp, tx, ty, hy, qn, qe⟩ := h
    refine ⟨_, (pss_cons (ps_set (i := 3) sc_Query___init__.nd rfl (Or.inl rfl) (Gx.pe_pos (p_problem_with T) hr (by decide) (by rfl) b_problem_with pass0 (pa_cons (pv 1) (pa_cons (pv 2) pa_nil))))
      (pss_cons (ps_if (pt_cmpR op_notN (pv 3) pe_non (nomark _)) (pss_cons (ps_asg (pv 3) (pg_tup rfl (pgs_cons (pg_name (i := 4) sc_Query___init__.nd rfl (Or.inl rfl)) (pgs_cons (pg_name (i := 5) sc_Query___init__.nd rfl (Or.inl rfl)) pgs_nil))))
      (pss_one (ps_raise rfl (takes_of rfl rfl rfl rfl) (Gx.pmk_err2 T.e_InvalidQuery T.c_InvalidQuery T.f_InvalidQuery_problem T.f_InvalidQuery_position hr (by decide) sci_InvalidQuery bi_InvalidQuery bodyi_InvalidQuery (by rfl) (pv 4) (pv 5))))) pss_nil)
      (pss_cons (ps_fld (pv 0) (pe_callTy call_tuple_of (by rfl) T.b_tuple (by decide +kernel) (pa_cons (pv 1) pa_nil)) rfl)
      (pss_one (ps_fld (pv 0) (pe_ifExp (pt_cmpR op_isN (pv 2) pe_non (nomark _)) (Gx.pe_pos (p_variables_of T) hr (by decide) (by rfl) b_variables_of pass0 (pa_cons (pv 1) pa_nil)) (pv 2)) rfl))))), ?_⟩
    refine ⟨_, rfl, _, rfl, p, x, y, dx, dy, rfl, tx, ty, hy, fun v H1 s1 hv => ?_⟩
    cases c : probD dx dy with
    | some zi =>
      obtain ⟨z, i⟩ := zi
      rw [c] at hv
      obtain ⟨t, rfl, ht⟩ := hv
      refine ⟨_, rfl, rfl, _, rfl, iteT ?_⟩
      refine ⟨_, rfl, t, _, rfl, SqT.of ht, rfl, _, _, rfl, _, _, rfl, rfl, ?_⟩
      refine ⟨_, rfl, fun v2 H2 => v2 = .int i ∧ H2 = H1, ⟨_, rfl, rfl, rfl⟩, fun v2 H2 e d hd => ?_⟩
      obtain ⟨rfl, rfl⟩ := e
      exact qe z i _ d s1 c hd
    | none =>
      rw [c] at hv
      cases (show v = .non from hv)
      refine ⟨_, rfl, rfl, _, rfl, iteF ?_⟩
      rcases dat_items tx with ⟨e1, _⟩ | ⟨a, xs, ds, rfl, hs, r, e1, _⟩
      · simp [probD, e1] at c
      · obtain ⟨l8, good, od⟩ := prob_none e1 c
        have rest : ∀ l H2, Same H1 H2 → H2 l = some (.tup xs) → l ≠ p → ∀ D : Ends, D.nx = (fun _ H' => Q .non H') → (sFld K (tVar 0) (tIf (tTest (tOp (fun x y H Q => y = V.non ∧ Q (V.bl (decide (x = V.non))) H) (tVar 2) (tC V.non))) (tCall spVO [] E0 (tCons (tVar 1) tNil)) (tVar 2)) "_variables") D [some (.ref q), some (.ref a), some y, some .non, none, none] (L2.upd H2 q (.ins (Gx.cl mg "Query") dd [("_literals", .ref l)])) := by
          intro l H2 s12 hl nlp D hD
          have s2 : Same H H2 := s1.trans s12
          have hq2 := s2 _ _ hq
          have nlq : l ≠ q := fun e => by
            rw [e, hq2] at hl
            cases hl
          have nop : p ≠ q := fun e => nqp e.symm
          have hp3 : (L2.upd H2 q (.ins (Gx.cl mg "Query") dd [("_literals", .ref l)])) p = some op := by
            rw [upd_ne nop]
            exact s2 _ _ hp
          have k3 : Kd p H (L2.upd H2 q (.ins (Gx.cl mg "Query") dd [("_literals", .ref l)])) := (Kd.of s2).trans (Kd.ins hq2)
          have fin : ∀ v H4, Same (L2.upd H2 q (.ins (Gx.cl mg "Query") dd [("_literals", .ref l)])) H4 → Gx.Dat p H4 v (varD ds dy) → ∃ b C dx fs, V.ref q = .ref b ∧ H4 b = some (.ins C dx fs) ∧ L2.Cls K C ∧ NoAttr K C "_variables" ∧ fs.length < 1000 ∧ D.nx [some (.ref q), some (.ref a), some y, some .non, none, none] (L2.upd H4 b (.ins C dx (putF "_variables" v fs))) := by
            intro v H4 s4 tv
            have hq4 := s4 _ _ upd_same
            refine ⟨q, _, dd, _, rfl, hq4, T.d_Query___init__.c, T.n_Query__variables, (by show 1 < 1000; decide), ?_⟩
            rw [hD]
            refine qn _ ds (fun b o n e => ?_) e1 c ⟨dd, l, v, xs, upd_same, ?_, nlp, ?_, ?_⟩
            · rw [upd_ne n]
              exact s4 _ _ (by rw [upd_ne n]; exact s2 _ _ e)
            · rw [upd_ne nlq]
              exact s4 _ _ (by rw [upd_ne nlq]; exact hl)
            · exact datL_kd ((k3.trans (Kd.of s4)).trans (Kd.ins hq4)) r
            · exact dat_kd (Kd.ins hq4) tv
          refine ⟨_, rfl, rfl, _, rfl, ?_⟩
          show if decide (y = V.non) = true then _ else _
          have en : decide (y = V.non) = nonD dy := by
            cases ty <;> rfl
          rw [en]
          cases c6 : nonD dy with
          | true =>
            refine iteT ⟨_, rfl, p, a, xs, ds, rfl, ?_, datL_kd k3 r, l8, good, fun t H4 s4 nt hv => ?_⟩
            · have naq : a ≠ q := fun e => by
                rw [e, hq] at hs
                rcases hs with e | e <;> cases e
              rw [upd_ne naq]
              exact hs.elim (fun e => .inl (s2 _ _ e)) fun e => .inr (s2 _ _ e)
            · refine ⟨_, rfl, fin (.ref t) H4 s4 ?_⟩
              unfold varD
              rw [c6, if_pos rfl]
              exact .tup (fun e => by rw [e, hp3] at nt; cases nt) hv (datL_strs _ (vars_ok good))
          | false =>
            refine iteF ⟨_, rfl, _, rfl, fin y _ (Same.refl _) ?_⟩
            unfold varD
            rw [c6, if_neg (by simp)]
            exact dat_kd k3 ty
        have hq1 := s1 _ _ hq
        rcases hs with hs | hs
        · refine ⟨_, rfl, a, xs, rfl, .inl ⟨SqL.of (s1 _ _ hs), fun l hl => ?_⟩⟩
          have s2 : Same H1 (L2.upd H1 l (.tup xs)) := Gx.sameU hl
          refine ⟨_, rfl, q, _, dd, [], rfl, s2 _ _ hq1, T.d_Query___init__.c, T.n_Query__literals, (by show 0 < 1000; decide), ?_⟩
          exact rest l _ s2 upd_same (fun e => by rw [e, s1 _ _ hp] at hl; cases hl) _ rfl
        · have nap : a ≠ p := by
            cases tx with
            | lst n _ _ => exact n
            | tup n _ _ => exact n
            | nil n _ => exact n
            | one _ n _ _ => exact n
          refine ⟨_, rfl, a, xs, rfl, .inr ⟨SqT.of (s1 _ _ hs), ?_⟩⟩
          refine ⟨_, rfl, q, _, dd, [], rfl, hq1, T.d_Query___init__.c, T.n_Query__literals, (by show 0 < 1000; decide), ?_⟩
          exact rest a _ (Same.refl _) (s1 _ _ hs) nap _ rfl
end
end My
namespace My
open PySem PySem.Spec PyProof.Rows L2
section
variable {P : Program} {w : World} {K : PySem.W.Frag} {mg : Str → Option Value} {base : Heap}
def spVars (mg : Str → Option Value) : Sp := fun vs H Q _ => ∃ p q ds dv, vs = [.ref q] ∧ QryAt mg p H q ds dv ∧ ∀ v, Gx.Dat p H v dv → Q v H
theorem p_Query_variables (T : Mo K mg) : Gx.PrQ P w K mg base 1 "Query" "variables" (spVars mg) := by
  refine T.d_Query_variables.ok sc_Query_variables bq_Query_variables (fun vs H Q E h => ?_) (fun f cdv A outer s H vs Q E hr h => ?_)
  · obtain ⟨p, q, ds, dv, rfl, _⟩ := h
    rfl
  · obtain ⟨p, q, ds, dv, rfl, ⟨dx, l, v, xs, h1, h2, h3, h4, h5⟩, qq⟩ := h
    refine ⟨_, (pss_one (ps_ret (pe_fld (pv 0) rfl))), ?_⟩
    exact ⟨_, rfl, q, _, dx, _, v, rfl, h1, T.d_Query_variables.c, T.n_Query__variables, rfl, qq v h5⟩
def spLits (mg : Str → Option Value) : Sp := fun vs H Q _ => ∃ p q ds dv, vs = [.ref q] ∧ QryAt mg p H q ds dv ∧ ∀ l xs, Gx.DatL p H xs ds → H l = none → Q (.ref l) (L2.upd H l (.lst xs))
theorem p_Query_literals (T : Mo K mg) : Gx.PrM P w K mg base CX0 1 "Query" "literals" "Query.literals" s_Query_literals ["self"] [] (spLits mg) := by
  refine T.d_Query_literals.ok sc_Query_literals (fun vs H Q E h => ?_) (fun f cdv A outer s H vs Q E hr h => ?_)
  · obtain ⟨p, q, ds, dv, rfl, _⟩ := h
    rfl
  · obtain ⟨p, q, ds, dv, rfl, ⟨dx, l, v, xs, h1, h2, h3, h4, h5⟩, qq⟩ := h
    refine ⟨_, (pss_one (ps_ret (pe_callTy call_list_of (by rfl) T.b_list (by decide +kernel) (pa_cons (pe_fld (pv 0) rfl) pa_nil)))), ?_⟩
    exact ⟨_, rfl, q, _, dx, _, _, rfl, h1, T.d_Query_literals.c, T.n_Query__literals, rfl, l, xs, rfl, .inr (SqT.of h2), fun b hb => qq b xs h4 hb⟩
def spLen (mg : Str → Option Value) : Sp := fun vs H Q _ => ∃ p q ds dv, vs = [.ref q] ∧ QryAt mg p H q ds dv ∧ Q (.int (ds.length : Nat)) H
theorem p_Query___len__ (T : Mo K mg) : Gx.PrM P w K mg base CX0 1 "Query" "__len__" "Query.__len__" s_Query___len__ ["self"] [] (spLen mg) := by
  refine T.d_Query___len__.ok sc_Query___len__ (fun vs H Q E h => ?_) (fun f cdv A outer s H vs Q E hr h => ?_)
  · obtain ⟨p, q, ds, dv, rfl, _⟩ := h
    rfl
  · obtain ⟨p, q, ds, dv, rfl, ⟨dx, l, v, xs, h1, h2, h3, h4, h5⟩, qq⟩ := h
    refine ⟨_, (pss_one (ps_ret (pe_callB call_len_seq (by rfl) T.b_len (by decide +kernel) (pa_cons (pe_fld (pv 0) rfl) pa_nil)))), ?_⟩
    refine ⟨_, rfl, q, _, dx, _, _, rfl, h1, T.d_Query___len__.c, T.n_Query__literals, rfl, l, xs, rfl, .inr (SqT.of h2), ?_⟩
    rw [h4.len]
    exact qq
end
end My
namespace My
open PySem PySem.Spec PyProof.Rows L2
theorem in_alpha : ∀ c < 128, (!(Builtin.Str.occurrences "abcdefghijklmnopqrstuvwxyz" ⟨#[c]⟩ 0 (("abcdefghijklmnopqrstuvwxyz" : String) : Str).length 1).isEmpty) = isLw c := by decide +kernel
theorem title_out {z : Str} (c : ([("" : Str), "not", "by"].any fun y => decide (z = y)) = true) : nameZ z = false := by
  simp only [List.any_cons, List.any_nil, Bool.or_false, Bool.or_eq_true, decide_eq_true_eq] at c
  rcases c with rfl | rfl | rfl <;> decide +kernel
theorem title_in {z : Str} (c : ([("" : Str), "not", "by"].any fun y => decide (z = y)) = false) (h : ¬ 8 < z.length) : nameZ z = z.cps.toList.all isLw := by
  simp only [List.any_cons, List.any_nil, Bool.or_false, Bool.or_eq_false_iff, decide_eq_false_iff_not] at c
  obtain ⟨c0, c1, c2⟩ := c
  have l1 : 1 ≤ z.length := by
    refine Nat.one_le_iff_ne_zero.mpr fun e => c0 ?_
    obtain ⟨a⟩ := z
    have : a = #[] := Array.eq_empty_of_size_eq_zero e
    rw [this]
    rfl
  simp [nameZ, l1, show z.length ≤ 8 by omega, c1, c2]
section
variable {P : Program} {w : World} {K : PySem.W.Frag} {mg : Str → Option Value} {base : Heap}
theorem p__law_is_title (T : Mo K mg) : Gx.Pr P w K mg base CX0 1 "_law_is_title" s__law_is_title ["_law_thing"] (sp1G nameD) := by
  refine T.d__law_is_title.ok sc__law_is_title (fun vs H Q E h => ?_) (fun f cdv A outer s H vs Q E hr h => ?_)
  · obtain ⟨p, x, d, rfl, _⟩ := h
    rfl
  · obtain ⟨p, x, d, rfl, t, q⟩ := h
    refine ⟨_, (pss_cons (ps_if (PW.pt (pw_or (pt_not (pt_val (pe_callB call_isi (by rfl) T.b_isinstance (by decide +kernel) (pa_cons (pv 0) (pa_cons (pe_bltn (v := .ty "str") rfl T.b_str (by decide +kernel) rfl) pa_nil))))) (pw_or (pt_cmpR op_in_seq (pv 0) (pe_lst (pa_cons pe_str (pa_cons pe_str (pa_cons pe_str pa_nil)))) (by rfl)) (pw_or1 (pt_cmpR op_gt (pe_callB call_len_str (by rfl) T.b_len (by decide +kernel) (pa_cons (pv 0) pa_nil)) pe_int (nomark _)))))) (pss_one (ps_ret pe_bl)) pss_nil)
      (pss_one (ps_ret (pe_callB (cr_all rfl) (by rfl) T.b_all (by decide +kernel) (pa_cons (pe_lc (own := [("_law_sign", 1)]) (g := gName 1) (tt := tYes) rfl sc__law_is_title.nd (pi_str (pv 0)) (blkOk_by (N := N__law_is_title) (sc := defScope s__law_is_title) (by decide +kernel)) (fun _ _ _ _ _ => (pg_name (i := 1) sc__law_is_title.nd rfl (Or.inl rfl))) (fun _ _ _ _ _ => pts_nil) (fun _ _ _ _ _ => (pe_cmpR op_in_str (pv 1) pe_str (by rfl)))) pa_nil))))), ?_⟩
    refine ⟨x, rfl, x, .ty "str", _, _, _, rfl, .ty _, t.ty, Gx.kit_D (by simp), _, rfl, ?_⟩
    cases t with
    | str z hz ha =>
      have q : ∀ H', Same H H' → Q (.bl (nameZ z)) H' := q
      refine iteF ⟨_, rfl, by show 3 ≤ sizeLine; decide, fun e ne => ?_⟩
      have s1 := Gx.sameU ne (o := .lst [.str "", .str "not", .str "by"])
      refine ⟨e, _, rfl, .inl (SqL.of upd_same), rfl, rfl, _, rfl, ?_⟩
      show if inV (.str z) ([("" : Str), "not", "by"].map V.str) = true then _ else _
      rw [in_strs]
      cases c : ([("" : Str), "not", "by"].any fun y => decide (z = y)) with
      | true =>
        have e1 := title_out c
        rw [e1] at q
        exact iteT (q _ s1)
      | false =>
        refine iteF ⟨_, rfl, z, rfl, Nat.le_trans hz (by decide), _, _, rfl, rfl, _, rfl, ?_⟩
        show if decide ((8 : Int) < (z.length : Int)) = true then _ else _
        by_cases c2 : 8 < z.length
        · rw [decide_eq_true (show (8 : Int) < (z.length : Int) by omega)]
          have e1 : nameZ z = false := by
            simp only [nameZ, Bool.and_eq_false_iff, decide_eq_false_iff_not]
            right
            left
            omega
          rw [e1] at q
          exact iteT (q _ s1)
        · rw [decide_eq_false (show ¬ (8 : Int) < (z.length : Int) by omega)]
          have e1 := title_in c c2
          rw [e1] at q
          refine iteF ⟨_, rfl, z, rfl, fun D hD => ?_⟩
          refine lc_it walk_str (fun i H' => H' D = some (.lst ((z.cps.toList.take i).map fun c => .bl (isLw c))) ∧ Same H H') ⟨upd_same, s1.trans (Gx.sameU hD)⟩ (fun _ _ _ _ => trivial) (fun i x H1 H2 hi h Y => ?_) fun H1 h => ?_
          · obtain ⟨hl, hk⟩ := h
            obtain ⟨rfl, c, hc, rfl⟩ := Y
            have hc' : z.cps.toList[i]? = some c := by simpa using hc
            refine ⟨rfl, _, rfl, _, _, rfl, rfl, _, hl, ?_, ?_, fun b o e => ?_⟩
            · rw [List.length_map, List.length_take]
              have hi2 : i < z.length := hi
              exact Nat.lt_of_le_of_lt (show _ ≤ 100 by omega) (by decide)
            · rw [upd_same, List.take_add_one, hc', in_alpha c (ha c (List.mem_of_getElem? hc'))]
              simp
            · by_cases cb : b = D
              · subst cb
                have := s1 _ _ e
                rw [hD] at this
                cases this
              · rw [upd_ne cb]
                exact hk b o e
          · obtain ⟨hl, hk⟩ := h
            refine ⟨D, z.cps.toList.map isLw, rfl, SqL.of ?_, ?_⟩
            · rw [hl, List.take_of_length_le (by simp), List.map_map]
              rfl
            · rw [List.all_map]
              exact q _ hk
    | int i => exact iteT (q H (Same.refl H))
    | bl i => exact iteT (q H (Same.refl H))
    | non => exact iteT (q H (Same.refl H))
    | lst => exact iteT (q H (Same.refl H))
    | tup => exact iteT (q H (Same.refl H))
    | nil => exact iteT (q H (Same.refl H))
    | one => exact iteT (q H (Same.refl H))
theorem p__law_is_term (T : Mo K mg) : Gx.Pr P w K mg base CX0 2 "_law_is_term" s__law_is_term ["_law_thing"] (sp1G termD) := by
  refine T.d__law_is_term.ok sc__law_is_term (fun vs H Q E h => ?_) (fun f cdv A outer s H vs Q E hr h => ?_)
  · obtain ⟨p, x, d, rfl, _⟩ := h
    rfl
  · obtain ⟨p, x, d, rfl, t, q⟩ := h
    refine ⟨_, (pss_cons (ps_if (PW.pt (pw_and (pt_val (pe_callB call_isi (by rfl) T.b_isinstance (by decide +kernel) (pa_cons (pv 0) (pa_cons (pe_bltn (v := .ty "int") rfl T.b_int (by decide +kernel) rfl) pa_nil)))) (pw_and1 (pt_not (pt_val (pe_callB call_isi (by rfl) T.b_isinstance (by decide +kernel) (pa_cons (pv 0) (pa_cons (pe_bltn (v := .ty "bool") rfl T.b_bool (by decide +kernel) rfl) pa_nil)))))))) (pss_one (ps_ret (pe_and (pe_cmpR op_ge (pv 0) pe_int (nomark _)) (pe_one (pe_cmpR op_lt (pv 0) pe_int (nomark _)))))) pss_nil)
      (pss_one (ps_ret (Gx.pe_pos (p__law_is_title T) hr (by decide) (by rfl) b__law_is_title pass0 (pa_cons (pv 0) pa_nil))))), ?_⟩
    refine ⟨x, rfl, x, .ty "int", _, _, _, rfl, .ty _, t.ty, Gx.kit_D (by simp), _, rfl, ?_⟩
    have other : placeD 1024 d = false → (tRet (tCall (sp1G nameD) [] E0 (tCons (tVar 0) tNil))) { nx := fun _ H' => Q .non H', rt := Q } (L2.start N__law_is_term [x]) H := fun e => by
      refine ⟨x, rfl, p, x, d, rfl, t, fun H' s1 => ?_⟩
      have q := q H' s1
      unfold termD at q
      rw [e, Bool.or_false] at q
      exact q
    cases t with
    | int i =>
      refine iteT ⟨_, rfl, .int i, .ty "bool", _, _, _, rfl, .ty _, (Gx.DatN.int (N := fun a => a ≠ p) i ‹_›).ty, Gx.kit_D (by simp), _, rfl, ?_⟩
      refine iteT ⟨_, rfl, _, _, rfl, rfl, _, rfl, ?_⟩
      have q : ∀ H', Same H H' → Q (.bl (decide (0 ≤ i) && decide (i < 1024))) H' := q
      show if decide ((0 : Int) ≤ i) = true then _ else _
      have q := q H (Same.refl H)
      by_cases c : 0 ≤ i
      · rw [decide_eq_true c] at q ⊢
        exact ⟨_, rfl, _, _, rfl, rfl, q⟩
      · rw [decide_eq_false c] at q ⊢
        exact q
    | bl i => exact iteT ⟨_, rfl, .bl i, .ty "bool", _, _, _, rfl, .ty _, (Gx.DatN.bl (N := fun a => a ≠ p) i).ty, Gx.kit_D (by simp), _, rfl, iteF (other rfl)⟩
    | str => exact iteF (other rfl)
    | non => exact iteF (other rfl)
    | lst => exact iteF (other rfl)
    | tup => exact iteF (other rfl)
    | nil => exact iteF (other rfl)
    | one => exact iteF (other rfl)
theorem rowW_any (k : PyData) : (([.str "row", .str "none"] : List PyData).any fun z => PyData.eqv z k) = rowW k := by
  cases k <;> simp [PyData.eqv, rowW, eq_comm, Bool.beq_eq_decide_eq]
theorem signW_any (k : PyData) : (([.str "<", .str "<=", .str "=", .str "!="] : List PyData).any fun z => PyData.eqv z k) = signW k := by
  cases k <;> simp [PyData.eqv, signW, eq_comm, Bool.beq_eq_decide_eq]
theorem in_four (n : Nat) : inV (.int (n : Int)) ([1, 2, 3, 4].map V.int) = (decide (1 ≤ n) && decide (n ≤ 4)) := by
  rw [Bool.eq_iff_iff]
  simp only [inV, List.map_cons, List.map_nil, List.any_cons, List.any_nil, eqV, Bool.or_false, Bool.or_eq_true, beq_iff_eq, Bool.and_eq_true, decide_eq_true_eq]
  omega
def spLL : Sp := fun vs H Q _ => ∃ p x d, vs = [x] ∧ Gx.Dat p H x d ∧ (∀ ds, d = .tuple ds → ∀ e ∈ ds, e.hasDict = false ∧ SeqAt.shaped e = true) ∧ ∀ H', Same H H' → Q (.bl (litD d)) H'
theorem p__law_is_literal (T : Mo K mg) : Gx.Pr P w K mg base CX0 3 "_law_is_literal" s__law_is_literal ["_law_thing"] spLL := by
  refine T.d__law_is_literal.ok sc__law_is_literal (fun vs H Q E h => ?_) (fun f cdv A outer s H vs Q E hr h => ?_)
  · obtain ⟨p, x, d, rfl, _⟩ := h
    rfl
  · obtain ⟨p, x, d, rfl, t, hk, q⟩ := h
    have hu65 : (A.deeper (envOfC "_law_is_literal" (defScope s__law_is_literal) s.heap.objs.size f cdv)).units + 65 < cLine := by
      have := hr.un
      omega
    refine ⟨_, (pss_cons (ps_if (PW.pt (pw_or (pt_not (pt_val (pe_callB call_isi (by rfl) T.b_isinstance (by decide +kernel) (pa_cons (pv 0) (pa_cons (pe_bltn (v := .ty "tuple") rfl T.b_tuple (by decide +kernel) rfl) pa_nil))))) (pw_or1 (pt_cmpR op_ne (pe_callB call_len_seq (by rfl) T.b_len (by decide +kernel) (pa_cons (pv 0) pa_nil)) pe_int (nomark _))))) (pss_one (ps_ret pe_bl)) pss_nil)
      (pss_cons (ps_asg (pv 0) (pg_tup rfl (pgs_cons (pg_name (i := 1) sc__law_is_literal.nd rfl (Or.inl rfl)) (pgs_cons (pg_name (i := 2) sc__law_is_literal.nd rfl (Or.inl rfl)) (pgs_cons (pg_name (i := 3) sc__law_is_literal.nd rfl (Or.inl rfl)) pgs_nil)))))
      (pss_cons (ps_if (pt_cmpR (op_inD hu65) (pv 1) (pe_lst (pa_cons pe_str (pa_cons pe_str pa_nil))) (by rfl)) (pss_cons (ps_if (PW.pt (pw_or (pt_not (pt_val (Gx.pe_pos (p__law_is_title T) hr (by decide) (by rfl) b__law_is_title pass0 (pa_cons (pv 2) pa_nil)))) (pw_or (pt_not (pt_val (pe_callB call_isi (by rfl) T.b_isinstance (by decide +kernel) (pa_cons (pv 3) (pa_cons (pe_bltn (v := .ty "tuple") rfl T.b_tuple (by decide +kernel) rfl) pa_nil))))) (pw_or1 (pt_cmpR op_notIn_seq (pe_callB call_len_seq (by rfl) T.b_len (by decide +kernel) (pa_cons (pv 3) pa_nil)) (pe_lst (pa_cons pe_int (pa_cons pe_int (pa_cons pe_int (pa_cons pe_int pa_nil))))) (by rfl)))))) (pss_one (ps_ret pe_bl)) pss_nil)
      (pss_one (ps_ret (pe_callB (cr_all rfl) (by rfl) T.b_all (by decide +kernel) (pa_cons (pe_lc (own := [("_law_term_here", 4)]) (g := gName 4) (tt := tYes) rfl sc__law_is_literal.nd (pi_tup (pv 3)) (blkOk_by (N := N__law_is_literal) (sc := defScope s__law_is_literal) (by decide +kernel)) (fun _ _ _ _ _ => (pg_name (i := 4) sc__law_is_literal.nd rfl (Or.inl rfl))) (fun _ _ _ _ _ => pts_nil) (fun _ _ _ _ _ => (Gx.pe_pos (p__law_is_term T) hr (by decide) (by rfl) b__law_is_term pass0 (pa_cons (pv 4) pa_nil)))) pa_nil))))) pss_nil)
      (pss_cons (ps_if (PW.pt (pw_or (pt_cmpR (op_notInD hu65) (pv 1) (pe_lst (pa_cons pe_str (pa_cons pe_str (pa_cons pe_str (pa_cons pe_str pa_nil))))) (by rfl)) (pw_or (pt_not (pt_val (Gx.pe_pos (p__law_is_term T) hr (by decide) (by rfl) b__law_is_term pass0 (pa_cons (pv 2) pa_nil)))) (pw_or1 (pt_not (pt_val (Gx.pe_pos (p__law_is_term T) hr (by decide) (by rfl) b__law_is_term pass0 (pa_cons (pv 3) pa_nil)))))))) (pss_one (ps_ret pe_bl)) pss_nil)
      (pss_one (ps_ret (pe_or (pe_callB call_isi (by rfl) T.b_isinstance (by decide +kernel) (pa_cons (pv 2) (pa_cons (pe_bltn (v := .ty "str") rfl T.b_str (by decide +kernel) rfl) pa_nil))) (pe_one (pe_callB call_isi (by rfl) T.b_isinstance (by decide +kernel) (pa_cons (pv 3) (pa_cons (pe_bltn (v := .ty "str") rfl T.b_str (by decide +kernel) rfl) pa_nil))))))))))), ?_⟩
    refine ⟨x, rfl, x, .ty "tuple", _, _, _, rfl, .ty _, t.ty, Gx.kit_D (by simp), _, rfl, ?_⟩
    cases t with
    | @tup a xs ds n h r =>
      refine iteF ?_
      refine ⟨_, rfl, a, xs, rfl, .inr (SqT.of h), rfl, _, rfl, ?_⟩
      by_cases c : ds.length = 3
      · have cx : xs.length = 3 := by rw [r.len, c]
        match ds, xs, r with
        | [k, b, o], [vk, vb, vo], .cons tk (.cons tb (.cons to_ .nil)) =>
        refine iteF ?_
        obtain ⟨hd, sh⟩ := hk _ rfl k (by simp)
        have q : ∀ H', Same H H' → Q (.bl (if rowW k then nameD b && termsD o else signW k && (termD b && (termD o && (strD b || strD o))))) H' := q
        refine ⟨_, rfl, a, [vk, vb, vo], rfl, SqT.of h, rfl, vk, _, rfl, vb, _, rfl, vo, _, rfl, rfl, ?_⟩
        refine ⟨_, rfl, by show 2 ≤ sizeLine; decide, fun e1 n1 => ?_⟩
        have s1 := Gx.sameU n1 (o := .lst [.str "row", .str "none"])
        refine ⟨k, [.str "row", .str "none"], (tk.kp (Gx.Kp.of s1)).dp hd, .lst (SqL.of upd_same) (.cons (.str _) (.cons (.str _) .nil)), sh, by decide +kernel, _, rfl, ?_⟩
        rw [rowW_any]
        cases c1 : rowW k with
        | true =>
          rw [c1] at q
          have q : ∀ H', Same H H' → Q (.bl (nameD b && termsD o)) H' := q
          refine iteT ⟨vb, rfl, p, vb, b, rfl, tb.kp (Gx.Kp.of s1), fun H2 s2 => ⟨_, rfl, ?_⟩⟩
          have s12 := s1.trans s2
          show if (!nameD b) = true then _ else _
          cases c2 : nameD b with
          | false =>
            rw [c2] at q
            exact iteT (iteT (q _ s12))
          | true =>
            rw [c2, Bool.true_and] at q
            refine iteF ⟨vo, rfl, vo, .ty "tuple", _, _, _, rfl, .ty _, (to_.kp (Gx.Kp.of s12)).ty, Gx.kit_D (by simp), _, rfl, ?_⟩
            cases to_ with
            | @tup t us es n2 h2 r2 =>
              have h22 := s12 _ _ h2
              refine iteF ⟨_, rfl, t, us, rfl, .inr (SqT.of h22), by show 4 ≤ sizeLine; decide, fun e2 n3 => ?_⟩
              have s3 := s12.trans (Gx.sameU n3 (o := .lst [.int 1, .int 2, .int 3, .int 4]))
              refine ⟨e2, _, rfl, .inl (SqL.of upd_same), rfl, rfl, _, rfl, ?_⟩
              rw [r2.len]
              show if (!inV (.int ((es.length : Nat) : Int)) ([1, 2, 3, 4].map V.int)) = true then _ else _
              rw [in_four]
              have q : ∀ H', Same H H' → Q (.bl (decide (1 ≤ es.length) && (decide (es.length ≤ 4) && es.all termD))) H' := q
              cases c3 : (decide (1 ≤ es.length) && decide (es.length ≤ 4)) with
              | false =>
                rw [← Bool.and_assoc, c3] at q
                exact iteT (q _ s3)
              | true =>
                rw [← Bool.and_assoc, c3, Bool.true_and] at q
                have l4 : es.length ≤ 4 := by
                  simp only [Bool.and_eq_true, decide_eq_true_eq] at c3
                  exact c3.2
                have h3 := s3 _ _ h2
                refine iteF ⟨_, rfl, t, rfl, ⟨us, SqT.of h3⟩, fun D hD => ?_⟩
                refine lc_it (walk_tup (K := K) (a := t) (xs := us)) (fun i H' => Same H H' ∧ H' D = some (.lst (((es.take i).map termD).map V.bl))) ⟨s3.trans (Gx.sameU hD), upd_same⟩ (fun i H' _ h' => .inl (.inl (h'.1 _ _ h2))) (fun i v H4 H5 hi h' Y => ?_) fun H4 h' => ?_
                · obtain ⟨s4, hl4⟩ := h'
                  obtain ⟨rfl, he⟩ := Y
                  obtain ⟨d, hd, t⟩ := r2.get he
                  refine ⟨rfl, _, rfl, p, v, d, rfl, t.kp (Gx.Kp.of s4), fun H6 s6 => ⟨_, s6 _ _ hl4, ?_, ?_, ?_⟩⟩
                  · rw [List.length_map, List.length_map, List.length_take]
                    exact Nat.lt_of_le_of_lt (show _ ≤ 100 by omega) (by decide)
                  · intro b o e
                    by_cases cb : b = D
                    · subst cb
                      have := s3 _ _ e
                      rw [hD] at this
                      cases this
                    · rw [upd_ne cb]
                      exact s6 _ _ (s4 b o e)
                  · rw [upd_same, List.take_add_one, hd]
                    simp
                · obtain ⟨s4, hl4⟩ := h'
                  refine ⟨D, es.map termD, rfl, SqL.of ?_, ?_⟩
                  · rw [hl4, r2.len, List.take_length]
                  · rw [List.all_map]
                    exact q _ s4
            | int i => exact iteT (iteT (q _ s12))
            | bl i => exact iteT (iteT (q _ s12))
            | non => exact iteT (iteT (q _ s12))
            | lst => exact iteT (iteT (q _ s12))
            | str => exact iteT (iteT (q _ s12))
            | nil => exact iteT (iteT (q _ s12))
            | one => exact iteT (iteT (q _ s12))
        | false =>
          rw [c1] at q
          have q : ∀ H', Same H H' → Q (.bl (signW k && (termD b && (termD o && (strD b || strD o))))) H' := q
          refine iteF ⟨_, rfl, by show 4 ≤ sizeLine; decide, fun e2 n2 => ?_⟩
          have s2 := s1.trans (Gx.sameU n2 (o := .lst [.str "<", .str "<=", .str "=", .str "!="]))
          refine ⟨k, [.str "<", .str "<=", .str "=", .str "!="], (tk.kp (Gx.Kp.of s2)).dp hd, .lst (SqL.of upd_same) (.cons (.str _) (.cons (.str _) (.cons (.str _) (.cons (.str _) .nil)))), sh, by decide +kernel, _, rfl, ?_⟩
          rw [signW_any]
          show if (!signW k) = true then _ else _
          cases c2 : signW k with
          | false =>
            rw [c2] at q
            exact iteT (iteT (q _ s2))
          | true =>
            rw [c2] at q
            refine iteF ⟨vb, rfl, p, vb, b, rfl, tb.kp (Gx.Kp.of s2), fun H3 s3 => ⟨_, rfl, ?_⟩⟩
            have s23 := s2.trans s3
            show if (!termD b) = true then _ else _
            cases c3 : termD b with
            | false =>
              rw [c3] at q
              exact iteT (iteT (q _ s23))
            | true =>
              rw [c3] at q
              refine iteF ⟨vo, rfl, p, vo, o, rfl, to_.kp (Gx.Kp.of s23), fun H4 s4 => ⟨_, rfl, ?_⟩⟩
              have s24 := s23.trans s4
              show if (!termD o) = true then _ else _
              cases c4 : termD o with
              | false =>
                rw [c4] at q
                exact iteT (q _ s24)
              | true =>
                rw [c4] at q
                have q : ∀ H', Same H H' → Q (.bl (strD b || strD o)) H' := q
                refine iteF ⟨vb, rfl, vb, .ty "str", _, _, _, rfl, .ty _, (tb.kp (Gx.Kp.of s24)).ty, Gx.kit_D (by simp), _, rfl, ?_⟩
                rw [strD_isD]
                cases c5 : strD b with
                | true =>
                  rw [c5] at q
                  exact q _ s24
                | false =>
                  rw [c5] at q
                  refine ⟨vo, rfl, vo, .ty "str", _, _, _, rfl, .ty _, (to_.kp (Gx.Kp.of s24)).ty, Gx.kit_D (by simp), ?_⟩
                  rw [strD_isD]
                  exact q _ s24
      · rw [r.len, decide_eq_false (show ¬ V.int (ds.length : Int) = V.int 3 from fun e => c (by injection e; omega))]
        rw [litD_len c] at q
        exact iteT (q H (Same.refl H))
    | int i => exact iteT (q H (Same.refl H))
    | bl i => exact iteT (q H (Same.refl H))
    | non => exact iteT (q H (Same.refl H))
    | lst => exact iteT (q H (Same.refl H))
    | str => exact iteT (q H (Same.refl H))
    | nil => exact iteT (q H (Same.refl H))
    | one => exact iteT (q H (Same.refl H))
end
end My
namespace My
open PySem PySem.Spec PyProof.Rows L2
section
variable {P : Program} {w : World} {K : PySem.W.Frag} {mg : Str → Option Value} {base : Heap}
def spFO : Sp := fun vs H Q _ => ∃ p a xs ds, vs = [.ref a] ∧ (H a = some (.lst xs) ∨ H a = some (.tup xs)) ∧ Gx.DatL p H xs ds ∧ ds.length ≤ 20 ∧ (∀ d ∈ ds, litD d = true) ∧ ∀ t H', Same H H' → H t = none → H' t = some (.lst ((varsD ds).map V.str)) → Q (.ref t) H'
theorem p__law_first_order (T : Mo K mg) : Gx.Pr P w K mg base CX0 1 "_law_first_order" s__law_first_order ["_law_parts"] spFO := by
  refine T.d__law_first_order.ok sc__law_first_order (fun vs H Q E h => ?_) (fun f cdv A outer s H vs Q E hr h => ?_)
  · obtain ⟨p, a, xs, ds, rfl, _⟩ := h
    rfl
  · obtain ⟨p, a, xs, ds, rfl, hs, r, hn, good, q⟩ := h
    refine ⟨_, (pss_cons (ps_set (i := 1) sc__law_first_order.nd rfl (Or.inl rfl) (pe_lst pa_nil))
      (pss_cons (ps_for PassesOwn.never rfl (Gx.pi_seq (pv 0)) (pg_tup rfl (pgs_cons (pg_name (i := 2) sc__law_first_order.nd rfl (Or.inl rfl)) (pgs_cons (pg_name (i := 3) sc__law_first_order.nd rfl (Or.inl rfl)) (pgs_cons (pg_name (i := 4) sc__law_first_order.nd rfl (Or.inl rfl)) pgs_nil)))) (pss_one (ps_for PassesOwn.never rfl (pi_list (pe_ifExp (pt_cmpR op_in_seq (pv 2) (pe_lst (pa_cons pe_str (pa_cons pe_str pa_nil))) (by rfl)) (pe_callTy call_list_of (by rfl) T.b_list (by decide +kernel) (pa_cons (pv 4) pa_nil)) (pe_lst (pa_cons (pv 3) (pa_cons (pv 4) pa_nil))))) (pg_name (i := 5) sc__law_first_order.nd rfl (Or.inl rfl)) (pss_one (ps_if (PW.pt (pw_and (pt_val (pe_callB call_isi (by rfl) T.b_isinstance (by decide +kernel) (pa_cons (pv 5) (pa_cons (pe_bltn (v := .ty "str") rfl T.b_str (by decide +kernel) rfl) pa_nil)))) (pw_and1 (pt_cmpR op_notIn_seq (pv 5) (pv 1) (by rfl))))) (pss_one (ps_expr (pe_bm PySem.F.plainAttrs_list PySem.F.slot_list_append PySem.F.type_list_append mt_append (pv 1) (pa_cons (pv 5) pa_nil)))) pss_nil)))))
      (pss_one (ps_ret (pv 1))))), ?_⟩
    refine ⟨by show 0 ≤ sizeLine; decide, fun D hD => ?_⟩
    have s0 : Same H (L2.upd H D (.lst [])) := Gx.sameU hD
    have ne : a ≠ D := fun e => by
      rw [e, hD] at hs
      rcases hs with e | e <;> cases e
    have hs1 : SqL K (L2.upd H D (.lst [])) a xs ∨ SqT K (L2.upd H D (.lst [])) a xs := by
      rcases hs with e | e
      · exact .inl (SqL.of (s0 _ _ e))
      · exact .inr (SqT.of (s0 _ _ e))
    refine ⟨_, rfl, a, xs, rfl, hs1, fun J hJ => ?_⟩
    obtain ⟨G, wk, mono⟩ := wk_upd hJ ne
    refine for_it wk (fun i σ H' => Same H H' ∧ H' D = some (.lst ((varsD (ds.take i)).map V.str)) ∧ ∃ l t u v, σ = [some (.ref a), some (.ref D), l, t, u, v]) ⟨s0, upd_same, _, _, _, _, rfl⟩ (fun i σ H' _ h => mono H' h.1) (fun i v σ H1 H2 hi h Y => ?_) fun σ H1 h => ?_
    · obtain ⟨s1, hD1, l, t, u, v', rfl⟩ := h
      obtain ⟨rfl, hv⟩ := Y
      obtain ⟨d, hd, tv⟩ := r.get hv
      have gd := good d (List.mem_of_getElem? hd)
      obtain ⟨k, b, o, rfl, hk, l4, tms, r1, r2⟩ := lit_inv gd
      have vl := vars_len (ds := ds.take i) fun e he => good e (List.mem_of_mem_take he)
      cases tv with
      | @tup a2 ys _ n2 h2 rr =>
        match ys, rr with
        | [vk, vb, vo], .cons tk (.cons tb (.cons to_ .nil)) =>
        cases tk with
        | str z hz ha =>
          refine ⟨a2, _, rfl, SqT.of (s1 _ _ h2), rfl, _, _, rfl, _, _, rfl, _, _, rfl, rfl, ?_⟩
          refine ⟨_, rfl, by show 2 ≤ sizeLine; decide, fun e1 n1 => ?_⟩
          have s12 := Gx.sameU n1 (o := .lst [.str "row", .str "none"])
          refine ⟨e1, _, rfl, .inl (SqL.of upd_same), rfl, rfl, _, rfl, ?_⟩
          show if inV (.str z) ([("row" : Str), "none"].map V.str) = true then _ else _
          have e1' : rowW (.str z) = inV (.str z) ([("row" : Str), "none"].map V.str) := by
            rw [in_strs]
            simp [rowW]
          rw [← e1']
          cases c1 : rowW (.str z) with
          | true =>
            obtain ⟨es, rfl, e2⟩ := r1 c1
            cases to_ with
            | @tup t2 us _ n3 h3 rr3 =>
              have ht := s12 _ _ (s1 _ _ h3)
              refine iteT ⟨_, rfl, t2, us, rfl, .inr (SqT.of ht), fun q1 hq1 => ⟨q1, rfl, ⟨_, SqL.of upd_same⟩, ?_⟩⟩
              have s3 := s12.trans (Gx.sameU hq1 (o := .lst us))
              have r3 : Gx.DatL p H us (termsOf (.tuple [.str z, b, .tuple es])) := by
                rw [e2]
                exact rr3
              have hD3 := s3 _ _ hD1
              have neD : q1 ≠ D := fun e => by
                rw [e, s12 _ _ hD1] at hq1
                cases hq1
              refine for_it (walk_list (K := K) (a := q1) (xs := us)) (fun j σ H' => Same H H' ∧ H' q1 = some (.lst us) ∧ H' D = some (.lst ((foS (varsD (ds.take i)) ((termsOf (.tuple [.str z, b, .tuple es])).take j)).map V.str)) ∧ ∃ u, σ = [some (.ref a), some (.ref D), some (.str z), some vb, some (.ref t2), u]) ⟨s1.trans s3, upd_same, hD3, _, rfl⟩ (fun j σ H' _ h => SqL.of h.2.1) (fun j y σ H4 H5 hj h Y => ?_) fun σ H4 h => ?_
              · obtain ⟨s4, h4, hD4, u, rfl⟩ := h
                obtain ⟨rfl, hy⟩ := Y
                obtain ⟨e, he, te⟩ := r3.get hy
                have ge := tms e (List.mem_of_getElem? he)
                have ft := foS_take (varsD (ds.take i)) he
                have bl : (foS (varsD (ds.take i)) ((termsOf (.tuple [.str z, b, .tuple es])).take j)).length < sizeLine := by
                  have := foS_len ((termsOf (.tuple [.str z, b, .tuple es])).take j) (varsD (ds.take i))
                  rw [List.length_take] at *
                  exact Nat.lt_of_le_of_lt (show _ ≤ 100 by omega) (by decide)
                cases te with
                | str z2 hz2 ha2 =>
                  refine ⟨_, rfl, .str z2, .ty "str", _, _, _, rfl, .ty _, (Gx.DatN.str (N := fun a => a ≠ p) z2 hz2 ha2).ty, Gx.kit_D (by simp), _, rfl, ?_⟩
                  refine ⟨_, rfl, _, rfl, D, _, rfl, .inl (SqL.of hD4), rfl, flat_strs _, _, rfl, ?_⟩
                  show if (!inV (.str z2) ((foS (varsD (ds.take i)) ((termsOf (.tuple [.str z, b, .tuple es])).take j)).map V.str)) = true then _ else _
                  rw [in_strs]
                  by_cases c : z2 ∈ foS (varsD (ds.take i)) ((termsOf (.tuple [.str z, b, .tuple es])).take j)
                  · rw [show ((foS (varsD (ds.take i)) ((termsOf (.tuple [.str z, b, .tuple es])).take j)).any fun y => decide (z2 = y)) = true from List.any_eq_true.mpr ⟨z2, c, by simp⟩]
                    refine iteF ⟨s4, h4, ?_, _, rfl⟩
                    rw [hD4, ft]
                    simp [addS, c]
                  · rw [show ((foS (varsD (ds.take i)) ((termsOf (.tuple [.str z, b, .tuple es])).take j)).any fun y => decide (z2 = y)) = false from List.any_eq_false.mpr fun y hy => by
                      simp only [decide_eq_true_eq]
                      exact fun e => c (e ▸ hy)]
                    refine iteT ⟨_, rfl, .inl ⟨rfl, _, SqL.of hD4⟩, _, rfl, D, _, _, rfl, rfl, hD4, by rw [List.length_map]; exact bl, ?_⟩
                    refine ⟨fun b o e => ?_, ?_, ?_, _, rfl⟩
                    · rw [upd_ne (ne_of_none e hD)]
                      exact s4 b o e
                    · rw [upd_ne neD]
                      exact h4
                    · rw [upd_same, ft]
                      simp [addS, c]
                | int n hn =>
                  refine ⟨_, rfl, .int n, .ty "str", _, _, _, rfl, .ty _, (Gx.DatN.int (N := fun a => a ≠ p) n hn).ty, Gx.kit_D (by simp), _, rfl, ?_⟩
                  refine iteF (iteF ⟨s4, h4, ?_, _, rfl⟩)
                  rw [hD4, ft]
                  rfl
                | _ => cases ge
              · obtain ⟨s4, h4, hD4, u, rfl⟩ := h
                refine ⟨s4, ?_, _, _, _, _, rfl⟩
                rw [hD4, vars_take hd, r3.len, List.take_length]
          | false =>
              refine iteF ⟨_, rfl, _, rfl, by show 2 ≤ sizeLine; decide, fun q1 hq1 => ⟨q1, rfl, ⟨_, SqL.of upd_same⟩, ?_⟩⟩
              have s3 := s12.trans (Gx.sameU hq1 (o := .lst [vb, vo]))
              obtain ⟨us, hus⟩ : ∃ us, us = [vb, vo] := ⟨_, rfl⟩
              rw [← hus] at s3 ⊢
              have r3 : Gx.DatL p H us (termsOf (.tuple [.str z, b, o])) := by
                rw [r2 c1, hus]
                exact .cons tb (.cons to_ .nil)
              have hD3 := s3 _ _ hD1
              have neD : q1 ≠ D := fun e => by
                rw [e, s12 _ _ hD1] at hq1
                cases hq1
              refine for_it (walk_list (K := K) (a := q1) (xs := us)) (fun j σ H' => Same H H' ∧ H' q1 = some (.lst us) ∧ H' D = some (.lst ((foS (varsD (ds.take i)) ((termsOf (.tuple [.str z, b, o])).take j)).map V.str)) ∧ ∃ u, σ = [some (.ref a), some (.ref D), some (.str z), some vb, some vo, u]) ⟨s1.trans s3, upd_same, hD3, _, rfl⟩ (fun j σ H' _ h => SqL.of h.2.1) (fun j y σ H4 H5 hj h Y => ?_) fun σ H4 h => ?_
              · obtain ⟨s4, h4, hD4, u, rfl⟩ := h
                obtain ⟨rfl, hy⟩ := Y
                obtain ⟨e, he, te⟩ := r3.get hy
                have ge := tms e (List.mem_of_getElem? he)
                have ft := foS_take (varsD (ds.take i)) he
                have bl : (foS (varsD (ds.take i)) ((termsOf (.tuple [.str z, b, o])).take j)).length < sizeLine := by
                  have := foS_len ((termsOf (.tuple [.str z, b, o])).take j) (varsD (ds.take i))
                  rw [List.length_take] at *
                  exact Nat.lt_of_le_of_lt (show _ ≤ 100 by omega) (by decide)
                cases te with
                | str z2 hz2 ha2 =>
                  refine ⟨_, rfl, .str z2, .ty "str", _, _, _, rfl, .ty _, (Gx.DatN.str (N := fun a => a ≠ p) z2 hz2 ha2).ty, Gx.kit_D (by simp), _, rfl, ?_⟩
                  refine ⟨_, rfl, _, rfl, D, _, rfl, .inl (SqL.of hD4), rfl, flat_strs _, _, rfl, ?_⟩
                  show if (!inV (.str z2) ((foS (varsD (ds.take i)) ((termsOf (.tuple [.str z, b, o])).take j)).map V.str)) = true then _ else _
                  rw [in_strs]
                  by_cases c : z2 ∈ foS (varsD (ds.take i)) ((termsOf (.tuple [.str z, b, o])).take j)
                  · rw [show ((foS (varsD (ds.take i)) ((termsOf (.tuple [.str z, b, o])).take j)).any fun y => decide (z2 = y)) = true from List.any_eq_true.mpr ⟨z2, c, by simp⟩]
                    refine iteF ⟨s4, h4, ?_, _, rfl⟩
                    rw [hD4, ft]
                    simp [addS, c]
                  · rw [show ((foS (varsD (ds.take i)) ((termsOf (.tuple [.str z, b, o])).take j)).any fun y => decide (z2 = y)) = false from List.any_eq_false.mpr fun y hy => by
                      simp only [decide_eq_true_eq]
                      exact fun e => c (e ▸ hy)]
                    refine iteT ⟨_, rfl, .inl ⟨rfl, _, SqL.of hD4⟩, _, rfl, D, _, _, rfl, rfl, hD4, by rw [List.length_map]; exact bl, ?_⟩
                    refine ⟨fun b o e => ?_, ?_, ?_, _, rfl⟩
                    · rw [upd_ne (ne_of_none e hD)]
                      exact s4 b o e
                    · rw [upd_ne neD]
                      exact h4
                    · rw [upd_same, ft]
                      simp [addS, c]
                | int n hn =>
                  refine ⟨_, rfl, .int n, .ty "str", _, _, _, rfl, .ty _, (Gx.DatN.int (N := fun a => a ≠ p) n hn).ty, Gx.kit_D (by simp), _, rfl, ?_⟩
                  refine iteF (iteF ⟨s4, h4, ?_, _, rfl⟩)
                  rw [hD4, ft]
                  rfl
                | _ => cases ge
              · obtain ⟨s4, h4, hD4, u, rfl⟩ := h
                refine ⟨s4, ?_, _, _, _, _, rfl⟩
                rw [hD4, vars_take hd, r3.len, List.take_length]
        | _ => cases hk
    · obtain ⟨s1, hD1, l, t, u, v', rfl⟩ := h
      rw [r.len, List.take_length] at hD1
      exact ⟨_, rfl, q D _ s1 hD hD1⟩
end
end My
namespace My
open PySem PySem.Spec PyProof.Rows L2
theorem isS_any (ds : List PyData) (z : Str) : (ds.any fun e => PyData.eqv e (.str z)) = ds.any (isS z) := by
  congr 1
  funext e
  cases e <;> simp [PyData.eqv, isS, Bool.beq_eq_decide_eq]
theorem in_eight (n : Nat) : inV (.int (n : Int)) ([1, 2, 3, 4, 5, 6, 7, 8].map V.int) = !decide (n = 0 ∨ 8 < n) := by
  rw [Bool.eq_iff_iff]
  simp only [inV, List.map_cons, List.map_nil, List.any_cons, List.any_nil, eqV, Bool.or_false, Bool.or_eq_true, beq_iff_eq, Bool.not_eq_true', decide_eq_false_iff_not]
  omega
def IsProbL (H : Hp) (v : V) : Option (Str × Int) → Prop
  | none => v = .non
  | some (z, i) => ∃ t, v = .ref t ∧ H t = some (.lst [.str z, .int i])
/-- items without dicts that can be compared -/
def okIt (d : PyData) : Prop := ∀ es, d = .tuple es → ∀ e ∈ es, e.hasDict = false ∧ SeqAt.shaped e = true
section
variable {P : Program} {w : World} {K : PySem.W.Frag} {mg : Str → Option Value} {base : Heap}
def spLP : Sp := fun vs H Q _ => ∃ p x y dx dy, vs = [x, y] ∧ Gx.Dat p H x dx ∧ Gx.Dat p H y dy ∧ (∀ ds, itemsD dx = some ds → ∀ d ∈ ds, okIt d) ∧ (∀ ds, dy = .tuple ds → (PyData.tuple ds).hasDict = false ∧ SeqAt.shaped (.tuple ds) = true) ∧
  ∀ v H', Same H H' → IsProbL H' v (probD dx dy) → Q v H'
theorem p__law_problem (T : Mo K mg) : Gx.Pr P w K mg base CX0 4 "_law_problem" s__law_problem ["_law_thing", "_law_lane"] spLP := by
  refine T.d__law_problem.ok sc__law_problem (fun vs H Q E h => ?_) (fun f cdv A outer s H vs Q E hr h => ?_)
  · obtain ⟨p, x, y, dx, dy, rfl, _⟩ := h
    rfl
  · obtain ⟨p, x, y, dx, dy, rfl, tx, ty, hl, hy, q⟩ := h
    have hu65 : (A.deeper (envOfC "_law_problem" (defScope s__law_problem) s.heap.objs.size f cdv)).units + 65 < cLine := by
      have := hr.un
      omega
    refine ⟨_, (pss_cons (ps_if (PW.pt (pw_or (pt_not (pt_val (pe_callB call_isiT (by rfl) T.b_isinstance (by decide +kernel) (pa_cons (pv 0) (pa_cons (pe_tup (pa_cons (pe_bltn (v := .ty "list") rfl T.b_list (by decide +kernel) rfl) (pa_cons (pe_bltn (v := .ty "tuple") rfl T.b_tuple (by decide +kernel) rfl) pa_nil))) pa_nil))))) (pw_or1 (pt_cmpR op_notIn_seq (pe_callB call_len_seq (by rfl) T.b_len (by decide +kernel) (pa_cons (pv 0) pa_nil)) (pe_lst (pa_cons pe_int (pa_cons pe_int (pa_cons pe_int (pa_cons pe_int (pa_cons pe_int (pa_cons pe_int (pa_cons pe_int (pa_cons pe_int pa_nil))))))))) (by rfl))))) (pss_one (ps_ret (pe_lst (pa_cons pe_str (pa_cons (pe_un un_neg pe_int) pa_nil))))) pss_nil)
      (pss_cons (ps_for PassesOwn.never rfl (Gx.pi_enumS (by rfl) T.b_enumerate (pa_cons (pv 0) pa_nil)) (pg_tup rfl (pgs_cons (pg_name (i := 2) sc__law_problem.nd rfl (Or.inl rfl)) (pgs_cons (pg_name (i := 3) sc__law_problem.nd rfl (Or.inl rfl)) pgs_nil))) (pss_one (ps_if (pt_not (pt_val (Gx.pe_pos (p__law_is_literal T) hr (by decide) (by rfl) b__law_is_literal pass0 (pa_cons (pv 3) pa_nil)))) (pss_one (ps_ret (pe_lst (pa_cons pe_str (pa_cons (pv 2) pa_nil))))) pss_nil)))
      (pss_cons (ps_set (i := 4) sc__law_problem.nd rfl (Or.inl rfl) (Gx.pe_pos (p__law_first_order T) hr (by decide) (by rfl) b__law_first_order pass0 (pa_cons (pv 0) pa_nil)))
      (pss_cons (ps_if (pt_cmpR op_gt (pe_callB call_len_seq (by rfl) T.b_len (by decide +kernel) (pa_cons (pv 4) pa_nil)) pe_int (nomark _)) (pss_one (ps_ret (pe_lst (pa_cons pe_str (pa_cons (pe_un un_neg pe_int) pa_nil))))) pss_nil)
      (pss_cons (ps_if (pt_cmpR op_isN (pv 1) pe_non (nomark _)) (pss_one (ps_ret pe_non)) pss_nil)
      (pss_cons (ps_set (i := 5) sc__law_problem.nd rfl (Or.inl rfl) (pe_and (pe_callB call_isi (by rfl) T.b_isinstance (by decide +kernel) (pa_cons (pv 1) (pa_cons (pe_bltn (v := .ty "tuple") rfl T.b_tuple (by decide +kernel) rfl) pa_nil))) (pe_and (pe_cmpR op_eq (pe_callB call_len_seq (by rfl) T.b_len (by decide +kernel) (pa_cons (pv 1) pa_nil)) (pe_callB call_len_seq (by rfl) T.b_len (by decide +kernel) (pa_cons (pv 4) pa_nil)) (nomark _)) (pe_one (pe_callB (cr_all rfl) (by rfl) T.b_all (by decide +kernel) (pa_cons (pe_lc (own := [("_law_name", 6)]) (g := gName 6) (tt := tYes) rfl sc__law_problem.nd (pi_list (pv 4)) (blkOk_by (N := N__law_problem) (sc := defScope s__law_problem) (by decide +kernel)) (fun _ _ _ _ _ => (pg_name (i := 6) sc__law_problem.nd rfl (Or.inl rfl))) (fun _ _ _ _ _ => pts_nil) (fun _ _ _ _ _ => (pe_cmpR (Gx.op_inDT (K := K) rfl hu65) (pv 6) (pv 1) (by rfl)))) pa_nil))))))
      (pss_one (ps_ret (pe_ifExp (pt_val (pv 5)) pe_non (pe_lst (pa_cons pe_str (pa_cons (pe_un un_neg pe_int) pa_nil)))))))))))), ?_⟩
    have give : ∀ (z : Str) (i : Int), probD dx dy = some (z, i) → ∀ H1, Same H H1 → ∀ t, H1 t = none → Q (.ref t) (L2.upd H1 t (.lst [.str z, .int i])) := fun z i e H1 s1 t ht => q _ _ (s1.trans (Gx.sameU ht)) (by
      rw [e]
      exact ⟨t, rfl, upd_same⟩)
    refine ⟨x, rfl, by show 2 ≤ sizeLine; decide, fun e0 n0 => ?_⟩
    have s1 := Gx.sameU n0 (o := .tup [.ty "list", .ty "tuple"])
    refine ⟨x, e0, _, _, _, _, rfl, upd_same, .cons (.ty _) (.cons (.ty _) .nil), (tx.kp (Gx.Kp.of s1)).ty, Gx.kit_D2 (by simp) (by simp), _, rfl, ?_⟩
    rcases dat_items tx with ⟨e1, e2⟩ | ⟨a, xs, ds, rfl, hs, r, e1, e2⟩
    · rw [e2]
      exact iteT (iteT ⟨_, rfl, by show 2 ≤ sizeLine; decide, fun t nt => give "literals" (-1) (by simp [probD, e1]) _ s1 t nt⟩)
    · rw [e2]
      refine iteF ?_
      have hs1 : SqL K (L2.upd H e0 (.tup [.ty "list", .ty "tuple"])) a xs ∨ SqT K (L2.upd H e0 (.tup [.ty "list", .ty "tuple"])) a xs := hs.elim (fun e => .inl (SqL.of (s1 _ _ e))) fun e => .inr (SqT.of (s1 _ _ e))
      refine ⟨_, rfl, a, xs, rfl, hs1, by show 8 ≤ sizeLine; decide, fun e3 n3 => ?_⟩
      have s2 := s1.trans (Gx.sameU n3 (o := .lst [.int 1, .int 2, .int 3, .int 4, .int 5, .int 6, .int 7, .int 8]))
      refine ⟨e3, _, rfl, .inl (SqL.of upd_same), rfl, rfl, _, rfl, ?_⟩
      rw [r.len]
      show if (!inV (.int ((ds.length : Nat) : Int)) ([1, 2, 3, 4, 5, 6, 7, 8].map V.int)) = true then _ else _
      rw [in_eight, Bool.not_not]
      by_cases c1 : ds.length = 0 ∨ 8 < ds.length
      · rw [decide_eq_true c1]
        exact iteT ⟨_, rfl, by show 2 ≤ sizeLine; decide, fun t nt => give "literals" (-1) (by simp only [probD, e1]; rw [if_pos c1]) _ s2 t nt⟩
      · rw [decide_eq_false c1]
        refine iteF ?_
        have pe : probD dx dy = match badD ds with
            | some i => some (("literal" : Str), (i : Int))
            | none => if 5 < (varsD ds).length then some ("variables", -1) else if nonD dy || orderD dy (varsD ds) then none else some ("order", -1) := by
          simp only [probD, e1]
          rw [if_neg c1]
          all_goals rfl
        have hs2 : SqL K (L2.upd (L2.upd H e0 (.tup [.ty "list", .ty "tuple"])) e3 (.lst [.int 1, .int 2, .int 3, .int 4, .int 5, .int 6, .int 7, .int 8])) a xs ∨ SqT K (L2.upd (L2.upd H e0 (.tup [.ty "list", .ty "tuple"])) e3 (.lst [.int 1, .int 2, .int 3, .int 4, .int 5, .int 6, .int 7, .int 8])) a xs :=
          hs.elim (fun e => .inl (SqL.of (s2 _ _ e))) fun e => .inr (SqT.of (s2 _ _ e))
        refine ⟨_, rfl, a, xs, rfl, hs2, fun J hJ => ?_⟩
        obtain ⟨G, wk, _, mono⟩ := hJ.walk
        refine for_it wk (fun i σ H' => Same (L2.upd (L2.upd H e0 (.tup [.ty "list", .ty "tuple"])) e3 (.lst [.int 1, .int 2, .int 3, .int 4, .int 5, .int 6, .int 7, .int 8])) H' ∧ (∀ j d, j < i → ds[j]? = some d → litD d = true) ∧ ∃ t2 t3, σ = [some (.ref a), some y, t2, t3, none, none, none]) ⟨Same.refl _, fun j d hj => absurd hj (by omega), _, _, rfl⟩ (fun i σ H' _ h => mono H' h.1) (fun i v σ H2 H3 hi h Y => ?_) fun σ H2 h => ?_
        · obtain ⟨s3, ok, t2, t3, rfl⟩ := h
          obtain ⟨t, v1, v2, rfl, nt, rfl, e4, e5⟩ := Y
          cases e4
          have s4 := (s2.trans s3).trans (Gx.sameU nt (o := .tup [.int (i : Nat), v2]))
          have s34 := s3.trans (Gx.sameU nt (o := .tup [.int (i : Nat), v2]))
          obtain ⟨d, hd, tv⟩ := r.get e5
          refine ⟨t, _, rfl, SqT.of upd_same, rfl, _, _, rfl, _, _, rfl, rfl, ?_⟩
          refine ⟨_, rfl, p, v2, d, rfl, tv.kp (Gx.Kp.of s4), hl ds e1 d (List.mem_of_getElem? hd), fun H4 s5 => ⟨_, rfl, ?_⟩⟩
          show if (!litD d) = true then _ else _
          cases c3 : litD d with
          | false =>
            have eb : badD ds = some i := by
              have hi' : i < ds.length := by rw [← r.len]; exact hi
              refine List.findIdx?_eq_some_iff_getElem.mpr ⟨hi', ?_, fun j hj => ?_⟩
              · rw [List.getElem?_eq_getElem hi'] at hd
                rw [Option.some.inj hd, c3]
                rfl
              · rw [ok j _ hj (List.getElem?_eq_getElem (by omega))]
                simp
            rw [eb] at pe
            exact iteT ⟨_, rfl, by show 2 ≤ sizeLine; decide, fun t nt => give "literal" i pe _ (s4.trans s5) t nt⟩
          | true =>
            refine iteF ⟨s34.trans s5, fun j e hj he => ?_, _, _, rfl⟩
            by_cases cj : j = i
            · rw [cj, hd] at he
              rw [← Option.some.inj he]
              exact c3
            · exact ok j e (by omega) he
        · obtain ⟨s3, ok, t2, t3, rfl⟩ := h
          have good : ∀ d ∈ ds, litD d = true := fun d hd => by
            obtain ⟨j, hj, rfl⟩ := List.mem_iff_getElem.mp hd
            exact ok j _ (by rw [r.len]; exact hj) (List.getElem?_eq_getElem hj)
          have eb : badD ds = none := List.findIdx?_eq_none_iff.mpr fun d hd => by rw [good d hd]; rfl
          rw [eb] at pe
          have s4 := s2.trans s3
          have hs4 : H2 a = some (.lst xs) ∨ H2 a = some (.tup xs) := hs.elim (fun e => .inl (s4 _ _ e)) fun e => .inr (s4 _ _ e)
          refine ⟨_, rfl, p, a, xs, ds, rfl, hs4, r.kp (Gx.Kp.of s4), by omega, good, fun t H3 s5 nt hv => ?_⟩
          refine ⟨_, rfl, t, _, rfl, .inl (SqL.of hv), _, _, rfl, rfl, _, rfl, ?_⟩
          rw [List.length_map]
          show if decide ((5 : Int) < ((varsD ds).length : Int)) = true then _ else _
          have s6 := s4.trans s5
          by_cases c5 : 5 < (varsD ds).length
          · rw [decide_eq_true (show (5 : Int) < ((varsD ds).length : Int) by omega)]
            rw [if_pos c5] at pe
            exact iteT ⟨_, rfl, by show 2 ≤ sizeLine; decide, fun t nt => give "variables" (-1) pe _ s6 t nt⟩
          · rw [decide_eq_false (show ¬ (5 : Int) < ((varsD ds).length : Int) by omega)]
            rw [if_neg c5] at pe
            refine iteF ⟨_, rfl, rfl, _, rfl, ?_⟩
            show if decide (y = V.non) = true then _ else _
            have en : decide (y = V.non) = nonD dy := by
              cases ty <;> rfl
            rw [en]
            cases c6 : nonD dy with
            | true =>
              rw [c6] at pe
              exact iteT (q _ _ s6 (by rw [pe]; rfl))
            | false =>
              rw [c6, Bool.false_or] at pe
              refine iteF ⟨y, rfl, y, .ty "tuple", _, _, _, rfl, .ty _, (ty.kp (Gx.Kp.of s6)).ty, Gx.kit_D (by simp), _, rfl, ?_⟩
              have other : orderD dy (varsD ds) = false → ∀ H4, Same H H4 → ∀ t, H4 t = none → Q (.ref t) (L2.upd H4 t (.lst [.str "order", .int (-1)])) := fun e => give "order" (-1) (by rw [pe, e]; rfl)
              cases ty with
              | @tup b us es n2 h2 r2 =>
                have h26 := s6 _ _ h2
                refine iteT ⟨_, rfl, b, us, rfl, .inr (SqT.of h26), _, rfl, t, _, rfl, .inl (SqL.of hv), rfl, _, rfl, ?_⟩
                rw [r2.len, List.length_map]
                have eo : orderD (.tuple es) (varsD ds) = (decide (es.length = (varsD ds).length) && (varsD ds).all fun z => es.any (isS z)) := rfl
                by_cases cl : es.length = (varsD ds).length
                · rw [decide_eq_true (show V.int (es.length : Nat) = V.int ((varsD ds).length : Nat) by rw [cl])]
                  rw [decide_eq_true cl, Bool.true_and] at eo
                  refine iteT ⟨_, rfl, t, rfl, ⟨_, SqL.of hv⟩, fun D hD => ?_⟩
                  refine lc_it (walk_list (K := K) (a := t) (xs := (varsD ds).map V.str)) (fun i H' => Same H3 H' ∧ H' D = some (.lst ((((varsD ds).take i).map fun z => es.any (isS z)).map V.bl))) ⟨Gx.sameU hD, upd_same⟩ (fun i H' _ h' => .inl (.inl (h'.1 _ _ hv))) (fun i v H4 H5 hi h' Y => ?_) fun H4 h' => ?_
                  · obtain ⟨s7, hl7⟩ := h'
                    obtain ⟨rfl, he⟩ := Y
                    rw [List.getElem?_map] at he
                    obtain ⟨z, hz, rfl⟩ := Option.map_eq_some_iff.mp he
                    have oz := vars_ok good z (List.mem_of_getElem? hz)
                    have k7 := Gx.Kp.of (p := p) (s6.trans s7)
                    refine ⟨rfl, _, rfl, _, rfl, .str z, es, .str z, ((show Gx.Dat p _ _ _ from .tup n2 h2 r2).kp k7).dp (hy es rfl).1, ?_, (hy es rfl).2, _, hl7, ?_, ?_, ?_⟩
                    · unfold SeqAt.shaped
                      simp only [PyData.canLay0, PyData.depth, oz.ok]
                      rfl
                    · rw [List.length_map, List.length_map, List.length_take]
                      exact Nat.lt_of_le_of_lt (show _ ≤ 100 by omega) (by decide)
                    · intro b o e
                      by_cases cb : b = D
                      · subst cb
                        rw [hD] at e
                        cases e
                      · rw [upd_ne cb]
                        exact s7 b o e
                    · rw [upd_same, List.take_add_one, hz, isS_any]
                      simp
                  · obtain ⟨s7, hl7⟩ := h'
                    refine ⟨D, (varsD ds).map fun z => es.any (isS z), rfl, SqL.of ?_, ?_⟩
                    · rw [hl7, List.length_map, List.take_length]
                    · rw [List.all_map]
                      have s8 := s6.trans s7
                      show gName 5 (.bl ((varsD ds).all fun z => es.any (isS z))) _ _ _
                      rw [← eo]
                      cases cg : orderD (.tuple es) (varsD ds) with
                      | true => exact ⟨_, rfl, _, rfl, iteT (q _ _ s8 (by rw [pe, cg]; rfl))⟩
                      | false => exact ⟨_, rfl, _, rfl, iteF ⟨_, rfl, by show 2 ≤ sizeLine; decide, fun t nt => other cg _ s8 t nt⟩⟩
                · rw [decide_eq_false (show ¬ V.int (es.length : Nat) = V.int ((varsD ds).length : Nat) from fun e => cl (by injection e; omega))]
                  rw [decide_eq_false cl, Bool.false_and] at eo
                  exact ⟨_, rfl, _, rfl, iteF ⟨_, rfl, by show 2 ≤ sizeLine; decide, fun t nt => other eo _ s6 t nt⟩⟩
              | non => cases c6
              | int i => exact ⟨_, rfl, _, rfl, iteF ⟨_, rfl, by show 2 ≤ sizeLine; decide, fun t nt => other rfl _ s6 t nt⟩⟩
              | bl i => exact ⟨_, rfl, _, rfl, iteF ⟨_, rfl, by show 2 ≤ sizeLine; decide, fun t nt => other rfl _ s6 t nt⟩⟩
              | lst => exact ⟨_, rfl, _, rfl, iteF ⟨_, rfl, by show 2 ≤ sizeLine; decide, fun t nt => other rfl _ s6 t nt⟩⟩
              | str => exact ⟨_, rfl, _, rfl, iteF ⟨_, rfl, by show 2 ≤ sizeLine; decide, fun t nt => other rfl _ s6 t nt⟩⟩
              | nil => exact ⟨_, rfl, _, rfl, iteF ⟨_, rfl, by show 2 ≤ sizeLine; decide, fun t nt => other rfl _ s6 t nt⟩⟩
              | one => exact ⟨_, rfl, _, rfl, iteF ⟨_, rfl, by show 2 ≤ sizeLine; decide, fun t nt => other rfl _ s6 t nt⟩⟩
end
end My
namespace My
open PySem PySem.Spec PyProof.Rows L2
/-! ### the draws -/
/-- the pot at p: a great number for digits, a seed -/
def Pot (p : Addr) (H : Hp) : Prop := ∃ a b : Int, H p = some (.lst [.int a, .int b]) ∧ 0 ≤ a ∧ 0 ≤ b ∧ b < 2147483629
section
variable {P : Program} {w : World} {K : PySem.W.Frag} {mg : Str → Option Value} {base : Heap}
def spTake : Sp := fun vs H Q _ => ∃ (p : Addr) (m : Int), vs = [.ref p, .int m] ∧ Pot p H ∧ 0 < m ∧ m < 1000000 ∧ ∀ (r : Int) H', 0 ≤ r → r < m → Pot p H' → Gx.Kp p H H' → Q (.int r) H'
theorem p__law_take (T : Mo K mg) : Gx.Pr P w K mg base CX0 1 "_law_take" s__law_take ["_law_pot_here", "_law_many"] spTake := by
  refine T.d__law_take.ok sc__law_take (fun vs H Q E h => ?_) (fun f cdv A outer s H vs Q E hr h => ?_)
  · obtain ⟨p, m, rfl, _⟩ := h
    rfl
  · obtain ⟨p, m, rfl, ⟨a, b, hp, ha, hb, hb2⟩, m0, m1, q⟩ := h
    refine ⟨_, (pss_cons (ps_if (pt_cmpR op_gt (pe_ix ix_list (pv 0) pe_int (fun _ _ => rfl)) pe_int (nomark _)) (pss_cons (ps_set (i := 2) sc__law_take.nd rfl (Or.inl rfl) (pe_op op_mod (pe_callTy call_int1 (by rfl) T.b_int (by decide +kernel) (pa_cons (pe_ix ix_list (pv 0) pe_int (fun _ _ => rfl)) pa_nil)) (pv 1)))
      (pss_cons (ps_asg (pe_op op_fdiv (pe_ix ix_list (pv 0) pe_int (fun _ _ => rfl)) (pv 1)) (pg_sub (pv 0) pe_int set_list))
      (pss_one (ps_ret (pv 2))))) pss_nil)
      (pss_cons (ps_asg (pe_op op_mod (pe_callTy call_int1 (by rfl) T.b_int (by decide +kernel) (pa_cons (pe_op op_add (pe_op op_mul (pe_ix ix_list (pv 0) pe_int (fun _ _ => rfl)) pe_int) pe_int) pa_nil)) pe_int) (pg_sub (pv 0) pe_int set_list))
      (pss_one (ps_ret (pe_op op_mod (pe_callTy call_int1 (by rfl) T.b_int (by decide +kernel) (pa_cons (pe_op op_fdiv (pe_op op_mod (pe_callTy call_int1 (by rfl) T.b_int (by decide +kernel) (pa_cons (pe_op op_mul (pe_ix ix_list (pv 0) pe_int (fun _ _ => rfl)) (pe_ix ix_list (pv 0) pe_int (fun _ _ => rfl))) pa_nil)) pe_int) pe_int) pa_nil)) (pv 1)))))), ?_⟩
    refine ⟨_, rfl, p, _, 0, _, rfl, rfl, SqL.of hp, rfl, _, _, rfl, rfl, _, rfl, ?_⟩
    by_cases c : 0 < a
    · rw [decide_eq_true c]
      refine iteT ⟨_, rfl, p, _, 0, _, rfl, rfl, SqL.of hp, rfl, .inl ⟨_, rfl, _, rfl, _, _, rfl, rfl, m0, ?_⟩⟩
      refine ⟨_, rfl, p, _, 0, _, rfl, rfl, SqL.of hp, rfl, _, rfl, _, _, rfl, rfl, ?_, ?_⟩
      · exact ⟨m0, by omega⟩
      · refine ⟨_, rfl, p, _, 0, 0, rfl, rfl, hp, rfl, _, rfl, ?_⟩
        refine q _ _ (Int.emod_nonneg _ (by omega)) (Int.emod_lt_of_pos _ m0) ⟨_, b, upd_same, Int.ediv_nonneg ha (by omega), hb, hb2⟩ fun x o n e => ?_
        rw [upd_ne n]
        exact e
    · rw [decide_eq_false c]
      refine iteF ?_
      refine ⟨_, rfl, p, _, 0 + 1, _, rfl, rfl, SqL.of hp, rfl, _, _, rfl, rfl, .inl ⟨by omega, by omega⟩, ?_⟩
      have n0 := Int.emod_nonneg (b * 48271 + 30011) (show (2147483629 : Int) ≠ 0 by decide)
      have n1 := Int.emod_lt_of_pos (b * 48271 + 30011) (show (0 : Int) < 2147483629 by decide)
      refine ⟨_, _, rfl, rfl, .inl ⟨_, rfl, _, _, rfl, rfl, (by show (0 : Int) < 2147483629; decide), _, rfl, p, _, 1, 1, rfl, rfl, hp, rfl, ?_⟩⟩
      refine ⟨_, rfl, p, _, 0 + 1, _, rfl, rfl, SqL.of upd_same, rfl, _, rfl, p, _, 0 + 1, _, rfl, rfl, SqL.of upd_same, rfl, _, _, rfl, rfl, .inl ⟨by omega, by omega⟩, .inl ⟨_, rfl, _, _, rfl, rfl, (by show (0 : Int) < 2147483587; decide), _, _, rfl, rfl, ⟨by decide, by decide⟩, ?_⟩⟩
      exact .inl ⟨_, rfl, _, rfl, _, _, rfl, rfl, m0, q _ _ (Int.emod_nonneg _ (by omega)) (Int.emod_lt_of_pos _ m0) ⟨a, _, upd_same, ha, n0, n1⟩ fun x o z e => by rw [upd_ne z]; exact e⟩
def spPot (K : PySem.W.Frag) : Sp := fun vs H Q _ => ∃ (a : Addr) (ns : List Int) (k : Nat), vs = [.ref a, .int k] ∧ SqL K H a (ns.map V.int) ∧ k ≤ 100 ∧ ∀ p H', H p = none → Pot p H' → Same H H' → Q (.ref p) H'
theorem p__law_pot (T : Mo K mg) : Gx.Pr P w K mg base CX0 1 "_law_pot" s__law_pot ["_law_script", "_law_k"] (spPot K) := by
  refine T.d__law_pot.ok sc__law_pot (fun vs H Q E h => ?_) (fun f cdv A outer s H vs Q E hr h => ?_)
  · obtain ⟨a, ns, k, rfl, _⟩ := h
    rfl
  · obtain ⟨a, ns, k, rfl, hS, hk, q⟩ := h
    refine ⟨_, (Evl.pss_cut (ps_set (i := 2) sc__law_pot.nd rfl (Or.inl rfl) (pe_ifExp (pt_cmpR op_lt (pv 1) (pe_callB call_len_seq (by rfl) T.b_len (by decide +kernel) (pa_cons (pv 0) pa_nil)) (nomark _)) (pe_callB call_abs (by rfl) T.b_abs (by decide +kernel) (pa_cons (pe_ix ix_list (pv 0) (pv 1) (fun _ _ => rfl)) pa_nil)) pe_int))
      (pss_cons (ps_set (i := 3) sc__law_pot.nd rfl (Or.inl rfl) (pe_op op_add (pe_op op_mod (pe_callTy call_int1 (by rfl) T.b_int (by decide +kernel) (pa_cons (pe_op op_pow (pe_op op_add (pe_op op_add (pe_op op_mod (pe_callTy call_int1 (by rfl) T.b_int (by decide +kernel) (pa_cons (pv 2) pa_nil)) pe_int) (pe_op op_mul pe_int (pv 1))) pe_int) pe_int) pa_nil)) pe_int) pe_int))
      (pss_one (ps_ret (pe_lst (pa_cons (pe_callB (call_max2 rfl) (by rfl) T.b_max (by decide +kernel) (pa_cons pe_int (pa_cons (pe_op op_sub (pv 2) (pe_op op_pow pe_int pe_int)) pa_nil))) (pa_cons (pv 3) pa_nil))))))), ?_⟩
    refine ⟨fun σ H' => H' = H ∧ ∃ c : Int, σ = [some (.ref a), some (.int k), some (.int c), none], ?_, fun σ H' h => ?_⟩
    · refine ⟨_, rfl, _, rfl, a, _, rfl, .inl hS, _, _, rfl, rfl, _, rfl, ?_⟩
      rw [List.length_map]
      by_cases c : (k : Int) < (ns.length : Int)
      · rw [decide_eq_true c]
        have hk' : k < ns.length := by omega
        exact iteT ⟨_, rfl, _, rfl, a, _, _, .int ns[k], rfl, rfl, hS, atI_nat (by rw [List.getElem?_map, List.getElem?_eq_getElem hk']; rfl), _, rfl, rfl, _, rfl⟩
      · rw [decide_eq_false c]
        exact iteF ⟨rfl, _, rfl⟩
    · obtain ⟨rfl, c, rfl⟩ := h
      have m1 : ∀ x : Int, 0 ≤ x % 2147483587 ∧ x % 2147483587 < 2147483587 := fun x => ⟨Int.emod_nonneg _ (by decide), Int.emod_lt_of_pos _ (by decide)⟩
      have m2 : ∀ x : Int, 0 ≤ x % 2147483563 ∧ x % 2147483563 < 2147483563 := fun x => ⟨Int.emod_nonneg _ (by decide), Int.emod_lt_of_pos _ (by decide)⟩
      refine ⟨_, rfl, .inl ⟨_, rfl, _, _, rfl, rfl, (by show (0 : Int) < 2147483587; decide), _, rfl, _, _, rfl, rfl, .inl ⟨by decide, by decide⟩, _, _, rfl, rfl, _, _, rfl, rfl, _, _, rfl, rfl, ⟨by decide, by decide, ?_⟩, .inl ⟨_, rfl, _, _, rfl, rfl, (by show (0 : Int) < 2147483563; decide), _, _, rfl, rfl, ?_⟩⟩⟩
      · have := m1 c
        omega
      · refine ⟨_, rfl, _, _, rfl, rfl, ⟨by decide, by decide, by decide⟩, _, _, rfl, rfl, _, _, rfl, _, rfl, by show 2 ≤ sizeLine; decide, fun p hp => ?_⟩
        have := m2 ((c % 2147483587 + 6007 * (k : Int) + 13) ^ (3 : Int).toNat)
        refine q p _ hp ⟨_, _, upd_same, ?_, ?_, ?_⟩ (Gx.sameU hp)
        · split <;> omega
        · omega
        · omega
end
end My
namespace My
open PySem PySem.Spec PyProof.Rows L2
section
variable {P : Program} {w : World} {K : PySem.W.Frag} {mg : Str → Option Value} {base : Heap}
def spPick : Sp := fun vs H Q _ => ∃ (p : Addr) (v : V), vs = [.ref p, v] ∧ Pot p H ∧
  ((∃ o xs, v = .ref o ∧ o ≠ p ∧ H o = some (.lst xs) ∧ 0 < xs.length ∧ xs.length ≤ 1000 ∧ ∀ x H', x ∈ xs → Pot p H' → Gx.Kp p H H' → Q x H') ∨
    ∃ z : Str, v = .str z ∧ 0 < z.length ∧ z.length ≤ 1000 ∧ ∀ c H', c ∈ z.cps.toList → Pot p H' → Gx.Kp p H H' → Q (.str ⟨#[c]⟩) H')
theorem p__law_pick (T : Mo K mg) : Gx.Pr P w K mg base CX0 2 "_law_pick" s__law_pick ["_law_pot_here", "_law_some"] spPick := by
  refine T.d__law_pick.ok sc__law_pick (fun vs H Q E h => ?_) (fun f cdv A outer s H vs Q E hr h => ?_)
  · obtain ⟨p, v, rfl, _⟩ := h
    rfl
  · obtain ⟨p, v, rfl, hp, h⟩ := h
    refine ⟨_, (pss_one (ps_ret (pe_ix (IxR.or ix_list ix_str) (pv 1) (Gx.pe_pos (p__law_take T) hr (by decide) (by rfl) b__law_take pass0 (pa_cons (pv 0) (pa_cons (pe_callB (CallR.or call_len_seq call_len_str) (by rfl) T.b_len (by decide +kernel) (pa_cons (pv 1) pa_nil)) pa_nil))) (fun _ _ => rfl)))), ?_⟩
    rcases h with ⟨o, xs, rfl, nop, ho, l0, l1, q⟩ | ⟨z, rfl, l0, l1, q⟩
    · refine ⟨_, rfl, _, rfl, _, rfl, .inl ⟨o, xs, rfl, .inl (SqL.of ho), p, _, rfl, hp, by omega, by omega, fun r H' r0 r1 hp' k => .inl ?_⟩⟩
      obtain ⟨n, rfl⟩ : ∃ n : Nat, r = (n : Int) := ⟨r.toNat, by omega⟩
      have hn : n < xs.length := by omega
      exact ⟨o, xs, _, xs[n], rfl, rfl, SqL.of (k _ _ nop ho), atI_nat (List.getElem?_eq_getElem hn), q _ _ (List.getElem_mem hn) hp' k⟩
    · refine ⟨_, rfl, _, rfl, _, rfl, .inr ⟨z, rfl, Nat.le_trans l1 (by decide), p, _, rfl, hp, by omega, by omega, fun r H' r0 r1 hp' k => .inr ?_⟩⟩
      obtain ⟨n, rfl⟩ : ∃ n : Nat, r = (n : Int) := ⟨r.toNat, by omega⟩
      have hn : n < z.cps.toList.length := by
        have : z.length = z.cps.toList.length := by simp [Str.length]
        omega
      exact ⟨z, _, z.cps.toList[n], rfl, rfl, Nat.le_trans l1 (by decide), atI_nat (List.getElem?_eq_getElem hn), q _ _ (List.getElem_mem hn) hp' k⟩
end
end My
namespace My
open PySem PySem.Spec PyProof.Rows L2
def sign (c : Nat) : Str := ⟨#[c]⟩
/-- texts of one small sign each -/
def Small (l : List Str) : Prop := ∀ x ∈ l, ∃ c, x = sign c ∧ isLw c = true
theorem join_small : ∀ l : List Str, Small l → (Str.join "" l).cps.toList.length = l.length ∧ ∀ c ∈ (Str.join "" l).cps.toList, isLw c = true
  | [], _ => ⟨rfl, fun c h => by simp [Str.join, Str.empty] at h⟩
  | [x], h => by
    obtain ⟨c, rfl, hc⟩ := h x List.mem_cons_self
    exact ⟨rfl, fun d hd => by
      have : d = c := by simpa [Str.join, sign] using hd
      rw [this]
      exact hc⟩
  | x :: y :: r, h => by
    obtain ⟨c, rfl, hc⟩ := h x List.mem_cons_self
    obtain ⟨i1, i2⟩ := join_small (y :: r) fun z hz => h z (List.mem_cons_of_mem _ hz)
    have e : (Str.join "" (sign c :: y :: r)).cps.toList = c :: (Str.join "" (y :: r)).cps.toList := by
      show ((sign c ++ ("" : Str) ++ Str.join "" (y :: r)) : Str).cps.toList = _
      show (((sign c).cps ++ (("" : Str)).cps) ++ (Str.join "" (y :: r)).cps).toList = _
      rw [show (("" : Str)).cps = #[] by decide +kernel]
      simp [sign]
    rw [e]
    refine ⟨by rw [List.length_cons, i1]; rfl, fun d hd => ?_⟩
    rcases List.mem_cons.mp hd with rfl | hd
    · exact hc
    · exact i2 d hd
theorem sum_small : ∀ l : List Str, Small l → (l.map (·.length)).sum = l.length
  | [], _ => rfl
  | x :: l, h => by
    obtain ⟨c, rfl, _⟩ := h x List.mem_cons_self
    rw [List.map_cons, List.sum_cons, sum_small l fun z hz => h z (List.mem_cons_of_mem _ hz), List.length_cons]
    show 1 + _ = _
    omega
/-- a letter, not the first one of the two reserved words, and letters more: a name -/
theorem name_of {c0 : Nat} {t : Str} (h0 : isLw c0 = true) (h1 : c0 ≠ 110) (h2 : c0 ≠ 98) (hl : t.cps.toList.length ≤ 7) (ht : ∀ c ∈ t.cps.toList, isLw c = true) : nameZ (sign c0 ++ t) = true := by
  have e : (sign c0 ++ t).cps.toList = c0 :: t.cps.toList := by
    show ((sign c0).cps ++ t.cps).toList = _
    simp [sign]
  have el : (sign c0 ++ t).length = 1 + t.cps.toList.length := by
    show (sign c0 ++ t).cps.size = _
    rw [← Array.length_toList, e, List.length_cons]
    omega
  have n1 : sign c0 ++ t ≠ "not" := fun z => by
    have : (sign c0 ++ t).cps.toList = (("not" : String) : Str).cps.toList := by rw [z]
    rw [e, show (("not" : String) : Str).cps.toList = [110, 111, 116] by decide +kernel] at this
    injection this with a b
    exact h1 a
  have n2 : sign c0 ++ t ≠ "by" := fun z => by
    have : (sign c0 ++ t).cps.toList = (("by" : String) : Str).cps.toList := by rw [z]
    rw [e, show (("by" : String) : Str).cps.toList = [98, 121] by decide +kernel] at this
    injection this with a b
    exact h2 a
  simp only [nameZ, Bool.and_eq_true, decide_eq_true_eq, e, List.all_cons, h0, Bool.true_and, List.all_eq_true, Bool.not_eq_true', Bool.or_eq_false_iff, decide_eq_false_iff_not]
  exact ⟨by omega, by omega, ht, n1, n2⟩
section
variable {P : Program} {w : World} {K : PySem.W.Frag} {mg : Str → Option Value} {base : Heap}
def spWord : Sp := fun vs H Q _ => ∃ (p : Addr) (c0 : Nat), vs = [.ref p, .str (sign c0)] ∧ Pot p H ∧ isLw c0 = true ∧ c0 ≠ 110 ∧ c0 ≠ 98 ∧ ∀ y H', nameZ y = true → Pot p H' → Gx.Kp p H H' → Q (.str y) H'
theorem p__law_word (T : Mo K mg) : Gx.Pr P w K mg base CX0 3 "_law_word" s__law_word ["_law_pot_here", "_law_first"] spWord := by
  refine T.d__law_word.ok sc__law_word (fun vs H Q E h => ?_) (fun f cdv A outer s H vs Q E hr h => ?_)
  · obtain ⟨p, c0, rfl, _⟩ := h
    rfl
  · obtain ⟨p, c0, rfl, hp, z0, z1, z2, q⟩ := h
    refine ⟨_, (pss_cons (ps_set (i := 2) sc__law_word.nd rfl (Or.inl rfl) (Gx.pe_pos (p__law_pick T) hr (by decide) (by rfl) b__law_pick pass0 (pa_cons (pv 0) (pa_cons (pe_lst (pa_cons pe_int (pa_cons pe_int (pa_cons pe_int (pa_cons pe_int (pa_cons pe_int pa_nil)))))) pa_nil))))
      (pss_one (ps_ret (pe_op op_add_str (pv 1) (pe_bm PySem.F.plainAttrs_str PySem.F.slot_str_join PySem.F.type_str_join mt_join pe_str (pa_cons (pe_lc (own := [("_law_at", 3)]) (g := gName 3) (tt := tYes) rfl sc__law_word.nd (pi_range1 (by rfl) T.b_range (pa_cons (pv 2) pa_nil)) (blkOk_by (N := N__law_word) (sc := defScope s__law_word) (by decide +kernel)) (fun _ _ _ _ _ => (pg_name (i := 3) sc__law_word.nd rfl (Or.inl rfl))) (fun _ _ _ _ _ => pts_nil) (fun _ _ _ _ _ => (pe_ix ix_str pe_str (Gx.pe_pos (p__law_take T) hr (by decide) (by rfl) b__law_take pass0 (pa_cons (pv 0) (pa_cons pe_int pa_nil))) (fun _ _ => rfl)))) pa_nil)))))), ?_⟩
    refine ⟨_, rfl, by show 5 ≤ sizeLine; decide, fun l hl => ?_⟩
    have npl : l ≠ p := fun e => by
      obtain ⟨a, b, e2, _⟩ := hp
      rw [← e, hl] at e2
      cases e2
    have k0 : Gx.Kp p H (L2.upd H l (.lst [.int 0, .int 0, .int 1, .int 2, .int 7])) := Gx.Kp.of (Gx.sameU hl)
    have hp1 : Pot p (L2.upd H l (.lst [.int 0, .int 0, .int 1, .int 2, .int 7])) := by
      obtain ⟨a, b, e2, r⟩ := hp
      exact ⟨a, b, by rw [upd_ne (Ne.symm npl)]; exact e2, r⟩
    refine ⟨p, _, rfl, hp1, .inl ⟨l, _, rfl, npl, upd_same, by decide, by decide, fun x H1 hx hp2 k1 => ?_⟩⟩
    obtain ⟨n, rfl, hn⟩ : ∃ n : Nat, x = .int (n : Int) ∧ n ≤ 7 := by
      simp only [List.mem_cons, List.not_mem_nil, or_false] at hx
      rcases hx with rfl | rfl | rfl | rfl | rfl
      · exact ⟨0, rfl, by decide⟩
      · exact ⟨0, rfl, by decide⟩
      · exact ⟨1, rfl, by decide⟩
      · exact ⟨2, rfl, by decide⟩
      · exact ⟨7, rfl, by decide⟩
    have k1' := k0.trans k1
    refine ⟨_, rfl, rfl, _, rfl, (n : Int), rfl, by omega, by omega, fun D hD => ?_⟩
    rw [Int.toNat_natCast]
    have nDp : D ≠ p := fun e => by
      obtain ⟨a, b, e2, _⟩ := hp2
      rw [← e, hD] at e2
      cases e2
    have hp3 : Pot p (L2.upd H1 D (.lst [])) := by
      obtain ⟨a, b, e2, r⟩ := hp2
      exact ⟨a, b, by rw [upd_ne (Ne.symm nDp)]; exact e2, r⟩
    refine lc_range (lo := 0) (n := n) (fun i H' => Pot p H' ∧ Gx.Kp p H1 H' ∧ ∃ l : List Str, l.length = i ∧ Small l ∧ H' D = some (.lst (l.map V.str)))
      ⟨hp3, Gx.Kp.of (Gx.sameU hD), [], rfl, (fun _ h => nomatch h), upd_same⟩ (fun i H4 hi h => ?_) fun H4 h => ?_
    · obtain ⟨R4, k4, l, hl, hs, hd⟩ := h
      refine ⟨rfl, _, rfl, p, _, rfl, R4, by decide, by decide, fun r H5 r0 r1 R5 k5 => ?_⟩
      obtain ⟨m, rfl⟩ : ∃ m : Nat, r = (m : Int) := ⟨r.toNat, by omega⟩
      have hA : (("abcdefghijklmnopqrstuvwxyz" : String) : Str).cps.toList.length = 26 := by decide +kernel
      have hm : m < (("abcdefghijklmnopqrstuvwxyz" : String) : Str).cps.toList.length := by omega
      have hd5 : H5 D = some (.lst (l.map V.str)) := k5 _ _ nDp hd
      have hc : ∀ c ∈ (("abcdefghijklmnopqrstuvwxyz" : String) : Str).cps.toList, isLw c = true := by decide +kernel
      refine ⟨_, _, (("abcdefghijklmnopqrstuvwxyz" : String) : Str).cps.toList[m], rfl, rfl, by decide +kernel, atI_nat (List.getElem?_eq_getElem hm), _, hd5, ?_, ?_, ?_, l ++ [sign (("abcdefghijklmnopqrstuvwxyz" : String) : Str).cps.toList[m]], ?_, ?_, ?_⟩
      · rw [List.length_map, hl]
        exact Nat.lt_of_le_of_lt (show i ≤ 12 by omega) (by decide)
      · obtain ⟨a, b, e, o⟩ := R5
        exact ⟨a, b, by rw [upd_ne nDp.symm]; exact e, o⟩
      · intro b o nb e
        rw [upd_ne (ne_of_none e hD)]
        exact (k4.trans k5) b o nb e
      · rw [List.length_append, hl]
        rfl
      · intro x hx
        rcases List.mem_append.mp hx with h | h
        · exact hs x h
        · exact ⟨_, List.mem_singleton.mp h, hc _ (List.getElem_mem hm)⟩
      · rw [upd_same, List.map_append]
        rfl
    · obtain ⟨R4, k4, l, hl, hs, hd⟩ := h
      obtain ⟨j1, j2⟩ := join_small l hs
      refine ⟨"", D, l, rfl, rfl, .inl (SqL.of hd), ?_, ?_⟩
      · rw [sum_small l hs]
        show l.length + l.length * 0 ≤ _
        omega
      · rw [show Txt.join "" l = Str.join "" l from StrLaws.glued_eq_join _ _]
        refine ⟨sign c0, _, rfl, rfl, ?_, q _ _ (name_of z0 z1 z2 (by rw [j1]; omega) j2) R4 (k1'.trans k4)⟩
        have : (Str.join "" l).length ≤ 7 := by
          show (Str.join "" l).cps.size ≤ 7
          rw [← Array.length_toList, j1]
          omega
        have h1 : (sign c0).length = 1 := rfl
        exact Nat.le_trans (show _ ≤ 10 by omega) (by decide)
end
end My
namespace My
open PySem PySem.Spec PyProof.Rows L2
theorem erase_perm {α : Type} : ∀ {l : List α} {n : Nat} (h : n < l.length), (l[n] :: l.eraseIdx n).Perm l
  | x :: r, 0, _ => List.Perm.refl _
  | x :: r, n + 1, h => by
    have h' : n < r.length := by simpa using h
    show (r[n] :: x :: r.eraseIdx n).Perm (x :: r)
    exact (List.Perm.swap x r[n] _).trans ((erase_perm h').cons x)
section
variable {P : Program} {w : World} {K : PySem.W.Frag} {mg : Str → Option Value} {base : Heap}
/-- texts and numbers that are small -/
inductive Fl : V → Prop
  | str (z : Str) (h : z.length ≤ 100) (a : ∀ c ∈ z.cps.toList, c < 128) : Fl (.str z)
  | int (i : Int) (h : i.natAbs < 10 ^ 100) : Fl (.int i)
def dV : V → PyData
  | .str z => .str z
  | .int i => .int i
  | _ => .none
theorem fl_dp {K : PySem.W.Frag} {H : Hp} : ∀ {rs : List V}, (∀ x ∈ rs, Fl x) → DpAll K H rs (rs.map dV)
  | [], _ => .nil
  | x :: r, h => by
    have hx := h x (by simp)
    refine .cons ?_ (fl_dp fun y hy => h y (List.mem_cons_of_mem _ hy))
    cases hx with
    | str z _ _ => exact .str z
    | int i _ => exact .int i
theorem fl_lay : ∀ {rs : List V}, (∀ x ∈ rs, Fl x) → PyData.canLayAll0 (rs.map dV) = true ∧ PyData.depthAll (rs.map dV) = 0
  | [], _ => ⟨by simp [PyData.canLayAll0], by simp [PyData.depthAll]⟩
  | x :: r, h => by
    obtain ⟨h1, h2⟩ := fl_lay (rs := r) fun y hy => h y (List.mem_cons_of_mem _ hy)
    have hx := h x (by simp)
    cases hx with
    | str z hz ha =>
      have := (show okZ z from ⟨hz, ha⟩).ok
      exact ⟨by simp [PyData.canLayAll0, PyData.canLay0, dV, this, h1], by simp [PyData.depthAll, PyData.depth, dV, h2]⟩
    | int i hi => exact ⟨by simp [PyData.canLayAll0, PyData.canLay0, dV, h1], by simp [PyData.depthAll, PyData.depth, dV, h2]⟩
theorem fl_shaped {rs : List V} (h : ∀ x ∈ rs, Fl x) : SeqAt.shaped (.list (rs.map dV)) = true := by
  obtain ⟨h1, h2⟩ := fl_lay h
  unfold SeqAt.shaped
  simp only [PyData.canLay0, PyData.depth, h1, h2]
  rfl
theorem eqv_emp (l : List PyData) : PyData.eqv (.list l) (.list []) = l.isEmpty := by
  cases l <;> simp [PyData.eqv, PyData.eqvAll]
def spMix : Sp := fun vs H Q _ => ∃ (p o : Addr) (xs : List V), vs = [.ref p, .ref o] ∧ Pot p H ∧ o ≠ p ∧ (H o = some (.lst xs) ∨ H o = some (.tup xs)) ∧ xs.length ≤ 60 ∧ (∀ x ∈ xs, Fl x) ∧ ∀ l ys H', ys.Perm xs → H l = none → H' l = some (.lst ys) → Pot p H' → Gx.Kp p H H' → Q (.ref l) H'
theorem p__law_mixed (T : Mo K mg) : Gx.Pr P w K mg base CX0 2 "_law_mixed" s__law_mixed ["_law_pot_here", "_law_some"] spMix := by
  refine T.d__law_mixed.ok sc__law_mixed (fun vs H Q E h => ?_) (fun f cdv A outer s H vs Q E hr h => ?_)
  · obtain ⟨p, o, xs, rfl, _⟩ := h
    rfl
  · obtain ⟨p, o, xs, rfl, hp, nop, ho, hl, hf, q⟩ := h
    have hu64 := hr.units
    refine ⟨_, (pss_cons (ps_par (i := 2) (j := 3) rfl sc__law_mixed.nd rfl rfl (by decide) rfl rfl (pa_cons (pe_callTy call_list_of (by rfl) T.b_list (by decide +kernel) (pa_cons (pv 1) pa_nil)) (pa_cons (pe_lst pa_nil) pa_nil)) (by rfl))
      (pss_cons (ps_while PassesOwn.never (pt_cmpR (op_neD hu64) (pv 2) (pe_lst pa_nil) (nomark _)) (pss_one (ps_expr (pe_bm PySem.F.plainAttrs_list PySem.F.slot_list_append PySem.F.type_list_append mt_append (pv 3) (pa_cons (pe_bm PySem.F.plainAttrs_list PySem.F.slot_list_pop PySem.F.type_list_pop mt_popAt (pv 2) (pa_cons (Gx.pe_pos (p__law_take T) hr (by decide) (by rfl) b__law_take pass0 (pa_cons (pv 0) (pa_cons (pe_callB call_len_seq (by rfl) T.b_len (by decide +kernel) (pa_cons (pv 2) pa_nil)) pa_nil))) pa_nil)) pa_nil)))))
      (pss_one (ps_ret (pv 3))))), ?_⟩
    refine ⟨_, rfl, o, xs, rfl, ho.elim (fun e => .inl (SqL.of e)) (fun e => .inr (SqT.of e)), fun r hr0 => ⟨by show 0 ≤ sizeLine; decide, fun D hD => ?_⟩⟩
    have nr : r ≠ p := fun e => by
      obtain ⟨a, b, e2, _⟩ := hp
      rw [← e, hr0] at e2
      cases e2
    have nrD : r ≠ D := fun e => by
      rw [← e, upd_same] at hD
      cases hD
    have hD0 : H D = none := by
      rw [upd_ne (Ne.symm nrD)] at hD
      exact hD
    have nD : D ≠ p := fun e => by
      obtain ⟨a, b, e2, _⟩ := hp
      rw [← e, hD0] at e2
      cases e2
    have s2 : Same H (L2.upd (L2.upd H r (.lst xs)) D (.lst [])) := (Gx.sameU hr0).trans (Gx.sameU hD)
    refine ⟨_, _, rfl, fun m σ H' => ∃ rs fs, m = rs.length ∧ σ = [some (.ref p), some (.ref o), some (.ref r), some (.ref D)] ∧ H' r = some (.lst rs) ∧ H' D = some (.lst fs) ∧ (fs ++ rs).Perm xs ∧ Pot p H' ∧ Gx.Kp p H H', ⟨xs.length, xs, [], rfl, rfl, ?_, upd_same, List.Perm.refl _, ?_, Gx.Kp.of s2⟩, fun m σ H' h => ?_⟩
    · rw [upd_ne nrD]
      exact upd_same
    · obtain ⟨a, b, e2, rr⟩ := hp
      exact ⟨a, b, s2 _ _ e2, rr⟩
    · obtain ⟨rs, fs, rfl, rfl, h1, h2, pm, hp', k⟩ := h
      have frs : ∀ x ∈ rs, Fl x := fun x hx => hf x (pm.mem_iff.mp (List.mem_append_right _ hx))
      have len : fs.length + rs.length ≤ 60 := by
        have := pm.length_eq
        rw [List.length_append] at this
        omega
      refine ⟨_, rfl, by show 0 ≤ sizeLine; decide, fun e1 n1 => ?_⟩
      have h1' : (L2.upd H' e1 (.lst [])) r = some (.lst rs) := by
        rw [upd_ne (ne_of_none h1 n1)]
        exact h1
      refine ⟨.list (rs.map dV), .list [], .lst (SqL.of h1') (fl_dp frs), .lst (SqL.of upd_same) .nil, fl_shaped frs, by decide +kernel, _, rfl, ?_⟩
      rw [eqv_emp]
      have h2' : (L2.upd H' e1 (.lst [])) D = some (.lst fs) := by
        rw [upd_ne (ne_of_none h2 n1)]
        exact h2
      have hp1 : Pot p (L2.upd H' e1 (.lst [])) := by
        obtain ⟨a, b, e2, rr⟩ := hp'
        exact ⟨a, b, by rw [upd_ne (ne_of_none e2 n1)]; exact e2, rr⟩
      have k1 : Gx.Kp p H (L2.upd H' e1 (.lst [])) := k.trans (Gx.Kp.of (Gx.sameU n1))
      match rs, frs, pm, h1', len with
      | [], _, pm, _, _ =>
        rw [List.append_nil] at pm
        exact iteF ⟨_, rfl, q D fs _ pm hD0 h2' hp1 k1⟩
      | x0 :: r0, frs, pm, h1', len =>
        refine iteT ⟨fun σ' H2 => ∃ m', m' < (x0 :: r0).length ∧ ∃ rs fs, m' = rs.length ∧ σ' = [some (.ref p), some (.ref o), some (.ref r), some (.ref D)] ∧ H2 r = some (.lst rs) ∧ H2 D = some (.lst fs) ∧ (fs ++ rs).Perm xs ∧ Pot p H2 ∧ Gx.Kp p H H2, fun _ _ h => h, ?_⟩
        simp only [List.length_cons] at len
        refine ⟨_, rfl, .inl ⟨rfl, _, SqL.of h2'⟩, _, rfl, .inl ⟨rfl, _, SqL.of h1'⟩, _, rfl, _, rfl, r, x0 :: r0, rfl, .inl (SqL.of h1'), p, _, rfl, hp1, ?_, ?_, fun i H2 i0 i1 hp2 k2 => ?_⟩
        · simp only [List.length_cons]
          omega
        · simp only [List.length_cons]
          omega
        · obtain ⟨n, rfl⟩ : ∃ n : Nat, i = (n : Int) := ⟨i.toNat, by omega⟩
          have hn : n < (x0 :: r0).length := by omega
          have hr2 := k2 _ _ nr h1'
          have hD2 := k2 _ _ nD h2'
          refine ⟨r, x0 :: r0, _, n, (x0 :: r0)[n], rfl, rfl, hr2, by omega, by simp only [List.length_cons] at hn; omega, ?_, List.getElem?_eq_getElem hn, ?_⟩
          · unfold seqIndex?
            rw [if_neg (show ¬ ((n : Int) < 0) by omega)]
            show (if (decide (0 ≤ (n : Int)) && decide ((n : Int) < ((x0 :: r0).length : Int))) = true then some (n : Int).toNat else none) = some n
            rw [decide_eq_true (show 0 ≤ (n : Int) by omega), decide_eq_true (show (n : Int) < ((x0 :: r0).length : Int) by omega)]
            simp
          · refine ⟨D, fs, _, rfl, rfl, ?_, ?_, _, ?_, (x0 :: r0).eraseIdx n, fs ++ [(x0 :: r0)[n]], rfl, rfl, ?_, upd_same, ?_, ?_, ?_⟩
            · rw [upd_ne (Ne.symm nrD)]
              exact hD2
            · exact Nat.lt_of_le_of_lt (show _ ≤ 60 by omega) (by decide)
            · rw [List.length_eraseIdx_of_lt hn]
              simp only [List.length_cons]
              omega
            · rw [upd_ne nrD]
              exact upd_same
            · rw [List.append_assoc]
              exact ((erase_perm hn).append_left fs).trans pm
            · obtain ⟨a, b, e2, rr⟩ := hp2
              exact ⟨a, b, by rw [upd_ne (Ne.symm nD), upd_ne (Ne.symm nr)]; exact e2, rr⟩
            · intro b o nb e
              rw [upd_ne (ne_of_none e hD0), upd_ne (ne_of_none e hr0)]
              exact (k1.trans k2) b o nb e
end
end My
namespace My
open PySem PySem.Spec PyProof.Rows L2
theorem Pot.same {p : Addr} {H H' : Hp} (h : Pot p H) (s : Same H H') : Pot p H' := let ⟨a, b, e, r⟩ := h; ⟨a, b, s _ _ e, r⟩
theorem Pot.ne {p q : Addr} {H : Hp} (h : Pot p H) (n : H q = none) : q ≠ p := fun e => by
  obtain ⟨a, b, e2, _⟩ := h
  rw [← e, n] at e2
  cases e2
/-- a term of a query, of these names -/
inductive TermV (zs : List Str) : V → Prop
  | str (z : Str) (h : nameZ z = true) (m : z ∈ zs) : TermV zs (.str z)
  | int (i : Int) (h : 0 ≤ i) (h2 : i < 1024) : TermV zs (.int i)
section
variable {P : Program} {w : World} {K : PySem.W.Frag} {mg : Str → Option Value} {base : Heap}
/-- names in a list -/
def Names (p o : Addr) (H : Hp) (zs : List Str) : Prop := o ≠ p ∧ H o = some (.lst (zs.map V.str)) ∧ 0 < zs.length ∧ zs.length ≤ 10 ∧ ∀ z ∈ zs, nameZ z = true
theorem Names.kp {p o : Addr} {H H' : Hp} {zs : List Str} (h : Names p o H zs) (k : Gx.Kp p H H') : Names p o H' zs := ⟨h.1, k _ _ h.1 h.2.1, h.2.2⟩
def spTerm : Sp := fun vs H Q _ => ∃ (p o : Addr) (zs : List Str), vs = [.ref p, .ref o] ∧ Pot p H ∧ Names p o H zs ∧ ∀ v H', TermV zs v → Pot p H' → Gx.Kp p H H' → Q v H'
theorem p__law_term (T : Mo K mg) : Gx.Pr P w K mg base CX0 3 "_law_term" s__law_term ["_law_pot_here", "_law_names"] spTerm := by
  refine T.d__law_term.ok sc__law_term (fun vs H Q E h => ?_) (fun f cdv A outer s H vs Q E hr h => ?_)
  · obtain ⟨p, o, zs, rfl, _⟩ := h
    rfl
  · obtain ⟨p, o, zs, rfl, hp, hn, q⟩ := h
    refine ⟨_, (pss_cons (ps_if (pt_cmpR op_eq (Gx.pe_pos (p__law_take T) hr (by decide) (by rfl) b__law_take pass0 (pa_cons (pv 0) (pa_cons pe_int pa_nil))) pe_int (nomark _)) (pss_one (ps_ret (Gx.pe_pos (p__law_pick T) hr (by decide) (by rfl) b__law_pick pass0 (pa_cons (pv 0) (pa_cons (pe_lst (pa_cons pe_int (pa_cons pe_int (pa_cons pe_int (pa_cons (Gx.pe_pos (p__law_take T) hr (by decide) (by rfl) b__law_take pass0 (pa_cons (pv 0) (pa_cons pe_int pa_nil))) pa_nil))))) pa_nil))))) pss_nil)
      (pss_one (ps_ret (Gx.pe_pos (p__law_pick T) hr (by decide) (by rfl) b__law_pick pass0 (pa_cons (pv 0) (pa_cons (pv 1) pa_nil)))))), ?_⟩
    refine ⟨_, rfl, p, _, rfl, hp, by decide, by decide, fun r H1 r0 r1 hp1 k1 => ⟨rfl, _, rfl, ?_⟩⟩
    by_cases c : V.int r = V.int 0
    · rw [decide_eq_true c]
      refine iteT ⟨_, rfl, _, rfl, p, _, rfl, hp1, by decide, by decide, fun r2 H2 i0 i1 hp2 k2 => ⟨by show 4 ≤ sizeLine; decide, fun l hl => ?_⟩⟩
      have s2 := Gx.sameU hl (o := .lst [.int 0, .int 1, .int 1023, .int r2])
      refine ⟨p, _, rfl, hp2.same s2, .inl ⟨l, _, rfl, hp2.ne hl, upd_same, by show 0 < 4; decide, by show 4 ≤ 1000; decide, fun x H3 hx hp3 k3 => q _ _ ?_ hp3 (((k1.trans k2).trans (Gx.Kp.of s2)).trans k3)⟩⟩
      simp only [List.mem_cons, List.not_mem_nil, or_false] at hx
      rcases hx with rfl | rfl | rfl | rfl
      · exact .int _ (by decide) (by decide)
      · exact .int _ (by decide) (by decide)
      · exact .int _ (by decide) (by decide)
      · exact .int _ i0 i1
    · rw [decide_eq_false c]
      have hn1 := hn.kp k1
      refine iteF ⟨_, rfl, _, rfl, p, _, rfl, hp1, .inl ⟨o, _, rfl, hn1.1, hn1.2.1, by rw [List.length_map]; exact hn1.2.2.1, by rw [List.length_map]; exact Nat.le_trans hn1.2.2.2.1 (by decide), fun x H3 hx hp3 k3 => q _ _ ?_ hp3 (k1.trans k3)⟩⟩
      obtain ⟨z, hz, rfl⟩ := List.mem_map.mp hx
      exact .str z (hn1.2.2.2.2 z hz) hz
end
end My
namespace My
open PySem PySem.Spec PyProof.Rows L2
theorem TermV.fl {zs : List Str} {v : V} (h : TermV zs v) : Fl v := by
  cases h with
  | str z h m => exact .str z (lw_ok h).1 (lw_ok h).2
  | int i h h2 => exact .int i (by omega)
theorem TermV.of {zs : List Str} {v : V} {z : Str} (h : TermV zs v) (e : PyData.str z = dV v) : z ∈ zs := by
  cases h with
  | str y h m =>
    cases e
    exact m
  | int i h h2 => cases e
theorem TermV.dat {zs : List Str} {p : Addr} {H : Hp} {v : V} (h : TermV zs v) : Gx.Dat p H v (dV v) ∧ termD (dV v) = true := by
  cases h with
  | str z h m => exact ⟨.str z (lw_ok h).1 (lw_ok h).2, by simp [dV, termD, nameD, h]⟩
  | int i h h2 => exact ⟨.int i (by omega), by simp [dV, termD, nameD, placeD, h, h2]⟩
theorem lit_cmp {sg : Str} {b o : PyData} (h : sg = "<" ∨ sg = "<=" ∨ sg = "=" ∨ sg = "!=") (hb : termD b = true) (ho : termD o = true) (hs : strD b = true ∨ strD o = true) : litD (.tuple [.str sg, b, o]) = true := by
  have h1 : rowW (.str sg) = false := by rcases h with rfl | rfl | rfl | rfl <;> decide +kernel
  have h2 : signW (.str sg) = true := by rcases h with rfl | rfl | rfl | rfl <;> decide +kernel
  simp only [litD, h1, h2, hb, ho, Bool.true_and]
  simpa using hs
theorem lit_row {k w : Str} {es : List PyData} (h : k = "row" ∨ k = "none") (hw : nameZ w = true) (h1 : 1 ≤ es.length) (h4 : es.length ≤ 4) (he : ∀ e ∈ es, termD e = true) : litD (.tuple [.str k, .str w, .tuple es]) = true := by
  have h0 : rowW (.str k) = true := by rcases h with rfl | rfl <;> decide +kernel
  simp only [litD, h0, if_true, nameD, hw, Bool.true_and, termsD, Bool.and_eq_true, decide_eq_true_eq, List.all_eq_true]
  exact ⟨h1, h4, he⟩
section
variable {P : Program} {w : World} {K : PySem.W.Frag} {mg : Str → Option Value} {base : Heap}
def spLit : Sp := fun vs H Q _ => ∃ (p o : Addr) (zs : List Str), vs = [.ref p, .ref o] ∧ Pot p H ∧ Names p o H zs ∧ ∀ t d H', t ≠ p → Gx.Dat p H' (.ref t) d → litD d = true → (∀ z, PyData.str z ∈ termsOf d → z ∈ zs) → Pot p H' → Gx.Kp p H H' → Q (.ref t) H'
theorem p__law_literal (T : Mo K mg) : Gx.Pr P w K mg base CX0 4 "_law_literal" s__law_literal ["_law_pot_here", "_law_names"] spLit := by
  refine T.d__law_literal.ok sc__law_literal (fun vs H Q E h => ?_) (fun f cdv A outer s H vs Q E hr h => ?_)
  · obtain ⟨p, o, zs, rfl, _⟩ := h
    rfl
  · obtain ⟨p, o, zs, rfl, hp, hn, q⟩ := h
    refine ⟨_, (pss_cons (ps_set (i := 2) sc__law_literal.nd rfl (Or.inl rfl) (Gx.pe_pos (p__law_take T) hr (by decide) (by rfl) b__law_take pass0 (pa_cons (pv 0) (pa_cons pe_int pa_nil))))
      (pss_cons (ps_if (pt_cmpR op_gt (pv 2) pe_int (nomark _)) (pss_cons (ps_set (i := 3) sc__law_literal.nd rfl (Or.inl rfl) (Gx.pe_pos (p__law_mixed T) hr (by decide) (by rfl) b__law_mixed pass0 (pa_cons (pv 0) (pa_cons (pe_lst (pa_cons (Gx.pe_pos (p__law_pick T) hr (by decide) (by rfl) b__law_pick pass0 (pa_cons (pv 0) (pa_cons (pv 1) pa_nil))) (pa_cons (Gx.pe_pos (p__law_term T) hr (by decide) (by rfl) b__law_term pass0 (pa_cons (pv 0) (pa_cons (pv 1) pa_nil))) pa_nil))) pa_nil))))
      (pss_one (ps_ret (pe_tup (pa_cons (Gx.pe_pos (p__law_pick T) hr (by decide) (by rfl) b__law_pick pass0 (pa_cons (pv 0) (pa_cons (pe_lst (pa_cons pe_str (pa_cons pe_str (pa_cons pe_str (pa_cons pe_str pa_nil))))) pa_nil))) (pa_cons (pe_ix ix_list (pv 3) pe_int (fun _ _ => rfl)) (pa_cons (pe_ix ix_list (pv 3) pe_int (fun _ _ => rfl)) pa_nil))))))) pss_nil)
      (pss_cons (ps_set (i := 3) sc__law_literal.nd rfl (Or.inl rfl) (pe_callTy call_tuple_of (by rfl) T.b_tuple (by decide +kernel) (pa_cons (pe_lc (own := [("_law_at", 4)]) (g := gName 4) (tt := tYes) rfl sc__law_literal.nd (pi_range1 (by rfl) T.b_range (pa_cons (pe_op op_add pe_int (Gx.pe_pos (p__law_take T) hr (by decide) (by rfl) b__law_take pass0 (pa_cons (pv 0) (pa_cons pe_int pa_nil)))) pa_nil)) (blkOk_by (N := N__law_literal) (sc := defScope s__law_literal) (by decide +kernel)) (fun _ _ _ _ _ => (pg_name (i := 4) sc__law_literal.nd rfl (Or.inl rfl))) (fun _ _ _ _ _ => pts_nil) (fun _ _ _ _ _ => (Gx.pe_pos (p__law_term T) hr (by decide) (by rfl) b__law_term pass0 (pa_cons (pv 0) (pa_cons (pv 1) pa_nil))))) pa_nil)))
      (pss_one (ps_ret (pe_tup (pa_cons (pe_ix ix_list (pe_lst (pa_cons pe_str (pa_cons pe_str pa_nil))) (pe_callTy call_int1 (by rfl) T.b_int (by decide +kernel) (pa_cons (pe_cmpR op_gt (pv 2) pe_int (nomark _)) pa_nil)) (fun _ _ => rfl)) (pa_cons (Gx.pe_pos (p__law_word T) hr (by decide) (by rfl) b__law_word pass0 (pa_cons (pv 0) (pa_cons (Gx.pe_pos (p__law_pick T) hr (by decide) (by rfl) b__law_pick pass0 (pa_cons (pv 0) (pa_cons pe_str pa_nil))) pa_nil))) (pa_cons (pv 3) pa_nil))))))))), ?_⟩
    refine ⟨_, rfl, p, _, rfl, hp, by decide, by decide, fun r H1 r0 r1 hp1 k1 => ?_⟩
    have hn1 := hn.kp k1
    refine ⟨_, rfl, _, _, rfl, rfl, _, rfl, ?_⟩
    show if decide ((5 : Int) < r) = true then _ else _
    by_cases c : 5 < r
    · rw [decide_eq_true c]
      refine iteT ⟨_, rfl, _, rfl, _, rfl, p, _, rfl, hp1, .inl ⟨o, _, rfl, hn1.1, hn1.2.1, by rw [List.length_map]; exact hn1.2.2.1, by rw [List.length_map]; exact Nat.le_trans hn1.2.2.2.1 (by decide), fun x H2 hx hp2 k2 => ?_⟩⟩
      obtain ⟨z, hz, rfl⟩ := List.mem_map.mp hx
      have nz := hn1.2.2.2.2 z hz
      have hn2 := hn1.kp k2
      refine ⟨_, rfl, _, rfl, p, o, zs, rfl, hp2, hn2, fun v H3 hv hp3 k3 => ⟨by show 2 ≤ sizeLine; decide, fun l hl => ?_⟩⟩
      have s3 := Gx.sameU hl (o := .lst [.str z, v])
      refine ⟨p, l, [.str z, v], rfl, hp3.same s3, hp3.ne hl, .inl upd_same, by show 2 ≤ 60; decide, ?_, fun l2 ys H4 pm n2 h4 hp4 k4 => ?_⟩
      · intro x hx
        simp only [List.mem_cons, List.not_mem_nil, or_false] at hx
        rcases hx with rfl | rfl
        · exact (TermV.str z nz hz).fl
        · exact hv.fl
      · have kk : Gx.Kp p H H4 := (((k1.trans k2).trans k3).trans (Gx.Kp.of s3)).trans k4
        match ys, pm with
        | [y0, y1], pm =>
          have tm : ∀ y ∈ [y0, y1], TermV zs y := fun y hy => by
            have := pm.mem_iff.mp hy
            simp only [List.mem_cons, List.not_mem_nil, or_false] at this
            rcases this with rfl | rfl
            · exact .str z nz hz
            · exact hv
          have st : strD (dV y0) = true ∨ strD (dV y1) = true := by
            have := pm.mem_iff.mpr (show V.str z ∈ [V.str z, v] by simp)
            simp only [List.mem_cons, List.not_mem_nil, or_false] at this
            rcases this with e | e
            · exact .inl (by rw [← e]; rfl)
            · exact .inr (by rw [← e]; rfl)
          refine ⟨_, rfl, by show 4 ≤ sizeLine; decide, fun l3 hl3 => ?_⟩
          have s5 := Gx.sameU hl3 (o := .lst [.str "<", .str "<=", .str "=", .str "!="])
          refine ⟨p, _, rfl, hp4.same s5, .inl ⟨l3, _, rfl, hp4.ne hl3, upd_same, by show 0 < 4; decide, by show 4 ≤ 1000; decide, fun sg H5 hsg hp5 k5 => ?_⟩⟩
          have n2p : l2 ≠ p := (hp3.same s3).ne n2
          have h45 := k5 _ _ n2p (s5 _ _ h4)
          refine ⟨_, rfl, l2, _, 0, y0, rfl, rfl, SqL.of h45, rfl, _, rfl, l2, _, 1, y1, rfl, rfl, SqL.of h45, rfl, by show 3 ≤ sizeLine; decide, fun t ht => ?_⟩
          obtain ⟨sz, rfl, hsz⟩ : ∃ sz : Str, sg = .str sz ∧ (sz = "<" ∨ sz = "<=" ∨ sz = "=" ∨ sz = "!=") := by
            simp only [List.mem_cons, List.not_mem_nil, or_false] at hsg
            rcases hsg with rfl | rfl | rfl | rfl
            · exact ⟨_, rfl, .inl rfl⟩
            · exact ⟨_, rfl, .inr (.inl rfl)⟩
            · exact ⟨_, rfl, .inr (.inr (.inl rfl))⟩
            · exact ⟨_, rfl, .inr (.inr (.inr rfl))⟩
          have okz : sz.length ≤ 100 ∧ ∀ c ∈ sz.cps.toList, c < 128 := by rcases hsz with rfl | rfl | rfl | rfl <;> decide +kernel
          obtain ⟨d0, t0⟩ := (tm y0 (by simp)).dat (p := p) (H := L2.upd H5 t (.tup [.str sz, y0, y1]))
          obtain ⟨d1, t1⟩ := (tm y1 (by simp)).dat (p := p) (H := L2.upd H5 t (.tup [.str sz, y0, y1]))
          refine q t (.tuple [.str sz, dV y0, dV y1]) _ (hp5.ne ht) (.tup (hp5.ne ht) upd_same (.cons (.str sz okz.1 okz.2) (.cons d0 (.cons d1 .nil)))) (lit_cmp hsz t0 t1 st) (fun y hy => ?_) (hp5.same (Gx.sameU ht)) (((kk.trans (Gx.Kp.of s5)).trans k5).trans (Gx.Kp.of (Gx.sameU ht)))
          have e0 : rowW (.str sz) = false := by rcases hsz with rfl | rfl | rfl | rfl <;> decide +kernel
          have hy : PyData.str y ∈ [dV y0, dV y1] := by simpa [termsOf, e0] using hy
          simp only [List.mem_cons, List.not_mem_nil, or_false] at hy
          rcases hy with e | e
          · exact (tm y0 (by simp)).of e
          · exact (tm y1 (by simp)).of e
        | [], pm => exact absurd pm.length_eq (by simp)
        | [_], pm => exact absurd pm.length_eq (by simp)
        | _ :: _ :: _ :: _, pm => exact absurd pm.length_eq (by simp)
    · rw [decide_eq_false c]
      refine iteF ⟨_, rfl, p, _, rfl, hp1, by decide, by decide, fun r2 H2 i0 i1 hp2 k2 => ⟨_, _, rfl, rfl, 1 + r2, rfl, by omega, by omega, fun D hD => ?_⟩⟩
      obtain ⟨m, rfl⟩ : ∃ m : Nat, r2 = (m : Int) := ⟨r2.toNat, by omega⟩
      rw [show (1 + (m : Int)).toNat = m + 1 by omega]
      have nDp := hp2.ne hD
      have hn2 := hn1.kp k2
      refine lc_range (lo := 0) (n := m + 1) (fun i H' => Pot p H' ∧ Gx.Kp p H2 H' ∧ ∃ l : List V, l.length = i ∧ (∀ v ∈ l, TermV zs v) ∧ H' D = some (.lst l))
        ⟨hp2.same (Gx.sameU hD), Gx.Kp.of (Gx.sameU hD), [], rfl, (fun _ h => nomatch h), upd_same⟩ (fun i H4 hi h => ?_) fun H4 h => ?_
      · obtain ⟨R4, k4, l, hl, hs, hd⟩ := h
        refine ⟨rfl, _, rfl, _, rfl, p, o, zs, rfl, R4, hn2.kp k4, fun v H5 hv R5 k5 => ⟨_, k5 _ _ nDp hd, ?_, ?_, ?_, l ++ [v], ?_, ?_, ?_⟩⟩
        · rw [hl]
          exact Nat.lt_of_le_of_lt (show i ≤ 12 by omega) (by decide)
        · obtain ⟨a, b, e, o⟩ := R5
          exact ⟨a, b, by rw [upd_ne nDp.symm]; exact e, o⟩
        · intro b o nb e
          rw [upd_ne (ne_of_none e hD)]
          exact (k4.trans k5) b o nb e
        · rw [List.length_append, hl]
          rfl
        · intro x hx
          rcases List.mem_append.mp hx with h | h
          · exact hs x h
          · rw [List.mem_singleton.mp h]
            exact hv
        · exact upd_same
      · obtain ⟨R4, k4, l, hl, hs, hd⟩ := h
        refine ⟨D, l, rfl, .inl ⟨SqL.of hd, fun t2 ht2 => ?_⟩⟩
        have s5 := Gx.sameU ht2 (o := .tup l)
        refine ⟨by show 2 ≤ sizeLine; decide, fun l3 hl3 => ?_⟩
        have s6 := s5.trans (Gx.sameU hl3 (o := .lst [.str "row", .str "none"]))
        refine ⟨_, rfl, _, _, rfl, rfl, .inr ⟨_, rfl, ?_⟩⟩
        have R6 := R4.same s6
        have go : ∀ kz : Str, kz = "row" ∨ kz = "none" → atI [V.str "row", V.str "none"] (if decide ((3 : Int) < r) = true then 1 else 0) = some (V.str kz) → True := fun _ _ _ => trivial
        obtain ⟨kz, hk, ha⟩ : ∃ kz : Str, (kz = "row" ∨ kz = "none") ∧ atI [V.str "row", V.str "none"] (if decide ((3 : Int) < r) = true then 1 else 0) = some (V.str kz) := by
          by_cases c3 : (3 : Int) < r
          · rw [decide_eq_true c3]
            exact ⟨"none", .inr rfl, rfl⟩
          · rw [decide_eq_false c3]
            exact ⟨"row", .inl rfl, rfl⟩
        have okk : kz.length ≤ 100 ∧ ∀ c ∈ kz.cps.toList, c < 128 := by rcases hk with rfl | rfl <;> decide +kernel
        refine ⟨l3, _, _, _, rfl, rfl, SqL.of upd_same, ha, _, rfl, _, rfl, p, _, rfl, R6, .inr ⟨_, rfl, by decide +kernel, by decide +kernel, fun cc H6 hc R7 k7 => ?_⟩⟩
        have hcc : ∀ c ∈ (("acd" : String) : Str).cps.toList, isLw c = true ∧ c ≠ 110 ∧ c ≠ 98 := by decide +kernel
        obtain ⟨w0, w1, w2⟩ := hcc cc hc
        refine ⟨p, cc, rfl, R7, w0, w1, w2, fun y H7 hy R8 k8 => ⟨_, rfl, by show 3 ≤ sizeLine; decide, fun t ht => ?_⟩⟩
        have n2p := R4.ne ht2
        have h8 : H7 t2 = some (.tup l) := k8 _ _ n2p (k7 _ _ n2p ((Gx.sameU hl3) _ _ upd_same))
        have s9 := Gx.sameU ht (o := .tup [.str kz, .str y, .ref t2])
        have dl : ∀ {ls : List V}, (∀ v ∈ ls, TermV zs v) → Gx.DatL p (L2.upd H7 t (.tup [.str kz, .str y, .ref t2])) ls (ls.map dV) ∧ ∀ e ∈ ls.map dV, termD e = true := by
          intro ls
          induction ls with
          | nil => exact fun _ => ⟨.nil, fun _ h => by cases h⟩
          | cons v r ih =>
            intro h
            obtain ⟨a1, a2⟩ := ih fun y hy => h y (List.mem_cons_of_mem _ hy)
            obtain ⟨b1, b2⟩ := (h v (by simp)).dat (p := p) (H := L2.upd H7 t (.tup [.str kz, .str y, .ref t2]))
            refine ⟨.cons b1 a1, fun e he => ?_⟩
            rcases List.mem_cons.mp he with rfl | he
            · exact b2
            · exact a2 e he
        obtain ⟨d1, d2⟩ := dl hs
        have oky := lw_ok hy
        refine q t (.tuple [.str kz, .str y, .tuple (l.map dV)]) _ (R8.ne ht) (.tup (R8.ne ht) upd_same (.cons (.str kz okk.1 okk.2) (.cons (.str y oky.1 oky.2) (.cons (.tup n2p (s9 _ _ h8) d1) .nil))))
          (lit_row hk hy (by rw [List.length_map]; omega) (by rw [List.length_map]; omega) d2) (fun z hz => ?_) (R8.same s9) ((((((k1.trans k2).trans k4).trans (Gx.Kp.of s6)).trans k7).trans k8).trans (Gx.Kp.of s9))
        have e0 : rowW (.str kz) = true := by rcases hk with rfl | rfl <;> decide +kernel
        have hz : PyData.str z ∈ l.map dV := by simpa [termsOf, e0] using hz
        obtain ⟨x, hx, e⟩ := List.mem_map.mp hz
        exact (hs x hx).of e.symm
end
end My
namespace My
open PySem PySem.Spec PyProof.Rows L2
/-! ### small data -/
theorem small_log {i : Int} (h : i.natAbs < 10 ^ 100) : i.natAbs.log2 < 1920 := PySem.Flt.log2_lt_of (by decide) (Nat.lt_of_lt_of_le h (by decide +kernel))
theorem small_text {i : Int} (h : i.natAbs < 10 ^ 100) : (Str.ofString (toString i)).length ≤ 200 := by
  have e := int_text_length_le10 (k := 100) (by decide) h
  rw [PySem.ofString_length]
  omega
theorem wt_int {i : Int} (h : i.natAbs < 2 ^ 11) : PyData.weight (.int i) ≤ 11 := by
  have := PySem.Flt.log2_lt_of (k := 11) (by decide) h
  simp only [PyData.weight]
  split <;> omega
section
variable {N : Addr → Prop} {p e : Addr} {H : Hp}
mutual
/-- data can be shown -/
theorem dat_sh : ∀ {v : V} {d : PyData}, Gx.DatN N H v d → d.hasDict = false → d.showable = true ∧ d.leavesShort 200 = true
  | _, _, .non, _ => ⟨by simp [PyData.showable], by decide⟩
  | _, _, .bl b, _ => ⟨by simp [PyData.showable], by cases b <;> decide⟩
  | _, _, .int i h, _ => ⟨by simpa [PyData.showable] using small_log h, by simp only [PyData.leavesShort, decide_eq_true_eq]; exact small_text h⟩
  | _, _, .str z h a, _ => ⟨by simp [PyData.showable], by simp only [PyData.leavesShort, List.all_eq_true, decide_eq_true_eq]; exact fun c hc => Nat.lt_trans (a c hc) (by decide)⟩
  | _, _, .lst _ _ r, e => let ⟨a, b⟩ := datL_sh r (by simpa only [PyData.hasDict] using e); ⟨by simpa only [PyData.showable] using a, by simpa only [PyData.leavesShort] using b⟩
  | _, _, .tup _ _ r, e => let ⟨a, b⟩ := datL_sh r (by simpa only [PyData.hasDict] using e); ⟨by simpa only [PyData.showable] using a, by simpa only [PyData.leavesShort] using b⟩
  | _, _, .nil _ _, e => by simp [PyData.hasDict] at e
  | _, _, .one k _ _ r, e => by simp [PyData.hasDict] at e
theorem datL_sh : ∀ {vs : List V} {ds : List PyData}, Gx.DatNL N H vs ds → PyData.hasDictAll ds = false → PyData.showableAll ds = true ∧ PyData.leavesShortAll 200 ds = true
  | _, _, .nil, _ => ⟨by simp [PyData.showableAll], by simp [PyData.leavesShortAll]⟩
  | _, _, .cons h r, e => by
    simp only [PyData.hasDictAll, Bool.or_eq_false_iff] at e
    obtain ⟨a, b⟩ := dat_sh h e.1
    obtain ⟨a2, b2⟩ := datL_sh r e.2
    exact ⟨by simp [PyData.showableAll, a, a2], by simp [PyData.leavesShortAll, b, b2]⟩
end
mutual
/-- data without dicts can be compared -/
theorem dat_can : ∀ {v : V} {d : PyData}, Gx.DatN N H v d → d.hasDict = false → d.canLay0 = true
  | _, _, .non, _ => by simp [PyData.canLay0]
  | _, _, .bl b, _ => by simp [PyData.canLay0]
  | _, _, .int i h, _ => by simp [PyData.canLay0]
  | _, _, .str z h a, _ => by simp only [PyData.canLay0, (show okZ z from ⟨h, a⟩).ok]
  | _, _, .lst _ _ r, e => by simpa only [PyData.canLay0] using datL_can r (by simpa only [PyData.hasDict] using e)
  | _, _, .tup _ _ r, e => by simpa only [PyData.canLay0] using datL_can r (by simpa only [PyData.hasDict] using e)
  | _, _, .nil _ _, e => by simp [PyData.hasDict] at e
  | _, _, .one k _ _ r, e => by simp [PyData.hasDict] at e
theorem datL_can : ∀ {vs : List V} {ds : List PyData}, Gx.DatNL N H vs ds → PyData.hasDictAll ds = false → PyData.canLayAll0 ds = true
  | _, _, .nil, _ => by simp [PyData.canLayAll0]
  | _, _, .cons h r, e => by
    simp only [PyData.hasDictAll, Bool.or_eq_false_iff] at e
    simp [PyData.canLayAll0, dat_can h e.1, datL_can r e.2]
end
mutual
/-- what is not yet there is not within -/
theorem dat_fresh {b : Addr} (hb : H b = none) : ∀ {v : V} {d : PyData}, Gx.DatN N H v d → Gx.DatN (fun a => N a ∧ a ≠ b) H v d
  | _, _, .non => .non
  | _, _, .bl b => .bl b
  | _, _, .int i h => .int i h
  | _, _, .str z h a => .str z h a
  | _, _, .lst n h r => .lst ⟨n, ne_of_none h hb⟩ h (datL_fresh hb r)
  | _, _, .tup n h r => .tup ⟨n, ne_of_none h hb⟩ h (datL_fresh hb r)
  | _, _, .nil n h => .nil ⟨n, ne_of_none h hb⟩ h
  | _, _, .one k n h r => .one k ⟨n, ne_of_none h hb⟩ h (dat_fresh hb r)
theorem datL_fresh {b : Addr} (hb : H b = none) : ∀ {vs : List V} {ds : List PyData}, Gx.DatNL N H vs ds → Gx.DatNL (fun a => N a ∧ a ≠ b) H vs ds
  | _, _, .nil => .nil
  | _, _, .cons h r => .cons (dat_fresh hb h) (datL_fresh hb r)
end
/-- neither p nor e -/
abbrev Nb (p e : Addr) : Addr → Prop := fun a => a ≠ p ∧ a ≠ e
/-- v holds data without dicts, of at most this weight and depth, none of it at p or e -/
def Sm (n k : Nat) (p e : Addr) (H : Hp) (v : V) : Prop := ∃ d, Gx.DatN (Nb p e) H v d ∧ d.weight ≤ n ∧ d.depth ≤ k ∧ d.hasDict = false
theorem Sm.kp {n k : Nat} {H' : Hp} {v : V} (h : Sm n k p e H v) (q : Gx.Kp p H H') : Sm n k p e H' v := let ⟨d, a, b⟩ := h; ⟨d, a.kn fun b o n => q b o n.1, b⟩
theorem Sm.mono {n k n2 k2 : Nat} {v : V} (h : Sm n k p e H v) (c1 : n ≤ n2) (c2 : k ≤ k2) : Sm n2 k2 p e H v := let ⟨d, a, b, c, z⟩ := h; ⟨d, a, Nat.le_trans b c1, Nat.le_trans c c2, z⟩
theorem Sm.via {m j : Nat} {G : Hp} {v : V} (k : Gx.Kp p H G) (h : (∀ {n k : Nat} {x : V}, Sm n k p e H x → Sm n k p e G x) → Sm m j p e G v) : Sm m j p e G v := h fun z => z.kp k
theorem sms {n k : Nat} : ∀ {xs : List V}, (∀ x ∈ xs, Sm n k p e H x) → ∃ ds, Gx.DatNL (Nb p e) H xs ds ∧ PyData.weightAll ds ≤ xs.length * (n + 1) ∧ PyData.depthAll ds ≤ k ∧ PyData.hasDictAll ds = false
  | [], _ => ⟨[], .nil, by simp [PyData.weightAll], by simp [PyData.depthAll], by simp [PyData.hasDictAll]⟩
  | x :: r, h => by
    obtain ⟨ds, a, b, c, e⟩ := sms (xs := r) fun y hy => h y (List.mem_cons_of_mem _ hy)
    obtain ⟨d, a2, b2, c2, e2⟩ := h x (by simp)
    refine ⟨d :: ds, .cons a2 a, ?_, ?_, ?_⟩
    · simp only [PyData.weightAll, List.length_cons, Nat.succ_mul]
      omega
    · simp only [PyData.depthAll]
      omega
    · simp [PyData.hasDictAll, e, e2]
theorem Sm.tup {n k m j : Nat} {a : Addr} {xs : List V} (na : Nb p e a) (h : H a = some (.tup xs)) (hx : ∀ x ∈ xs, Sm n k p e H x) (hm : xs.length * (n + 1) ≤ m) (hj : k + 1 ≤ j) : Sm m j p e H (.ref a) := by
  obtain ⟨ds, r, b, c, e⟩ := sms hx
  exact ⟨.tuple ds, .tup na h r, by simp only [PyData.weight]; omega, by simp only [PyData.depth]; omega, by simpa only [PyData.hasDict] using e⟩
theorem Sm.lst {n k m j : Nat} {a : Addr} {xs : List V} (na : Nb p e a) (h : H a = some (.lst xs)) (hx : ∀ x ∈ xs, Sm n k p e H x) (hm : xs.length * (n + 1) ≤ m) (hj : k + 1 ≤ j) : Sm m j p e H (.ref a) := by
  obtain ⟨ds, r, b, c, e⟩ := sms hx
  exact ⟨.list ds, .lst na h r, by simp only [PyData.weight]; omega, by simp only [PyData.depth]; omega, by simpa only [PyData.hasDict] using e⟩
theorem sm_str {n k : Nat} {z : Str} (h : z.length ≤ 11 ∧ ∀ c ∈ z.cps.toList, c < 128) : Sm (11 + n) k p e H (.str z) := ⟨_, .str z (by omega) h.2, by simp only [PyData.weight]; exact Nat.le_trans (by simpa [Str.length] using h.1) (Nat.le_add_right _ _), by simp [PyData.depth], by simp [PyData.hasDict]⟩
theorem sm_int {n k : Nat} {i : Int} (h : i.natAbs < 2 ^ 11) : Sm (11 + n) k p e H (.int i) := ⟨_, .int i (Nat.lt_trans h (by decide +kernel)), Nat.le_trans (wt_int h) (Nat.le_add_right _ _), by simp [PyData.depth], by simp [PyData.hasDict]⟩
theorem sm_bl {n k : Nat} {b : Bool} : Sm n k p e H (.bl b) := ⟨_, .bl b, by simp [PyData.weight], by simp [PyData.depth], by simp [PyData.hasDict]⟩
theorem sm_non {n k : Nat} : Sm n k p e H .non := ⟨_, .non, by simp [PyData.weight], by simp [PyData.depth], by simp [PyData.hasDict]⟩
theorem name_small {z : Str} (h : nameZ z = true) : z.length ≤ 11 ∧ ∀ c ∈ z.cps.toList, c < 128 := by
  have := (lw_ok h).2
  simp only [nameZ, Bool.and_eq_true, decide_eq_true_eq] at h
  exact ⟨by omega, this⟩
theorem sm_term {v : V} {d : PyData} (t : Gx.DatN (Nb p e) H v d) (h : termD d = true) : Sm 11 0 p e H v := by
  cases t with
  | str z hz ha =>
    have : (nameZ z || false) = true := h
    rw [Bool.or_false] at this
    exact sm_str (n := 0) (name_small this)
  | int i hi =>
    have : (false || (decide (0 ≤ i) && decide (i < 1024))) = true := h
    simp at this
    exact sm_int (n := 0) (by omega)
  | _ => cases h
/-- a literal, looked into -/
theorem lit_look {t : Addr} {d : PyData} (h : Gx.DatN (Nb p e) H (.ref t) d) (hl : litD d = true) : ∃ (k : Str) (vb vo : V), Nb p e t ∧ H t = some (.tup [.str k, vb, vo]) ∧ (k.length ≤ 11 ∧ ∀ c ∈ k.cps.toList, c < 128) ∧
    ((k = "row" ∨ k = "none") ∧ Sm 11 0 p e H vb ∧ (∃ a xs, vo = .ref a ∧ Nb p e a ∧ H a = some (.tup xs) ∧ 1 ≤ xs.length ∧ xs.length ≤ 4 ∧ ∀ x ∈ xs, Sm 11 0 p e H x) ∨
      (k ≠ "row" ∧ k ≠ "none") ∧ Sm 11 0 p e H vb ∧ Sm 11 0 p e H vo) := by
  match d, hl with
  | .tuple [dk, db, do_], hl =>
    cases h with
    | @tup a xs _ n h r =>
      match xs, r with
      | [vk, vb, vo], .cons tk (.cons tb (.cons to_ .nil)) =>
        simp only [litD] at hl
        cases c : rowW dk with
        | true =>
          rw [c, if_pos rfl, Bool.and_eq_true] at hl
          cases tk with
          | str z hz ha =>
            simp only [rowW, Bool.or_eq_true, decide_eq_true_eq] at c
            refine ⟨z, vb, vo, n, h, ?_, .inl ⟨c, sm_term tb (by simp [termD, hl.1]), ?_⟩⟩
            · rcases c with rfl | rfl <;> decide +kernel
            · cases to_ with
              | @tup a2 ys es n2 h2 r2 =>
                have h3 := hl.2
                simp only [termsD, Bool.and_eq_true, decide_eq_true_eq, List.all_eq_true] at h3
                refine ⟨a2, ys, rfl, n2, h2, by rw [r2.len]; exact h3.1, by rw [r2.len]; exact h3.2.1, fun x hx => ?_⟩
                obtain ⟨e, he, te⟩ := r2.mem hx
                exact sm_term te (h3.2.2 e he)
              | _ => exact absurd hl.2 (by simp [termsD])
          | _ => cases c
        | false =>
          rw [c, if_neg (by simp)] at hl
          simp only [Bool.and_eq_true] at hl
          cases tk with
          | str z hz ha =>
            simp only [rowW, Bool.or_eq_false_iff, decide_eq_false_iff_not] at c
            have h1 := hl.1
            simp only [signW, Bool.or_eq_true, decide_eq_true_eq] at h1
            refine ⟨z, vb, vo, n, h, ?_, .inr ⟨c, sm_term tb hl.2.1, sm_term to_ hl.2.2.1⟩⟩
            rcases h1 with rfl | rfl | rfl | rfl <;> decide +kernel
          | _ => exact absurd hl.1 (by simp [signW])
theorem Sm.lit {t : Addr} {d : PyData} (h : Gx.DatN (Nb p e) H (.ref t) d) (hl : litD d = true) : Sm 200 2 p e H (.ref t) := by
  obtain ⟨k, vb, vo, n, e, hk, ⟨_, hb, a, xs, rfl, na, ha, _, l4, hx⟩ | ⟨_, hb, ho⟩⟩ := lit_look h hl
  · refine .tup (n := 48) (k := 1) n e (fun x hx' => ?_) (by show 3 * 49 ≤ 200; decide) (by decide)
    simp only [List.mem_cons, List.not_mem_nil, or_false] at hx'
    rcases hx' with rfl | rfl | rfl
    · exact sm_str (n := 37) hk
    · exact hb.mono (by decide) (by decide)
    · exact .tup (n := 11) (k := 0) na ha hx (by omega) (by decide)
  · refine .tup (n := 11) (k := 0) n e (fun x hx' => ?_) (by show 3 * 12 ≤ 200; decide) (by decide)
    simp only [List.mem_cons, List.not_mem_nil, or_false] at hx'
    rcases hx' with rfl | rfl | rfl
    · exact sm_str (n := 0) hk
    · exact hb
    · exact ho
end
/-- the pot at p, a list at e -/
structure PotN (p e : Addr) (H : Hp) : Prop where
  pot : Pot p H
  el : ∃ ws, H e = some (.lst ws)
theorem PotN.same {p e : Addr} {H H' : Hp} (h : PotN p e H) (s : Same H H') : PotN p e H' := ⟨h.pot.same s, let ⟨ws, z⟩ := h.el; ⟨ws, s _ _ z⟩⟩
theorem PotN.kp {p e : Addr} {H H' : Hp} (h : PotN p e H) (q : Pot p H') (k : Gx.Kp p H H') : PotN p e H' := ⟨q, by
  by_cases c : e = p
  · rw [c]
    obtain ⟨a, b, z, _⟩ := q
    exact ⟨_, z⟩
  · obtain ⟨ws, z⟩ := h.el
    exact ⟨ws, k _ _ c z⟩⟩
theorem PotN.ne {p e q : Addr} {H : Hp} (h : PotN p e H) (n : H q = none) : Nb p e q := ⟨h.pot.ne n, fun z => by
  obtain ⟨ws, h2⟩ := h.el
  rw [← z, n] at h2
  cases h2⟩
theorem PotN.tne {p e r : Addr} {H : Hp} {ws : List V} (h : PotN p e H) (x : H r = some (.tup ws)) : Nb p e r := by
  refine ⟨fun z => ?_, fun z => ?_⟩
  · obtain ⟨a, b, e2, _⟩ := h.pot
    rw [z, e2] at x
    cases x
  · obtain ⟨ws, h2⟩ := h.el
    rw [z, h2] at x
    cases x
theorem Pot.n {p : Addr} {H : Hp} (h : Pot p H) : PotN p p H := ⟨h, let ⟨_, _, e, _⟩ := h; ⟨_, e⟩⟩
section
variable {X : Cx}
/-- t + u, whichever of them the answer is -/
def rCatB : R2 := fun x y H Q => ∃ a b xs ys, x = .ref a ∧ y = .ref b ∧ H a = some (.tup xs) ∧ H b = some (.tup ys) ∧ xs.length + ys.length ≤ sizeLine ∧ ∀ r H', Same H H' → H' r = some (.tup (xs ++ ys)) → Q (.ref r) H'
theorem op_catB : OpR X (binaryOp .Add) rCatB := by
  intro pins s σ H x y v u Q I rx ry h
  obtain ⟨a, b, xs, ys, rfl, rfl, ha, hb, hl, q⟩ := h
  refine op_catA pins s σ H _ _ v u Q I rx ry ⟨a, b, xs, ys, rfl, rfl, SqT.of ha, SqT.of hb, hl, fun e => ?_, fun _ e => ?_, fun _ _ t ht => q t _ (Gx.sameU ht) upd_same⟩
  · exact q b H (Same.refl H) (by rw [hb, e, List.nil_append])
  · exact q a H (Same.refl H) (by rw [ha, e, List.append_nil])
/-- t[lo:hi], also the whole of it -/
def rSlB : V → Option Int → Option Int → Hp → VK → Prop := fun x lo hi H Q => ∃ a xs, x = .ref a ∧ H a = some (.tup xs) ∧ ∀ r H', Same H H' → H' r = some (.tup (cutV xs lo hi)) → Q (.ref r) H'
theorem sl_tupB : SlR X rSlB := by
  intro pins s σ H x v vl vu lo hi sl Q I rx hs pl pu h
  obtain ⟨a, xs, rfl, hx, q⟩ := h
  refine sl_tupA pins s σ H _ v vl vu lo hi sl Q I rx hs pl pu ⟨a, xs, rfl, SqT.of hx, fun e => q a H (Same.refl H) ?_, fun _ t ht => q t _ (Gx.sameU ht) upd_same⟩
  rw [hx]
  unfold cutV
  rw [e.1, e.2]
  simp
theorem cut_1 (xs : List V) : cutV xs (some 1) none = xs.drop 1 := by
  have e := HT.sIx_nat xs.length 0 1
  unfold cutV
  rw [show (some 1 : Option Int) = some ((1 : Nat) : Int) from rfl, e, HT.sIx_none]
  cases xs with
  | nil => rfl
  | cons x r =>
    rw [show min 1 (x :: r).length = 1 by simp, List.drop_one, List.tail_cons, List.take_of_length_le (by simp)]
theorem cut_to (xs : List V) (n : Nat) : cutV xs none (some (n : Int)) = xs.take n := by
  have e := HT.sIx_nat xs.length xs.length n
  unfold cutV
  rw [e, HT.sIx_none]
  by_cases c : n ≤ xs.length
  · rw [Nat.min_eq_left c]
    rfl
  · rw [Nat.min_eq_right (by omega), List.take_of_length_le (show xs.length ≤ n by omega)]
    simp
end
end My
namespace My
open PySem PySem.Spec PyProof.Rows L2
section
variable {P : Program} {w : World} {K : PySem.W.Frag} {mg : Str → Option Value} {base : Heap}
def spOddRow : Sp := fun vs H Q _ => ∃ (p e t : Addr) (k : Str) (vb : V) (a : Addr) (xs : List V), vs = [.ref p, .ref t] ∧ PotN p e H ∧ H t = some (.tup [.str k, vb, .ref a]) ∧ (k.length ≤ 11 ∧ ∀ c ∈ k.cps.toList, c < 128) ∧ Sm 11 0 p e H vb ∧ Nb p e a ∧ H a = some (.tup xs) ∧
  1 ≤ xs.length ∧ xs.length ≤ 4 ∧ (∀ x ∈ xs, Sm 11 0 p e H x) ∧ ∀ v H', Sm 1000 5 p e H' v → Pot p H' → Gx.Kp p H H' → Q v H'
theorem p__law_odd_row (T : Mo K mg) : Gx.Pr P w K mg base CX0 3 "_law_odd_row" s__law_odd_row ["_law_pot_here", "_law_literal_here"] spOddRow := by
  refine T.d__law_odd_row.ok sc__law_odd_row (fun vs H Q E h => ?_) (fun f cdv A outer s H vs Q E hr h => ?_)
  · obtain ⟨p, e, t, k, vb, a, xs, rfl, _⟩ := h
    rfl
  · obtain ⟨p, e, t, k, vb, a, xs, rfl, hp, ht, hk, hb, na, ha, l1, l4, hx, q⟩ := h
    refine ⟨_, (pss_cons (ps_asg (pv 1) (pg_tup rfl (pgs_cons (pg_name (i := 2) sc__law_odd_row.nd rfl (Or.inr rfl)) (pgs_cons (pg_name (i := 3) sc__law_odd_row.nd rfl (Or.inl rfl)) (pgs_cons (pg_name (i := 4) sc__law_odd_row.nd rfl (Or.inr rfl)) pgs_nil)))))
      (pss_cons (ps_set (i := 5) sc__law_odd_row.nd rfl (Or.inl rfl) (pe_lst (pa_cons pe_bl (pa_cons pe_bl (pa_cons pe_int (pa_cons (pe_un un_neg pe_int) (pa_cons pe_non (pa_cons pe_str (pa_cons pe_str (pa_cons pe_str (pa_cons pe_str (pa_cons pe_str (pa_cons (pe_lst (pa_cons (pe_ix ix_tup (pv 4) pe_int (fun _ _ => rfl)) pa_nil)) (pa_cons (pe_tup (pa_cons (pe_ix ix_tup (pv 4) pe_int (fun _ _ => rfl)) pa_nil)) (pa_cons pe_str pa_nil)))))))))))))))
      (pss_cons (ps_set (i := 6) sc__law_odd_row.nd rfl (Or.inl rfl) (Gx.pe_pos (p__law_pick T) hr (by decide) (by rfl) b__law_pick pass0 (pa_cons (pv 0) (pa_cons (pv 5) pa_nil))))
      (pss_cons (ps_setLc (i := 7) (own := [("_law_title", 8)]) (g := gName 8) (tt := tYes) rfl sc__law_odd_row.nd rfl rfl (sw_true rfl rfl rfl (by decide +kernel)) (pi_list (pe_lst (pa_cons pe_str (pa_cons pe_str (pa_cons pe_str (pa_cons pe_str (pa_cons pe_str (pa_cons pe_str (pa_cons pe_non (pa_cons pe_int (pa_cons (pe_tup (pa_cons pe_str pa_nil)) (pa_cons (pe_lst (pa_cons pe_str pa_nil)) pa_nil)))))))))))) (blkOk_by (N := N__law_odd_row) (sc := defScope s__law_odd_row) (by decide +kernel)) (fun _ _ _ _ _ => (pg_name (i := 8) sc__law_odd_row.nd rfl (Or.inl rfl))) (fun _ _ _ _ _ => pts_nil) (fun _ _ _ _ _ => (pe_tup (pa_cons (pv 2) (pa_cons (pv 8) (pa_cons (pv 4) pa_nil))))))
      (pss_cons (ps_set (i := 7) sc__law_odd_row.nd rfl (Or.inl rfl) (pe_op op_cat (pv 7) (pe_lst (pa_cons (pe_tup (pa_cons (pv 2) (pa_cons (pv 3) (pa_cons (pe_callTy call_list_of (by rfl) T.b_list (by decide +kernel) (pa_cons (pv 4) pa_nil)) pa_nil)))) (pa_cons (pe_tup (pa_cons (pv 2) (pa_cons (pv 3) (pa_cons (pe_tup pa_nil) pa_nil)))) (pa_cons (pe_tup (pa_cons (pv 2) (pa_cons (pv 3) (pa_cons (pe_op op_repT (pv 4) pe_int) pa_nil)))) (pa_cons (pe_tup (pa_cons (pv 2) (pa_cons (pv 3) (pa_cons (pe_ix ix_tup (pv 4) pe_int (fun _ _ => rfl)) pa_nil)))) pa_nil)))))))
      (pss_cons (ps_set (i := 7) sc__law_odd_row.nd rfl (Or.inl rfl) (pe_op op_cat (pv 7) (pe_lst (pa_cons (pe_tup (pa_cons (pv 2) (pa_cons (pv 3) (pa_cons (pe_op op_catB (pe_slice sl_tupB (pv 4) (po_some pe_int) po_none) (pe_tup (pa_cons (pv 6) pa_nil))) pa_nil)))) (pa_cons (pe_tup (pa_cons (pv 2) (pa_cons (pv 3) (pa_cons (pe_op op_catB (pe_tup (pa_cons (pv 6) pa_nil)) (pe_slice sl_tupB (pv 4) (po_some pe_int) po_none)) pa_nil)))) pa_nil)))))
      (pss_one (ps_ret (Gx.pe_pos (p__law_pick T) hr (by decide) (by rfl) b__law_pick pass0 (pa_cons (pv 0) (pa_cons (pv 7) pa_nil))))))))))), ?_⟩
    match xs, l1 with
    | x0 :: r, _ =>
    have at0 : atI (x0 :: r) 0 = some x0 := atI_nat (j := 0) rfl
    refine ⟨_, rfl, t, _, rfl, SqT.of ht, rfl, _, _, rfl, _, _, rfl, _, _, rfl, rfl, ?_⟩
    refine ⟨_, rfl, _, rfl, a, _, 0, x0, rfl, rfl, SqT.of ha, at0, by show 1 ≤ sizeLine; decide, fun a1 n1 => ?_⟩
    have s1 := Gx.sameU n1 (o := .lst [x0])
    refine ⟨_, rfl, a, _, 0, x0, rfl, rfl, SqT.of (s1 _ _ ha), at0, by show 1 ≤ sizeLine; decide, fun a2 n2 => ?_⟩
    have s2 := Gx.sameU n2 (o := .tup [x0])
    refine ⟨by show 13 ≤ sizeLine; decide, fun o no => ?_⟩
    have s3 := Gx.sameU no (o := .lst [.bl true, .bl false, .int 1024, .int (-1), .non, .str "", .str "Z", .str "not", .str "by", .str "ninechars", .ref a1, .ref a2, .str "a1"])
    have s13 := (s1.trans s2).trans s3
    have hp1 := hp.same s13
    have na1 := hp.ne n1
    have na2 := (hp.same s1).ne n2
    have x03 : Sm 11 0 p e _ x0 := (hx x0 (by simp)).kp (Gx.Kp.of s13)
    refine ⟨_, rfl, _, rfl, p, _, rfl, hp1.pot, .inl ⟨o, _, rfl, ((hp.same (s1.trans s2)).ne no).1, upd_same, by show 0 < 13; decide, by show 13 ≤ 1000; decide, fun odd H2 hodd hp2 k2 => ?_⟩⟩
    have hp2 := hp1.kp hp2 k2
    have odd2 : Sm 20 1 p e H2 odd := by
      refine Sm.kp ?_ k2
      simp only [List.mem_cons, List.not_mem_nil, or_false] at hodd
      rcases hodd with rfl | rfl | rfl | rfl | rfl | rfl | rfl | rfl | rfl | rfl | rfl | rfl | rfl
      · exact sm_bl
      · exact sm_bl
      · exact sm_int (n := 9) (by decide)
      · exact sm_int (n := 9) (by decide)
      · exact sm_non
      · exact sm_str (n := 9) (by decide +kernel)
      · exact sm_str (n := 9) (by decide +kernel)
      · exact sm_str (n := 9) (by decide +kernel)
      · exact sm_str (n := 9) (by decide +kernel)
      · exact sm_str (n := 9) (by decide +kernel)
      · exact .lst (n := 11) (k := 0) na1 (s3 _ _ (s2 _ _ upd_same)) (fun x h => by rw [List.mem_singleton.mp h]; exact x03) (by show 1 * 12 ≤ 20; decide) (by decide)
      · exact .tup (n := 11) (k := 0) na2 (s3 _ _ upd_same) (fun x h => by rw [List.mem_singleton.mp h]; exact x03) (by show 1 * 12 ≤ 20; decide) (by decide)
      · exact sm_str (n := 9) (by decide +kernel)
    have kk2 : Gx.Kp p H H2 := (Gx.Kp.of s13).trans k2
    refine ⟨by show 1 ≤ sizeLine; decide, fun a4 n4 => ⟨by show 1 ≤ sizeLine; decide, fun a5 n5 => ⟨by show 10 ≤ sizeLine; decide, fun o2 no2 => ?_⟩⟩⟩
    have s4 := Gx.sameU n4 (o := .tup [.str "a"])
    have s5 := Gx.sameU n5 (o := .lst [.str "a"])
    have s6 := Gx.sameU no2 (o := .lst [.str "not", .str "by", .str "", .str "A", .str "ninechars", .str "a_", .non, .int 5, .ref a4, .ref a5])
    have s46 := (s4.trans s5).trans s6
    have hp3 := hp2.same s46
    have na4 := hp2.ne n4
    have na5 := (hp2.same s4).ne n5
    have h2o : _ = some (HO.lst [.str "not", .str "by", .str "", .str "A", .str "ninechars", .str "a_", .non, .int 5, .ref a4, .ref a5]) := upd_same (H := L2.upd (L2.upd H2 a4 (.tup [.str "a"])) a5 (.lst [.str "a"])) (a := o2)
    have sm5 : ∀ y ∈ [V.str "not", .str "by", .str "", .str "A", .str "ninechars", .str "a_", .non, .int 5, .ref a4, .ref a5], Sm 20 1 p e (L2.upd (L2.upd (L2.upd H2 a4 (.tup [.str "a"])) a5 (.lst [.str "a"])) o2 (.lst [.str "not", .str "by", .str "", .str "A", .str "ninechars", .str "a_", .non, .int 5, .ref a4, .ref a5])) y := by
      intro y hy
      simp only [List.mem_cons, List.not_mem_nil, or_false] at hy
      rcases hy with rfl | rfl | rfl | rfl | rfl | rfl | rfl | rfl | rfl | rfl
      · exact sm_str (n := 9) (by decide +kernel)
      · exact sm_str (n := 9) (by decide +kernel)
      · exact sm_str (n := 9) (by decide +kernel)
      · exact sm_str (n := 9) (by decide +kernel)
      · exact sm_str (n := 9) (by decide +kernel)
      · exact sm_str (n := 9) (by decide +kernel)
      · exact sm_non
      · exact sm_int (n := 9) (by decide)
      · exact .tup (n := 11) (k := 0) na4 (s6 _ _ (s5 _ _ upd_same)) (fun x h => by rw [List.mem_singleton.mp h]; exact sm_str (n := 0) (by decide +kernel)) (by show 1 * 12 ≤ 20; decide) (by decide)
      · exact .lst (n := 11) (k := 0) na5 (s6 _ _ upd_same) (fun x h => by rw [List.mem_singleton.mp h]; exact sm_str (n := 0) (by decide +kernel)) (by show 1 * 12 ≤ 20; decide) (by decide)
    clear s6 s5 na4 na5
    revert s46 hp3 h2o sm5
    generalize L2.upd (L2.upd (L2.upd H2 a4 (.tup [.str "a"])) a5 (.lst [.str "a"])) o2 (.lst [.str "not", .str "by", .str "", .str "A", .str "ninechars", .str "a_", .non, .int 5, .ref a4, .ref a5]) = H3
    intro s46 hp3 h2o sm5
    refine ⟨o2, rfl, ⟨_, SqL.of h2o⟩, fun D hD => ?_⟩
    have nDp := hp3.ne hD
    refine lc_it (walk_list (K := K) (a := o2) (xs := [V.str "not", .str "by", .str "", .str "A", .str "ninechars", .str "a_", .non, .int 5, .ref a4, .ref a5]))
      (fun i H' => Same H3 H' ∧ ∃ l : List V, l.length = i ∧ (∀ x ∈ l, ∃ t y, x = .ref t ∧ Nb p e t ∧ Sm 20 1 p e H3 y ∧ H' t = some (.tup [.str k, y, .ref a])) ∧ H' D = some (.lst l))
      ⟨Gx.sameU hD, [], rfl, (fun _ h => nomatch h), upd_same⟩ (fun i H' _ h' => .inl (.inl (h'.1 _ _ h2o))) (fun i v H4 H5 hi h' Y => ?_) fun H4 h' => ?_
    · obtain ⟨s7, l, hl, hs, hd⟩ := h'
      obtain ⟨rfl, he⟩ := Y
      have hv := sm5 v (List.mem_of_getElem? he)
      refine ⟨rfl, _, rfl, _, rfl, _, rfl, by show 3 ≤ sizeLine; decide, fun t nt => ⟨_, (Gx.sameU nt) _ _ hd, ?_, ?_, l ++ [.ref t], ?_, ?_, upd_same⟩⟩
      · rw [hl]
        exact Nat.lt_of_lt_of_le hi (by show 10 ≤ sizeLine; decide)
      · intro b ob ee
        rw [upd_ne (ne_of_none ee hD)]
        exact (s7.trans (Gx.sameU nt)) b ob ee
      · rw [List.length_append, hl]
        rfl
      · have nDt : t ≠ D := fun e => by
          rw [e, hd] at nt
          cases nt
        intro x hx'
        rcases List.mem_append.mp hx' with h | h
        · obtain ⟨t', y, e1, e2, e3, e4⟩ := hs x h
          refine ⟨t', y, e1, e2, e3, ?_⟩
          rw [upd_ne fun e => ?_]
          · exact (Gx.sameU nt) _ _ e4
          · rw [e, hd] at e4
            cases e4
        · refine ⟨t, v, List.mem_singleton.mp h, (hp3.same s7).ne nt, hv, ?_⟩
          rw [upd_ne nDt, upd_same]
    · obtain ⟨s7, l, hl, hs, hd⟩ := h'
      have hp4 := hp3.same s7
      have ha4 := (s46.trans s7) _ _ (kk2 _ _ na.1 ha)
      refine ⟨_, rfl, _, rfl, _, rfl, _, rfl, a, _, rfl, .inr (SqT.of ha4), fun lA nA => ?_⟩
      refine ⟨by show 3 ≤ sizeLine; decide, fun t1 m1 => ?_⟩
      refine ⟨_, rfl, _, rfl, Nat.zero_le _, fun eT nE => ?_⟩
      refine ⟨by show 3 ≤ sizeLine; decide, fun t2 m2 => ?_⟩
      refine ⟨_, rfl, _, rfl, _, rfl, a, 5, _, rfl, rfl, SqT.of (by (repeat (first | exact upd_same | assumption | refine Gx.sameU (by assumption) _ _ ?_ | refine (show Same _ _ by assumption) _ _ ?_))), by simp, by decide, by decide, Nat.le_trans l4 (by decide), fun rT nR => ?_⟩
      refine ⟨by show 3 ≤ sizeLine; decide, fun t3 m3 => ?_⟩
      refine ⟨_, rfl, _, rfl, _, rfl, a, _, 0, x0, rfl, rfl, SqT.of (by (repeat (first | exact upd_same | assumption | refine Gx.sameU (by assumption) _ _ ?_ | refine (show Same _ _ by assumption) _ _ ?_))), at0, by show 3 ≤ sizeLine; decide, fun t4 m4 => ?_⟩
      refine ⟨by show 4 ≤ sizeLine; decide, fun o3 no3 => ?_⟩
      refine ⟨D, o3, l, _, rfl, rfl, by (repeat (first | exact upd_same | assumption | refine Gx.sameU (by assumption) _ _ ?_ | refine (show Same _ _ by assumption) _ _ ?_)), upd_same, ?_, fun o4 no4 => ?_⟩
      · rw [hl]
        show 14 ≤ sizeLine
        decide
      refine ⟨_, rfl, _, rfl, _, rfl, _, rfl, 1, rfl, a, _, rfl, by (repeat (first | exact upd_same | assumption | refine Gx.sameU (by assumption) _ _ ?_ | refine (show Same _ _ by assumption) _ _ ?_)), fun c1 G1 sG1 hc1 => ⟨_, rfl, by show 1 ≤ sizeLine; decide, fun u1 nu1 => ⟨c1, u1, _, _, rfl, rfl, (Gx.sameU nu1) _ _ hc1, upd_same, ?_, fun c2 G2 sG2 hc2 => ?_⟩⟩⟩
      · rw [cut_1, List.length_drop]
        exact Nat.le_trans (show _ ≤ 10 by show _ - 1 + 1 ≤ 10; omega) (by decide)
      refine ⟨by show 3 ≤ sizeLine; decide, fun t5 m5 => ?_⟩
      refine ⟨_, rfl, _, rfl, _, rfl, by show 1 ≤ sizeLine; decide, fun u2 nu2 => ⟨_, rfl, 1, rfl, a, _, rfl, by (repeat (first | exact upd_same | assumption | refine Gx.sameU (by assumption) _ _ ?_ | refine (show Same _ _ by assumption) _ _ ?_)), fun c3 G3 sG3 hc3 => ⟨u2, c3, _, _, rfl, rfl, by (repeat (first | exact upd_same | assumption | refine Gx.sameU (by assumption) _ _ ?_ | refine (show Same _ _ by assumption) _ _ ?_)), hc3, ?_, fun c4 G4 sG4 hc4 => ?_⟩⟩⟩
      · rw [cut_1, List.length_drop]
        exact Nat.le_trans (show _ ≤ 10 by show 1 + (_ - 1) ≤ 10; omega) (by decide)
      refine ⟨by show 3 ≤ sizeLine; decide, fun t6 m6 => ⟨by show 2 ≤ sizeLine; decide, fun o5 no5 => ⟨o4, o5, _, _, rfl, rfl, by (repeat (first | exact upd_same | assumption | refine Gx.sameU (by assumption) _ _ ?_ | refine (show Same _ _ by assumption) _ _ ?_)), upd_same, ?_, fun o6 no6 => ?_⟩⟩⟩
      · rw [List.length_append, hl]
        show 10 + 4 + 2 ≤ sizeLine
        decide
      refine ⟨_, rfl, _, rfl, p, _, rfl, (hp4.same (by (repeat (first | exact Same.refl _ | assumption | refine Same.trans ?_ (Gx.sameU (by assumption)) | refine Same.trans ?_ (show Same _ _ by assumption))))).pot, .inl ⟨o6, _, rfl, ?_, upd_same, ?_, ?_, fun v H6 hv hp6 k6 => q v H6 (Sm.kp ?_ k6) hp6 ((kk2.trans (Gx.Kp.of s46)).trans ((Gx.Kp.of (Same.trans s7 (by (repeat (first | exact Same.refl _ | assumption | refine Same.trans ?_ (Gx.sameU (by assumption)) | refine Same.trans ?_ (show Same _ _ by assumption)))))).trans k6))⟩⟩
      · exact ((hp4.same (by (repeat (first | exact Same.refl _ | assumption | refine Same.trans ?_ (Gx.sameU (by assumption)) | refine Same.trans ?_ (show Same _ _ by assumption))))).ne no6).1
      · rw [List.length_append]
        show 0 < _ + 2
        omega
      · rw [List.length_append, List.length_append, hl]
        show 10 + 4 + 2 ≤ 1000
        decide
      · refine Sm.via ((kk2.trans (Gx.Kp.of s46)).trans (Gx.Kp.of (Same.trans s7 (by (repeat (first | exact Same.refl _ | assumption | refine Same.trans ?_ (Gx.sameU (by assumption)) | refine Same.trans ?_ (show Same _ _ by assumption))))))) fun up => ?_
        have three : ∀ {G : Hp} {t : Addr} {x y : V}, (∀ {n k : Nat} {x : V}, Sm n k p e H x → Sm n k p e G x) → Nb p e t → Sm 300 2 p e G x → Sm 300 2 p e G y → G t = some (.tup [.str k, x, y]) → Sm 1000 5 p e G (.ref t) := fun up n a b e => by
          refine .tup (n := 300) (k := 2) n e (fun z hz => ?_) (by show 3 * 301 ≤ 1000; decide) (by decide)
          simp only [List.mem_cons, List.not_mem_nil, or_false] at hz
          rcases hz with rfl | rfl | rfl
          · exact sm_str (n := 289) hk
          · exact a
          · exact b
        have hb' := (up hb).mono (show 11 ≤ 300 by decide) (show 0 ≤ 2 by decide)
        simp only [List.mem_append, List.mem_cons, List.not_mem_nil, or_false] at hv
        rcases hv with (hv | rfl | rfl | rfl | rfl) | rfl | rfl
        · obtain ⟨t', y, rfl, e2, e3, e4⟩ := hs v hv
          refine three up e2 ((e3.kp (Gx.Kp.of (Same.trans s7 (by (repeat (first | exact Same.refl _ | assumption | refine Same.trans ?_ (Gx.sameU (by assumption)) | refine Same.trans ?_ (show Same _ _ by assumption))))))).mono (by decide) (by decide)) (.tup (n := 11) (k := 0) na (by (repeat (first | exact upd_same | assumption | refine Gx.sameU (by assumption) _ _ ?_ | refine (show Same _ _ by assumption) _ _ ?_))) (fun z hz => up (hx z hz)) ?_ (by decide)) (by (repeat (first | exact upd_same | assumption | refine Gx.sameU (by assumption) _ _ ?_ | refine (show Same _ _ by assumption) _ _ ?_)))
          exact Nat.le_trans (Nat.mul_le_mul_right _ l4) (by decide)
        · refine three up ((hp4.same (by (repeat (first | exact Same.refl _ | assumption | refine Same.trans ?_ (Gx.sameU (by assumption)) | refine Same.trans ?_ (show Same _ _ by assumption))))).ne m1) hb' (.lst (n := 11) (k := 0) (hp4.ne nA) (by (repeat (first | exact upd_same | assumption | refine Gx.sameU (by assumption) _ _ ?_ | refine (show Same _ _ by assumption) _ _ ?_))) (fun z hz => up (hx z hz)) ?_ (by decide)) (by (repeat (first | exact upd_same | assumption | refine Gx.sameU (by assumption) _ _ ?_ | refine (show Same _ _ by assumption) _ _ ?_)))
          exact Nat.le_trans (Nat.mul_le_mul_right _ l4) (by decide)
        · exact three up ((hp4.same (by (repeat (first | exact Same.refl _ | assumption | refine Same.trans ?_ (Gx.sameU (by assumption)) | refine Same.trans ?_ (show Same _ _ by assumption))))).ne m2) hb' (.tup (n := 11) (k := 0) ((hp4.same (by (repeat (first | exact Same.refl _ | assumption | refine Same.trans ?_ (Gx.sameU (by assumption)) | refine Same.trans ?_ (show Same _ _ by assumption))))).ne nE) (by (repeat (first | exact upd_same | assumption | refine Gx.sameU (by assumption) _ _ ?_ | refine (show Same _ _ by assumption) _ _ ?_))) (fun z hz => by cases hz) (by simp) (by decide)) (by (repeat (first | exact upd_same | assumption | refine Gx.sameU (by assumption) _ _ ?_ | refine (show Same _ _ by assumption) _ _ ?_)))
        · refine three up ((hp4.same (by (repeat (first | exact Same.refl _ | assumption | refine Same.trans ?_ (Gx.sameU (by assumption)) | refine Same.trans ?_ (show Same _ _ by assumption))))).ne m3) hb' (.tup (n := 11) (k := 0) ((hp4.same (by (repeat (first | exact Same.refl _ | assumption | refine Same.trans ?_ (Gx.sameU (by assumption)) | refine Same.trans ?_ (show Same _ _ by assumption))))).ne nR) (by (repeat (first | exact upd_same | assumption | refine Gx.sameU (by assumption) _ _ ?_ | refine (show Same _ _ by assumption) _ _ ?_))) (fun z hz => ?_) ?_ (by decide)) (by (repeat (first | exact upd_same | assumption | refine Gx.sameU (by assumption) _ _ ?_ | refine (show Same _ _ by assumption) _ _ ?_)))
          · obtain ⟨y, hy, hz⟩ := List.mem_flatten.mp hz
            rw [List.eq_of_mem_replicate hy] at hz
            exact up (hx z hz)
          · rw [PyProof.Rows.lm_len_rep_flat]
            exact Nat.le_trans (Nat.mul_le_mul_right _ (Nat.mul_le_mul_left _ l4)) (by decide)
        · exact three up ((hp4.same (by (repeat (first | exact Same.refl _ | assumption | refine Same.trans ?_ (Gx.sameU (by assumption)) | refine Same.trans ?_ (show Same _ _ by assumption))))).ne m4) hb' ((up (hx x0 (by simp))).mono (by decide) (by decide)) (by (repeat (first | exact upd_same | assumption | refine Gx.sameU (by assumption) _ _ ?_ | refine (show Same _ _ by assumption) _ _ ?_)))
        · refine three up ((hp4.same (by (repeat (first | exact Same.refl _ | assumption | refine Same.trans ?_ (Gx.sameU (by assumption)) | refine Same.trans ?_ (show Same _ _ by assumption))))).ne m5) hb' (.tup (n := 20) (k := 1) ((hp4.same (by (repeat (first | exact Same.refl _ | assumption | refine Same.trans ?_ (Gx.sameU (by assumption)) | refine Same.trans ?_ (show Same _ _ by assumption))))).tne hc2) (by (repeat (first | exact upd_same | assumption | refine Gx.sameU (by assumption) _ _ ?_ | refine (show Same _ _ by assumption) _ _ ?_))) (fun z hz => ?_) ?_ (by decide)) (by (repeat (first | exact upd_same | assumption | refine Gx.sameU (by assumption) _ _ ?_ | refine (show Same _ _ by assumption) _ _ ?_)))
          · rcases List.mem_append.mp hz with hz | hz
            · rw [cut_1] at hz
              exact (up (hx z (List.mem_of_mem_drop hz))).mono (by decide) (by decide)
            · rw [List.mem_singleton.mp hz]
              exact odd2.kp ((Gx.Kp.of s46).trans (Gx.Kp.of (Same.trans s7 (by (repeat (first | exact Same.refl _ | assumption | refine Same.trans ?_ (Gx.sameU (by assumption)) | refine Same.trans ?_ (show Same _ _ by assumption)))))))
          · rw [cut_1, List.length_append, List.length_drop]
            exact Nat.le_trans (Nat.mul_le_mul_right _ (show _ ≤ 5 by show _ - 1 + 1 ≤ 5; omega)) (by decide)
        · refine three up ((hp4.same (by (repeat (first | exact Same.refl _ | assumption | refine Same.trans ?_ (Gx.sameU (by assumption)) | refine Same.trans ?_ (show Same _ _ by assumption))))).ne m6) hb' (.tup (n := 20) (k := 1) ((hp4.same (by (repeat (first | exact Same.refl _ | assumption | refine Same.trans ?_ (Gx.sameU (by assumption)) | refine Same.trans ?_ (show Same _ _ by assumption))))).tne hc4) (by (repeat (first | exact upd_same | assumption | refine Gx.sameU (by assumption) _ _ ?_ | refine (show Same _ _ by assumption) _ _ ?_))) (fun z hz => ?_) ?_ (by decide)) (by (repeat (first | exact upd_same | assumption | refine Gx.sameU (by assumption) _ _ ?_ | refine (show Same _ _ by assumption) _ _ ?_)))
          · rcases List.mem_append.mp hz with hz | hz
            · rw [List.mem_singleton.mp hz]
              exact odd2.kp ((Gx.Kp.of s46).trans (Gx.Kp.of (Same.trans s7 (by (repeat (first | exact Same.refl _ | assumption | refine Same.trans ?_ (Gx.sameU (by assumption)) | refine Same.trans ?_ (show Same _ _ by assumption)))))))
            · rw [cut_1] at hz
              exact (up (hx z (List.mem_of_mem_drop hz))).mono (by decide) (by decide)
          · rw [cut_1, List.length_append, List.length_drop]
            exact Nat.le_trans (Nat.mul_le_mul_right _ (show _ ≤ 5 by show 1 + (_ - 1) ≤ 5; omega)) (by decide)
end
end My
namespace My
open PySem PySem.Spec PyProof.Rows L2
section
variable {P : Program} {w : World} {K : PySem.W.Frag} {mg : Str → Option Value} {base : Heap}
theorem sm_three {p e : Addr} {G : Hp} {t : Addr} {k : Str} {x y : V} (hk : k.length ≤ 11 ∧ ∀ c ∈ k.cps.toList, c < 128) (n : Nb p e t) (a : Sm 300 2 p e G x) (b : Sm 300 2 p e G y) (eg : G t = some (.tup [.str k, x, y])) : Sm 1000 5 p e G (.ref t) := by
  refine .tup (n := 300) (k := 2) n eg (fun z hz => ?_) (by show 3 * 301 ≤ 1000; decide) (by decide)
  simp only [List.mem_cons, List.not_mem_nil, or_false] at hz
  rcases hz with rfl | rfl | rfl
  · exact sm_str (n := 289) hk
  · exact a
  · exact b
def spOddCmp : Sp := fun vs H Q _ => ∃ (p e t : Addr) (k : Str) (vb vo : V), vs = [.ref p, .ref t] ∧ PotN p e H ∧ H t = some (.tup [.str k, vb, vo]) ∧ (k.length ≤ 11 ∧ ∀ c ∈ k.cps.toList, c < 128) ∧ Sm 11 0 p e H vb ∧ Sm 11 0 p e H vo ∧
  ∀ v H', Sm 1000 5 p e H' v → Pot p H' → Gx.Kp p H H' → Q v H'
theorem p__law_odd_comparison (T : Mo K mg) : Gx.Pr P w K mg base CX0 3 "_law_odd_comparison" s__law_odd_comparison ["_law_pot_here", "_law_literal_here"] spOddCmp := by
  refine T.d__law_odd_comparison.ok sc__law_odd_comparison (fun vs H Q E h => ?_) (fun f cdv A outer s H vs Q E hr h => ?_)
  · obtain ⟨p, e, t, k, vb, vo, rfl, _⟩ := h
    rfl
  · obtain ⟨p, e, t, k, vb, vo, rfl, hp, ht, hk, hb, ho, q⟩ := h
    refine ⟨_, (pss_cons (ps_asg (pv 1) (pg_tup rfl (pgs_cons (pg_name (i := 2) sc__law_odd_comparison.nd rfl (Or.inl rfl)) (pgs_cons (pg_name (i := 3) sc__law_odd_comparison.nd rfl (Or.inl rfl)) (pgs_cons (pg_name (i := 4) sc__law_odd_comparison.nd rfl (Or.inl rfl)) pgs_nil)))))
      (pss_cons (ps_set (i := 5) sc__law_odd_comparison.nd rfl (Or.inl rfl) (Gx.pe_pos (p__law_pick T) hr (by decide) (by rfl) b__law_pick pass0 (pa_cons (pv 0) (pa_cons (pe_lst (pa_cons pe_bl (pa_cons pe_bl (pa_cons pe_int (pa_cons (pe_un un_neg pe_int) (pa_cons pe_non (pa_cons pe_str (pa_cons pe_str (pa_cons pe_str (pa_cons pe_str (pa_cons pe_str (pa_cons (pe_lst (pa_cons (pv 3) pa_nil)) (pa_cons (pe_tup (pa_cons (pv 3) (pa_cons (pv 4) pa_nil))) pa_nil))))))))))))) pa_nil))))
      (pss_one (ps_ret (Gx.pe_pos (p__law_pick T) hr (by decide) (by rfl) b__law_pick pass0 (pa_cons (pv 0) (pa_cons (pe_lst (pa_cons (pe_tup (pa_cons (pv 2) (pa_cons pe_int (pa_cons pe_int pa_nil)))) (pa_cons (pe_tup (pa_cons (pv 2) (pa_cons pe_int (pa_cons pe_int pa_nil)))) (pa_cons (pe_tup (pa_cons (pv 2) (pa_cons (pv 5) (pa_cons (pv 4) pa_nil)))) (pa_cons (pe_tup (pa_cons (pv 2) (pa_cons (pv 3) (pa_cons (pv 5) pa_nil)))) (pa_cons (pe_tup (pa_cons (pv 2) (pa_cons (pe_tup (pa_cons (pv 3) (pa_cons (pv 4) pa_nil))) (pa_cons (pe_tup pa_nil) pa_nil)))) pa_nil)))))) pa_nil))))))), ?_⟩
    refine ⟨_, rfl, t, _, rfl, SqT.of ht, rfl, _, _, rfl, _, _, rfl, _, _, rfl, rfl, ?_⟩
    refine ⟨_, rfl, _, rfl, _, rfl, by show 1 ≤ sizeLine; decide, fun a1 n1 => ?_⟩
    refine ⟨_, rfl, _, rfl, by show 2 ≤ sizeLine; decide, fun a2 n2 => ?_⟩
    refine ⟨by show 12 ≤ sizeLine; decide, fun o no => ?_⟩
    refine ⟨p, _, rfl, (hp.same (by (repeat (first | exact Same.refl _ | assumption | refine Same.trans ?_ (Gx.sameU (by assumption)) | refine Same.trans ?_ (show Same _ _ by assumption))))).pot, .inl ⟨o, _, rfl, ((hp.same (by (repeat (first | exact Same.refl _ | assumption | refine Same.trans ?_ (Gx.sameU (by assumption)) | refine Same.trans ?_ (show Same _ _ by assumption))))).ne no).1, upd_same, by show 0 < 12; decide, by show 12 ≤ 1000; decide, fun odd H2 hodd hp2 k2 => ?_⟩⟩
    have hp2 : PotN p e H2 := hp.kp hp2 ((Gx.Kp.of (by (repeat (first | exact Same.refl _ | assumption | refine Same.trans ?_ (Gx.sameU (by assumption)) | refine Same.trans ?_ (show Same _ _ by assumption))))).trans k2)
    have odd2 : Sm 30 1 p e H2 odd := by
      refine Sm.kp ?_ k2
      refine Sm.via (H := H) (Gx.Kp.of (by (repeat (first | exact Same.refl _ | assumption | refine Same.trans ?_ (Gx.sameU (by assumption)) | refine Same.trans ?_ (show Same _ _ by assumption))))) fun up => ?_
      simp only [List.mem_cons, List.not_mem_nil, or_false] at hodd
      rcases hodd with rfl | rfl | rfl | rfl | rfl | rfl | rfl | rfl | rfl | rfl | rfl | rfl
      · exact sm_bl
      · exact sm_bl
      · exact sm_int (n := 19) (by decide)
      · exact sm_int (n := 19) (by decide)
      · exact sm_non
      · exact sm_str (n := 19) (by decide +kernel)
      · exact sm_str (n := 19) (by decide +kernel)
      · exact sm_str (n := 19) (by decide +kernel)
      · exact sm_str (n := 19) (by decide +kernel)
      · exact sm_str (n := 19) (by decide +kernel)
      · exact .lst (n := 11) (k := 0) (hp.ne n1) (by (repeat (first | exact upd_same | assumption | refine Gx.sameU (by assumption) _ _ ?_ | refine (show Same _ _ by assumption) _ _ ?_))) (fun x h => by rw [List.mem_singleton.mp h]; exact up hb) (by show 1 * 12 ≤ 30; decide) (by decide)
      · refine .tup (n := 11) (k := 0) ((hp.same (by (repeat (first | exact Same.refl _ | assumption | refine Same.trans ?_ (Gx.sameU (by assumption)) | refine Same.trans ?_ (show Same _ _ by assumption))))).ne n2) (by (repeat (first | exact upd_same | assumption | refine Gx.sameU (by assumption) _ _ ?_ | refine (show Same _ _ by assumption) _ _ ?_))) (fun x h => ?_) (by show 2 * 12 ≤ 30; decide) (by decide)
        simp only [List.mem_cons, List.not_mem_nil, or_false] at h
        rcases h with rfl | rfl
        · exact up hb
        · exact up ho
    have kk2 : Gx.Kp p H H2 := (Gx.Kp.of (by (repeat (first | exact Same.refl _ | assumption | refine Same.trans ?_ (Gx.sameU (by assumption)) | refine Same.trans ?_ (show Same _ _ by assumption))))).trans k2
    refine ⟨_, rfl, _, rfl, by show 3 ≤ sizeLine; decide, fun t1 m1 => ?_⟩
    refine ⟨_, rfl, by show 3 ≤ sizeLine; decide, fun t2 m2 => ?_⟩
    refine ⟨_, rfl, _, rfl, _, rfl, by show 3 ≤ sizeLine; decide, fun t3 m3 => ?_⟩
    refine ⟨_, rfl, _, rfl, _, rfl, by show 3 ≤ sizeLine; decide, fun t4 m4 => ?_⟩
    refine ⟨_, rfl, _, rfl, _, rfl, by show 2 ≤ sizeLine; decide, fun u nu => ⟨Nat.zero_le _, fun eT nE => ?_⟩⟩
    refine ⟨by show 3 ≤ sizeLine; decide, fun t5 m5 => ⟨by show 5 ≤ sizeLine; decide, fun o2 no2 => ?_⟩⟩
    refine ⟨p, _, rfl, (hp2.same (by (repeat (first | exact Same.refl _ | assumption | refine Same.trans ?_ (Gx.sameU (by assumption)) | refine Same.trans ?_ (show Same _ _ by assumption))))).pot, .inl ⟨o2, _, rfl, ((hp2.same (by (repeat (first | exact Same.refl _ | assumption | refine Same.trans ?_ (Gx.sameU (by assumption)) | refine Same.trans ?_ (show Same _ _ by assumption))))).ne no2).1, upd_same, by show 0 < 5; decide, by show 5 ≤ 1000; decide, fun v H6 hv hp6 k6 => q v H6 (Sm.kp ?_ k6) hp6 ((kk2.trans (Gx.Kp.of (by (repeat (first | exact Same.refl _ | assumption | refine Same.trans ?_ (Gx.sameU (by assumption)) | refine Same.trans ?_ (show Same _ _ by assumption)))))).trans k6)⟩⟩
    refine Sm.via (kk2.trans (Gx.Kp.of (by (repeat (first | exact Same.refl _ | assumption | refine Same.trans ?_ (Gx.sameU (by assumption)) | refine Same.trans ?_ (show Same _ _ by assumption)))))) fun up => ?_
    have hb' := (up hb).mono (show 11 ≤ 300 by decide) (show 0 ≤ 2 by decide)
    have ho' := (up ho).mono (show 11 ≤ 300 by decide) (show 0 ≤ 2 by decide)
    simp only [List.mem_cons, List.not_mem_nil, or_false] at hv
    rcases hv with rfl | rfl | rfl | rfl | rfl
    · exact sm_three hk (hp2.ne m1) (sm_int (n := 289) (i := 3) (by decide)) (sm_int (n := 289) (i := 4) (by decide)) (by (repeat (first | exact upd_same | assumption | refine Gx.sameU (by assumption) _ _ ?_ | refine (show Same _ _ by assumption) _ _ ?_)))
    · exact sm_three hk ((hp2.same (by (repeat (first | exact Same.refl _ | assumption | refine Same.trans ?_ (Gx.sameU (by assumption)) | refine Same.trans ?_ (show Same _ _ by assumption))))).ne m2) (sm_int (n := 289) (i := 0) (by decide)) (sm_int (n := 289) (i := 0) (by decide)) (by (repeat (first | exact upd_same | assumption | refine Gx.sameU (by assumption) _ _ ?_ | refine (show Same _ _ by assumption) _ _ ?_)))
    · exact sm_three hk ((hp2.same (by (repeat (first | exact Same.refl _ | assumption | refine Same.trans ?_ (Gx.sameU (by assumption)) | refine Same.trans ?_ (show Same _ _ by assumption))))).ne m3) ((odd2.kp (Gx.Kp.of (by (repeat (first | exact Same.refl _ | assumption | refine Same.trans ?_ (Gx.sameU (by assumption)) | refine Same.trans ?_ (show Same _ _ by assumption)))))).mono (by decide) (by decide)) ho' (by (repeat (first | exact upd_same | assumption | refine Gx.sameU (by assumption) _ _ ?_ | refine (show Same _ _ by assumption) _ _ ?_)))
    · exact sm_three hk ((hp2.same (by (repeat (first | exact Same.refl _ | assumption | refine Same.trans ?_ (Gx.sameU (by assumption)) | refine Same.trans ?_ (show Same _ _ by assumption))))).ne m4) hb' ((odd2.kp (Gx.Kp.of (by (repeat (first | exact Same.refl _ | assumption | refine Same.trans ?_ (Gx.sameU (by assumption)) | refine Same.trans ?_ (show Same _ _ by assumption)))))).mono (by decide) (by decide)) (by (repeat (first | exact upd_same | assumption | refine Gx.sameU (by assumption) _ _ ?_ | refine (show Same _ _ by assumption) _ _ ?_)))
    · refine sm_three hk ((hp2.same (by (repeat (first | exact Same.refl _ | assumption | refine Same.trans ?_ (Gx.sameU (by assumption)) | refine Same.trans ?_ (show Same _ _ by assumption))))).ne m5) (.tup (n := 11) (k := 0) ((hp2.same (by (repeat (first | exact Same.refl _ | assumption | refine Same.trans ?_ (Gx.sameU (by assumption)) | refine Same.trans ?_ (show Same _ _ by assumption))))).ne nu) (by (repeat (first | exact upd_same | assumption | refine Gx.sameU (by assumption) _ _ ?_ | refine (show Same _ _ by assumption) _ _ ?_))) (fun x h => ?_) (by show 2 * 12 ≤ 300; decide) (by decide)) (.tup (n := 11) (k := 0) ((hp2.same (by (repeat (first | exact Same.refl _ | assumption | refine Same.trans ?_ (Gx.sameU (by assumption)) | refine Same.trans ?_ (show Same _ _ by assumption))))).ne nE) (by (repeat (first | exact upd_same | assumption | refine Gx.sameU (by assumption) _ _ ?_ | refine (show Same _ _ by assumption) _ _ ?_))) (fun z hz => by cases hz) (by simp) (by decide)) (by (repeat (first | exact upd_same | assumption | refine Gx.sameU (by assumption) _ _ ?_ | refine (show Same _ _ by assumption) _ _ ?_)))
      simp only [List.mem_cons, List.not_mem_nil, or_false] at h
      rcases h with rfl | rfl
      · exact up hb
      · exact up ho
def Odd (p e : Addr) (H : Hp) (v : V) : Prop := Sm 1300 6 p e H v ∨ ∃ a, v = .ref a ∧ Nb p e a ∧ H a = some (.dK [])
def spOdd : Sp := fun vs H Q _ => ∃ (p e t : Addr) (d : PyData), vs = [.ref p, .ref t] ∧ PotN p e H ∧ Gx.DatN (Nb p e) H (.ref t) d ∧ litD d = true ∧ ∀ v H', Odd p e H' v → Pot p H' → Gx.Kp p H H' → Q v H'
theorem p__law_odd (T : Mo K mg) : Gx.Pr P w K mg base CX0 4 "_law_odd" s__law_odd ["_law_pot_here", "_law_literal_here"] spOdd := by
  refine T.d__law_odd.ok sc__law_odd (fun vs H Q E h => ?_) (fun f cdv A outer s H vs Q E hr h => ?_)
  · obtain ⟨p, e, t, d, rfl, _⟩ := h
    rfl
  · obtain ⟨p, e, t, d, rfl, hp, hd, hl, q⟩ := h
    refine ⟨_, (pss_cons (ps_asg (pv 1) (pg_tup rfl (pgs_cons (pg_name (i := 2) sc__law_odd.nd rfl (Or.inl rfl)) (pgs_cons (pg_name (i := 3) sc__law_odd.nd rfl (Or.inl rfl)) (pgs_cons (pg_name (i := 4) sc__law_odd.nd rfl (Or.inl rfl)) pgs_nil)))))
      (pss_cons (ps_set (i := 5) sc__law_odd.nd rfl (Or.inl rfl) (pe_lst (pa_cons pe_non (pa_cons pe_int (pa_cons pe_str (pa_cons pe_bl (pa_cons pe_dnewK (pa_cons (pe_tup pa_nil) (pa_cons (pe_lst (pa_cons (pv 2) (pa_cons (pv 3) (pa_cons (pv 4) pa_nil)))) (pa_cons (pe_tup (pa_cons (pv 2) (pa_cons (pv 3) pa_nil))) (pa_cons (pe_tup (pa_cons (pv 2) (pa_cons (pv 3) (pa_cons (pv 4) (pa_cons (pv 4) pa_nil))))) pa_nil)))))))))))
      (pss_cons (ps_set (i := 5) sc__law_odd.nd rfl (Or.inl rfl) (pe_op op_cat (pv 5) (pe_lst (pa_cons (pe_tup (pa_cons pe_str (pa_cons (pv 3) (pa_cons (pv 4) pa_nil)))) (pa_cons (pe_tup (pa_cons pe_str (pa_cons (pv 3) (pa_cons (pv 4) pa_nil)))) (pa_cons (pe_tup (pa_cons pe_non (pa_cons (pv 3) (pa_cons (pv 4) pa_nil)))) (pa_cons (pe_tup (pa_cons (pe_lst (pa_cons (pv 2) pa_nil)) (pa_cons (pv 3) (pa_cons (pv 4) pa_nil)))) pa_nil)))))))
      (pss_cons (ps_set (i := 5) sc__law_odd.nd rfl (Or.inl rfl) (pe_op op_cat (pv 5) (pe_lst (pa_cons (pe_tup (pa_cons (pv 3) (pa_cons (pv 2) (pa_cons (pv 4) pa_nil)))) (pa_cons (pe_tup (pa_cons pe_str (pa_cons (pv 3) (pa_cons (pv 4) pa_nil)))) (pa_cons (pe_tup (pa_cons pe_str (pa_cons (pv 3) (pa_cons (pv 4) pa_nil)))) pa_nil))))))
      (pss_cons (ps_if (pt_cmpR op_eq (Gx.pe_pos (p__law_take T) hr (by decide) (by rfl) b__law_take pass0 (pa_cons (pv 0) (pa_cons pe_int pa_nil))) pe_int (nomark _)) (pss_one (ps_ret (Gx.pe_pos (p__law_pick T) hr (by decide) (by rfl) b__law_pick pass0 (pa_cons (pv 0) (pa_cons (pv 5) pa_nil))))) pss_nil)
      (pss_one (ps_ret (pe_ifExp (pt_cmpR op_in_seq (pv 2) (pe_lst (pa_cons pe_str (pa_cons pe_str pa_nil))) (by rfl)) (Gx.pe_pos (p__law_odd_row T) hr (by decide) (by rfl) b__law_odd_row pass0 (pa_cons (pv 0) (pa_cons (pv 1) pa_nil))) (Gx.pe_pos (p__law_odd_comparison T) hr (by decide) (by rfl) b__law_odd_comparison pass0 (pa_cons (pv 0) (pa_cons (pv 1) pa_nil))))))))))), ?_⟩
    obtain ⟨k, vb, vo, nt, ht, hk, look⟩ := lit_look hd hl
    have hb : Sm 11 0 p e H vb := look.elim (fun z => z.2.1) fun z => z.2.1
    have ho : Sm 48 1 p e H vo := look.elim (fun z => by
      obtain ⟨a, xs, rfl, na, ha, _, l4, hx⟩ := z.2.2
      exact .tup (n := 11) (k := 0) na ha hx (Nat.le_trans (Nat.mul_le_mul_right _ l4) (by decide)) (by decide)) fun z => z.2.2.mono (by decide) (by decide)
    refine ⟨_, rfl, t, _, rfl, SqT.of ht, rfl, _, _, rfl, _, _, rfl, _, _, rfl, rfl, ?_⟩
    refine fun a1 n1 => ⟨Nat.zero_le _, fun a2 n2 => ⟨_, rfl, _, rfl, _, rfl, by show 3 ≤ sizeLine; decide, fun a3 n3 => ?_⟩⟩
    refine ⟨_, rfl, _, rfl, by show 2 ≤ sizeLine; decide, fun a4 n4 => ⟨_, rfl, _, rfl, _, rfl, _, rfl, by show 4 ≤ sizeLine; decide, fun a5 n5 => ⟨by show 9 ≤ sizeLine; decide, fun o1 no1 => ?_⟩⟩⟩
    refine ⟨_, rfl, _, rfl, _, rfl, by show 3 ≤ sizeLine; decide, fun b1 m1 => ⟨_, rfl, _, rfl, by show 3 ≤ sizeLine; decide, fun b2 m2 => ⟨_, rfl, _, rfl, by show 3 ≤ sizeLine; decide, fun b3 m3 => ?_⟩⟩⟩
    refine ⟨_, rfl, by show 1 ≤ sizeLine; decide, fun b4 m4 => ⟨_, rfl, _, rfl, by show 3 ≤ sizeLine; decide, fun b5 m5 => ⟨by show 4 ≤ sizeLine; decide, fun o2 no2 => ?_⟩⟩⟩
    refine ⟨o1, o2, _, _, rfl, rfl, by (repeat (first | exact upd_same | assumption | refine Gx.sameU (by assumption) _ _ ?_ | refine (show Same _ _ by assumption) _ _ ?_)), upd_same, by show 13 ≤ sizeLine; decide, fun o3 no3 => ?_⟩
    refine ⟨_, rfl, _, rfl, _, rfl, _, rfl, by show 3 ≤ sizeLine; decide, fun c1 l1 => ⟨_, rfl, _, rfl, by show 3 ≤ sizeLine; decide, fun c2 l2 => ⟨_, rfl, _, rfl, by show 3 ≤ sizeLine; decide, fun c3 l3 => ⟨by show 3 ≤ sizeLine; decide, fun o4 no4 => ?_⟩⟩⟩⟩
    refine ⟨o3, o4, _, _, rfl, rfl, by (repeat (first | exact upd_same | assumption | refine Gx.sameU (by assumption) _ _ ?_ | refine (show Same _ _ by assumption) _ _ ?_)), upd_same, by show 16 ≤ sizeLine; decide, fun o5 no5 => ?_⟩
    refine ⟨_, rfl, p, _, rfl, (hp.same (by (repeat (first | exact Same.refl _ | assumption | refine Same.trans ?_ (Gx.sameU (by assumption)) | refine Same.trans ?_ (show Same _ _ by assumption))))).pot, by decide, by decide, fun r H2 r0 r1 hp2 k2 => ⟨rfl, _, rfl, ?_⟩⟩
    have k02 : Gx.Kp p H H2 := (Gx.Kp.of (by (repeat (first | exact Same.refl _ | assumption | refine Same.trans ?_ (Gx.sameU (by assumption)) | refine Same.trans ?_ (show Same _ _ by assumption))))).trans k2
    have hp2n := hp.kp hp2 k02
    by_cases c : V.int r = V.int 0
    · rw [decide_eq_true c]
      refine iteT ⟨_, rfl, _, rfl, p, _, rfl, hp2, .inl ⟨o5, _, rfl, ((hp.same (by (repeat (first | exact Same.refl _ | assumption | refine Same.trans ?_ (Gx.sameU (by assumption)) | refine Same.trans ?_ (show Same _ _ by assumption))))).ne no5).1, k2 _ _ ((hp.same (by (repeat (first | exact Same.refl _ | assumption | refine Same.trans ?_ (Gx.sameU (by assumption)) | refine Same.trans ?_ (show Same _ _ by assumption))))).ne no5).1 upd_same, by show 0 < 16; decide, by show 16 ≤ 1000; decide, fun v H3 hv hp3 k3 => q v H3 ?_ hp3 (k02.trans k3)⟩⟩
      have three : ∀ {G : Hp} {t : Addr} {x y z : V}, Nb p e t → Sm 300 3 p e G x → Sm 300 3 p e G y → Sm 300 3 p e G z → G t = some (.tup [x, y, z]) → Odd p e G (.ref t) := fun n a b c e => by
        refine .inl (.tup (n := 300) (k := 3) n e (fun z hz => ?_) (by show 3 * 301 ≤ 1300; decide) (by decide))
        simp only [List.mem_cons, List.not_mem_nil, or_false] at hz
        rcases hz with rfl | rfl | rfl
        · exact a
        · exact b
        · exact c
      have kp : ∀ {G1 G2 : Hp} {v : V}, Odd p e G1 v → Gx.Kp p G1 G2 → Odd p e G2 v := fun h k => h.elim (fun z => .inl (z.kp k)) fun ⟨a, e, n, z⟩ => .inr ⟨a, e, n, k _ _ n.1 z⟩
      refine kp ?_ (k2.trans k3)
      have via : ∀ {G : Hp} {v : V}, Gx.Kp p H G → ((∀ {n k : Nat} {x : V}, Sm n k p e H x → Sm n k p e G x) → Odd p e G v) → Odd p e G v := fun k h => h fun z => z.kp k
      refine via (Gx.Kp.of (by (repeat (first | exact Same.refl _ | assumption | refine Same.trans ?_ (Gx.sameU (by assumption)) | refine Same.trans ?_ (show Same _ _ by assumption))))) fun up => ?_
      have hb' := (up hb).mono (show 11 ≤ 300 by decide) (show 0 ≤ 3 by decide)
      have ho' := (up ho).mono (show 48 ≤ 300 by decide) (show 1 ≤ 3 by decide)
      simp only [List.mem_append, List.mem_cons, List.not_mem_nil, or_false] at hv
      have N : ∀ {q : Addr} {G : Hp}, Same H G → G q = none → Nb p e q := fun s n => (hp.same s).ne n
      rcases hv with ((rfl | rfl | rfl | rfl | rfl | rfl | rfl | rfl | rfl) | rfl | rfl | rfl | rfl) | rfl | rfl | rfl
      · exact .inl sm_non
      · exact .inl (sm_int (n := 1289) (i := 5) (by decide))
      · exact .inl (sm_str (n := 1289) (by decide +kernel))
      · exact .inl sm_bl
      · exact .inr ⟨a1, rfl, hp.ne n1, by (repeat (first | exact upd_same | assumption | refine Gx.sameU (by assumption) _ _ ?_ | refine (show Same _ _ by assumption) _ _ ?_))⟩
      · exact .inl (.tup (n := 11) (k := 0) (N (by (repeat (first | exact Same.refl _ | assumption | refine Same.trans ?_ (Gx.sameU (by assumption)) | refine Same.trans ?_ (show Same _ _ by assumption)))) n2) (by (repeat (first | exact upd_same | assumption | refine Gx.sameU (by assumption) _ _ ?_ | refine (show Same _ _ by assumption) _ _ ?_))) (fun z hz => by cases hz) (by simp) (by decide))
      · exact .inl (.lst (n := 300) (k := 3) (N (by (repeat (first | exact Same.refl _ | assumption | refine Same.trans ?_ (Gx.sameU (by assumption)) | refine Same.trans ?_ (show Same _ _ by assumption)))) n3) (by (repeat (first | exact upd_same | assumption | refine Gx.sameU (by assumption) _ _ ?_ | refine (show Same _ _ by assumption) _ _ ?_))) (fun z hz => by simp only [List.mem_cons, List.not_mem_nil, or_false] at hz; rcases hz with rfl | rfl | rfl <;> first | exact sm_str (n := 289) hk | exact hb' | exact ho') (by show 3 * 301 ≤ 1300; decide) (by decide))
      · exact .inl (.tup (n := 300) (k := 3) (N (by (repeat (first | exact Same.refl _ | assumption | refine Same.trans ?_ (Gx.sameU (by assumption)) | refine Same.trans ?_ (show Same _ _ by assumption)))) n4) (by (repeat (first | exact upd_same | assumption | refine Gx.sameU (by assumption) _ _ ?_ | refine (show Same _ _ by assumption) _ _ ?_))) (fun z hz => by simp only [List.mem_cons, List.not_mem_nil, or_false] at hz; rcases hz with rfl | rfl <;> first | exact sm_str (n := 289) hk | exact hb' | exact ho') (by show 2 * 301 ≤ 1300; decide) (by decide))
      · exact .inl (.tup (n := 300) (k := 3) (N (by (repeat (first | exact Same.refl _ | assumption | refine Same.trans ?_ (Gx.sameU (by assumption)) | refine Same.trans ?_ (show Same _ _ by assumption)))) n5) (by (repeat (first | exact upd_same | assumption | refine Gx.sameU (by assumption) _ _ ?_ | refine (show Same _ _ by assumption) _ _ ?_))) (fun z hz => by simp only [List.mem_cons, List.not_mem_nil, or_false] at hz; rcases hz with rfl | rfl | rfl | rfl <;> first | exact sm_str (n := 289) hk | exact hb' | exact ho') (by show 4 * 301 ≤ 1300; decide) (by decide))
      · exact three (N (by (repeat (first | exact Same.refl _ | assumption | refine Same.trans ?_ (Gx.sameU (by assumption)) | refine Same.trans ?_ (show Same _ _ by assumption)))) m1) (sm_str (n := 289) (z := "rows") (by decide +kernel)) hb' ho' (by (repeat (first | exact upd_same | assumption | refine Gx.sameU (by assumption) _ _ ?_ | refine (show Same _ _ by assumption) _ _ ?_)))
      · exact three (N (by (repeat (first | exact Same.refl _ | assumption | refine Same.trans ?_ (Gx.sameU (by assumption)) | refine Same.trans ?_ (show Same _ _ by assumption)))) m2) (sm_str (n := 289) (z := "") (by decide +kernel)) hb' ho' (by (repeat (first | exact upd_same | assumption | refine Gx.sameU (by assumption) _ _ ?_ | refine (show Same _ _ by assumption) _ _ ?_)))
      · exact three (N (by (repeat (first | exact Same.refl _ | assumption | refine Same.trans ?_ (Gx.sameU (by assumption)) | refine Same.trans ?_ (show Same _ _ by assumption)))) m3) sm_non hb' ho' (by (repeat (first | exact upd_same | assumption | refine Gx.sameU (by assumption) _ _ ?_ | refine (show Same _ _ by assumption) _ _ ?_)))
      · exact three (N (by (repeat (first | exact Same.refl _ | assumption | refine Same.trans ?_ (Gx.sameU (by assumption)) | refine Same.trans ?_ (show Same _ _ by assumption)))) m5) (.lst (n := 11) (k := 0) (N (by (repeat (first | exact Same.refl _ | assumption | refine Same.trans ?_ (Gx.sameU (by assumption)) | refine Same.trans ?_ (show Same _ _ by assumption)))) m4) (by (repeat (first | exact upd_same | assumption | refine Gx.sameU (by assumption) _ _ ?_ | refine (show Same _ _ by assumption) _ _ ?_))) (fun z hz => by rw [List.mem_singleton.mp hz]; exact sm_str (n := 0) hk) (by show 1 * 12 ≤ 300; decide) (by decide)) hb' ho' (by (repeat (first | exact upd_same | assumption | refine Gx.sameU (by assumption) _ _ ?_ | refine (show Same _ _ by assumption) _ _ ?_)))
      · exact three (N (by (repeat (first | exact Same.refl _ | assumption | refine Same.trans ?_ (Gx.sameU (by assumption)) | refine Same.trans ?_ (show Same _ _ by assumption)))) l1) hb' (sm_str (n := 289) hk) ho' (by (repeat (first | exact upd_same | assumption | refine Gx.sameU (by assumption) _ _ ?_ | refine (show Same _ _ by assumption) _ _ ?_)))
      · exact three (N (by (repeat (first | exact Same.refl _ | assumption | refine Same.trans ?_ (Gx.sameU (by assumption)) | refine Same.trans ?_ (show Same _ _ by assumption)))) l2) (sm_str (n := 289) (z := "==") (by decide +kernel)) hb' ho' (by (repeat (first | exact upd_same | assumption | refine Gx.sameU (by assumption) _ _ ?_ | refine (show Same _ _ by assumption) _ _ ?_)))
      · exact three (N (by (repeat (first | exact Same.refl _ | assumption | refine Same.trans ?_ (Gx.sameU (by assumption)) | refine Same.trans ?_ (show Same _ _ by assumption)))) l3) (sm_str (n := 289) (z := ">") (by decide +kernel)) hb' ho' (by (repeat (first | exact upd_same | assumption | refine Gx.sameU (by assumption) _ _ ?_ | refine (show Same _ _ by assumption) _ _ ?_)))
    · rw [decide_eq_false c]
      refine iteF ⟨_, rfl, by show 2 ≤ sizeLine; decide, fun e' ne => ?_⟩
      refine ⟨e', _, rfl, .inl (SqL.of upd_same), rfl, rfl, _, rfl, ?_⟩
      have s2 := Gx.sameU ne (o := .lst [.str "row", .str "none"])
      have k2e := k02.trans (Gx.Kp.of s2)
      have hte := k2e _ _ nt.1 ht
      have ei : inV (.str k) [V.str "row", V.str "none"] = (decide (k = "row") || decide (k = "none")) := by
        rw [show [V.str "row", V.str "none"] = ([("row" : Str), "none"].map V.str) from rfl, in_strs]
        simp
      show if inV (.str k) [V.str "row", V.str "none"] = true then _ else _
      rw [ei]
      rcases look with ⟨hkk, _, a, xs, rfl, na, ha, l1, l4, hx⟩ | ⟨hkk, _, hvo⟩
      · rw [show (decide (k = "row") || decide (k = "none")) = true by rcases hkk with rfl | rfl <;> rfl]
        refine iteT ⟨_, rfl, _, rfl, p, e, t, k, vb, a, xs, rfl, hp2n.same s2, hte, hk, hb.kp k2e, na, k2e _ _ na.1 ha, l1, l4, (fun x h => (hx x h).kp k2e), fun v H3 hv hp3 k3 => q v H3 (.inl (hv.mono (by decide) (by decide))) hp3 (k2e.trans k3)⟩
      · rw [decide_eq_false hkk.1, decide_eq_false hkk.2]
        refine iteF ⟨_, rfl, _, rfl, p, e, t, k, vb, vo, rfl, hp2n.same s2, hte, hk, hb.kp k2e, hvo.kp k2e, fun v H3 hv hp3 k3 => q v H3 (.inl (hv.mono (by decide) (by decide))) hp3 (k2e.trans k3)⟩
end
end My
namespace My
open PySem PySem.Spec PyProof.Rows L2
theorem join_names : ∀ l : List Str, (∀ x ∈ l, nameZ x = true) → (Str.join "" l).cps.toList.length ≤ 8 * l.length ∧ ∀ c ∈ (Str.join "" l).cps.toList, c < 128
  | [], _ => ⟨by simp [Str.join, Str.empty], fun c h => by simp [Str.join, Str.empty] at h⟩
  | [x], h => by
    have hx := h x List.mem_cons_self
    refine ⟨?_, (lw_ok hx).2⟩
    simp only [nameZ, Bool.and_eq_true, decide_eq_true_eq] at hx
    simpa [Str.join, Str.length] using hx.2.1
  | x :: y :: r, h => by
    have hx := h x List.mem_cons_self
    have hx2 := (lw_ok hx).2
    obtain ⟨i1, i2⟩ := join_names (y :: r) fun z hz => h z (List.mem_cons_of_mem _ hz)
    have e : (Str.join "" (x :: y :: r)).cps.toList = x.cps.toList ++ (Str.join "" (y :: r)).cps.toList := by
      show ((x ++ ("" : Str) ++ Str.join "" (y :: r)) : Str).cps.toList = _
      show ((x.cps ++ (("" : Str)).cps) ++ (Str.join "" (y :: r)).cps).toList = _
      rw [show (("" : Str)).cps = #[] by decide +kernel]
      simp
    simp only [nameZ, Bool.and_eq_true, decide_eq_true_eq] at hx
    have hl : x.cps.toList.length ≤ 8 := by simpa [Str.length] using hx.2.1
    rw [e]
    refine ⟨by rw [List.length_append, List.length_cons]; omega, fun d hd => ?_⟩
    rcases List.mem_append.mp hd with hd | hd
    · exact hx2 d hd
    · exact i2 d hd
theorem sum_names : ∀ l : List Str, (∀ x ∈ l, nameZ x = true) → (l.map (·.length)).sum ≤ 8 * l.length
  | [], _ => Nat.le_refl _
  | x :: l, h => by
    have hx := h x List.mem_cons_self
    simp only [nameZ, Bool.and_eq_true, decide_eq_true_eq] at hx
    have := sum_names l fun z hz => h z (List.mem_cons_of_mem _ hz)
    rw [List.map_cons, List.sum_cons, List.length_cons]
    omega
theorem all_strs : ∀ {ys : List V}, (∀ y ∈ ys, ∃ z, y = V.str z ∧ nameZ z = true) → ∃ us : List Str, ys = us.map V.str ∧ ∀ z ∈ us, nameZ z = true
  | [], _ => ⟨[], rfl, fun _ h => by cases h⟩
  | y :: r, h => by
    obtain ⟨us, rfl, hu⟩ := all_strs fun x hx => h x (List.mem_cons_of_mem _ hx)
    obtain ⟨z, rfl, hz⟩ := h y (by simp)
    refine ⟨z :: us, rfl, fun x hx => ?_⟩
    rcases List.mem_cons.mp hx with rfl | hx
    · exact hz
    · exact hu x hx
/-- an order as this law passes it -/
def Lane (p : Addr) (H : Hp) (v : V) : Prop := ∃ d, Gx.Dat p H v d ∧ d.weight ≤ 1300 ∧ d.depth ≤ 6 ∧ (d.hasDict = false ∨ d = .dict []) ∧ ∀ ds, d = .tuple ds → ds.length < 64
section
variable {p : Addr} {H : Hp}
theorem Lane.kp {H' : Hp} {v : V} (h : Lane p H v) (q : Gx.Kp p H H') : Lane p H' v := let ⟨d, a, b⟩ := h; ⟨d, a.kp q, b⟩
theorem lane_str {z : Str} (h : z.length ≤ 100 ∧ ∀ c ∈ z.cps.toList, c < 128) : Lane p H (.str z) := ⟨_, .str z h.1 h.2, by simp only [PyData.weight]; exact Nat.le_trans (by simpa [Str.length] using h.1) (by decide : 100 ≤ 1300), by simp [PyData.depth], .inl (by simp [PyData.hasDict]), fun _ e => by cases e⟩
theorem lane_int {i : Int} (h : i.natAbs < 2 ^ 11) : Lane p H (.int i) := ⟨_, .int i (Nat.lt_trans h (by decide +kernel)), Nat.le_trans (wt_int h) (by decide), by simp [PyData.depth], .inl (by simp [PyData.hasDict]), fun _ e => by cases e⟩
theorem lane_bl {b : Bool} : Lane p H (.bl b) := ⟨_, .bl b, by simp [PyData.weight], by simp [PyData.depth], .inl (by simp [PyData.hasDict]), fun _ e => by cases e⟩
theorem lane_non : Lane p H .non := ⟨_, .non, by simp [PyData.weight], by simp [PyData.depth], .inl (by simp [PyData.hasDict]), fun _ e => by cases e⟩
theorem lane_nil {a : Addr} (n : a ≠ p) (h : H a = some (.dK [])) : Lane p H (.ref a) := ⟨_, .nil n h, by simp [PyData.weight, PyData.weightKv], by simp [PyData.depth, PyData.depthKv], .inr rfl, fun _ e => by cases e⟩
theorem lane_tup {a : Addr} {xs : List V} (na : a ≠ p) (h : H a = some (.tup xs)) (hx : ∀ x ∈ xs, Sm 30 4 p p H x) (hl : xs.length ≤ 40) : Lane p H (.ref a) := by
  obtain ⟨ds, r, b, c, e⟩ := sms hx
  have : xs.length * 31 ≤ 40 * 31 := Nat.mul_le_mul_right _ hl
  exact ⟨.tuple ds, .tup na h (r.mono fun _ z => z.1), by simp only [PyData.weight]; omega, by simp only [PyData.depth]; omega, .inl (by simpa only [PyData.hasDict] using e), fun es z => by cases z; rw [← r.len]; omega⟩
theorem lane_lst {a : Addr} {xs : List V} (na : a ≠ p) (h : H a = some (.lst xs)) (hx : ∀ x ∈ xs, Sm 30 4 p p H x) (hl : xs.length ≤ 40) : Lane p H (.ref a) := by
  obtain ⟨ds, r, b, c, e⟩ := sms hx
  have : xs.length * 31 ≤ 40 * 31 := Nat.mul_le_mul_right _ hl
  exact ⟨.list ds, .lst na h (r.mono fun _ z => z.1), by simp only [PyData.weight]; omega, by simp only [PyData.depth]; omega, .inl (by simpa only [PyData.hasDict] using e), fun es z => by cases z⟩
theorem Lane.via {G : Hp} {v : V} (k : Gx.Kp p H G) (h : (∀ {n k : Nat} {x : V}, Sm n k p p H x → Sm n k p p G x) → Lane p G v) : Lane p G v := h fun z => z.kp k
end
section
variable {P : Program} {w : World} {K : PySem.W.Frag} {mg : Str → Option Value} {base : Heap}
def spSO : Sp := fun vs H Q _ => ∃ (p o : Addr) (ws : List Str), vs = [.ref p, .ref o] ∧ Pot p H ∧ o ≠ p ∧ H o = some (.lst (ws.map V.str)) ∧ ws.length ≤ 10 ∧ (∀ z ∈ ws, nameZ z = true) ∧ ∀ v H', Lane p H' v → Pot p H' → Gx.Kp p H H' → Q v H'
theorem p__law_some_order (T : Mo K mg) : Gx.Pr P w K mg base CX0 3 "_law_some_order" s__law_some_order ["_law_pot_here", "_law_names"] spSO := by
  refine T.d__law_some_order.ok sc__law_some_order (fun vs H Q E h => ?_) (fun f cdv A outer s H vs Q E hr h => ?_)
  · obtain ⟨p, o, ws, rfl, _⟩ := h
    rfl
  · obtain ⟨p, o, ws, rfl, hp, no, ho, hw, hn, q⟩ := h
    refine ⟨_, (pss_cons (ps_set (i := 2) sc__law_some_order.nd rfl (Or.inl rfl) (pe_callTy call_tuple_of (by rfl) T.b_tuple (by decide +kernel) (pa_cons (Gx.pe_pos (p__law_mixed T) hr (by decide) (by rfl) b__law_mixed pass0 (pa_cons (pv 0) (pa_cons (pv 1) pa_nil))) pa_nil)))
      (pss_cons (ps_set (i := 3) sc__law_some_order.nd rfl (Or.inl rfl) (Gx.pe_pos (p__law_take T) hr (by decide) (by rfl) b__law_take pass0 (pa_cons (pv 0) (pa_cons pe_int pa_nil))))
      (pss_cons (ps_if (pt_cmpR op_lt (pv 3) pe_int (nomark _)) (pss_one (ps_ret pe_non)) pss_nil)
      (pss_cons (ps_if (pt_cmpR op_lt (pv 3) pe_int (nomark _)) (pss_one (ps_ret (pv 2))) pss_nil)
      (pss_cons (ps_set (i := 4) sc__law_some_order.nd rfl (Or.inl rfl) (pe_lst (pa_cons (pe_callTy call_list_of (by rfl) T.b_list (by decide +kernel) (pa_cons (pv 2) pa_nil)) (pa_cons (pe_op op_catB (pv 2) (pe_tup (pa_cons pe_str pa_nil))) (pa_cons (pe_slice sl_tupB (pv 2) (po_some pe_int) po_none) (pa_cons (pe_op op_catB (pv 2) (pe_slice sl_tupB (pv 2) po_none (po_some pe_int))) (pa_cons (pe_op op_catB (pe_tup (pa_cons pe_str pa_nil)) (pe_slice sl_tupB (pv 2) (po_some pe_int) po_none)) (pa_cons (pe_bm PySem.F.plainAttrs_str PySem.F.slot_str_join PySem.F.type_str_join mt_join pe_str (pa_cons (pv 2) pa_nil)) (pa_cons (pe_tup pa_nil) (pa_cons pe_int pa_nil))))))))))
      (pss_one (ps_ret (Gx.pe_pos (p__law_pick T) hr (by decide) (by rfl) b__law_pick pass0 (pa_cons (pv 0) (pa_cons (pe_op op_cat (pv 4) (pe_lst (pa_cons pe_bl (pa_cons (pe_callTy call_tuple_of (by rfl) T.b_tuple (by decide +kernel) (pa_cons (pe_lc (own := [("_law_name", 5)]) (g := gName 5) (tt := tYes) rfl sc__law_some_order.nd (pi_tup (pv 2)) (blkOk_by (N := N__law_some_order) (sc := defScope s__law_some_order) (by decide +kernel)) (fun _ _ _ _ _ => (pg_name (i := 5) sc__law_some_order.nd rfl (Or.inl rfl))) (fun _ _ _ _ _ => pts_nil) (fun _ _ _ _ _ => (pe_tup (pa_cons (pv 5) pa_nil)))) pa_nil)) (pa_cons (pe_callTy call_tuple_of (by rfl) T.b_tuple (by decide +kernel) (pa_cons (pe_lc (own := [("_law_name", 5)]) (g := gName 5) (tt := tYes) rfl sc__law_some_order.nd (pi_tup (pv 2)) (blkOk_by (N := N__law_some_order) (sc := defScope s__law_some_order) (by decide +kernel)) (fun _ _ _ _ _ => (pg_name (i := 5) sc__law_some_order.nd rfl (Or.inl rfl))) (fun _ _ _ _ _ => pts_nil) (fun _ _ _ _ _ => pe_non)) pa_nil)) (pa_cons pe_dnewK pa_nil)))))) pa_nil)))))))))), ?_⟩
    refine ⟨_, rfl, _, rfl, p, o, _, rfl, hp, no, .inl ho, by rw [List.length_map]; omega, ?_, fun l ys H1 pm nl hl hp1 k1 => ?_⟩
    · intro x hx
      obtain ⟨z, hz, rfl⟩ := List.mem_map.mp hx
      exact .str z (lw_ok (hn z hz)).1 (lw_ok (hn z hz)).2
    obtain ⟨us, rfl, hu⟩ := all_strs (ys := ys) fun y hy => by
      obtain ⟨z, hz, rfl⟩ := List.mem_map.mp (pm.mem_iff.mp hy)
      exact ⟨z, rfl, hn z hz⟩
    have hul : us.length ≤ 10 := by
      have := pm.length_eq
      rw [List.length_map, List.length_map] at this
      omega
    refine ⟨l, _, rfl, .inl ⟨SqL.of hl, fun t nt => ?_⟩⟩
    have s1 := Gx.sameU nt (o := .tup (us.map V.str))
    refine ⟨_, rfl, p, _, rfl, hp1.same s1, by decide, by decide, fun r H2 r0 r1 hp2 k2 => ⟨_, rfl, _, _, rfl, rfl, _, rfl, ?_⟩⟩
    have nlp := hp.ne nl
    have ntp := hp1.ne nt
    have ht2 : H2 t = some (.tup (us.map V.str)) := k2 _ _ ntp upd_same
    have k02 : Gx.Kp p H H2 := (k1.trans (Gx.Kp.of s1)).trans k2
    have smu : ∀ {G : Hp}, ∀ x ∈ us.map V.str, Sm 30 4 p p G x := fun x hx => by
      obtain ⟨z, hz, rfl⟩ := List.mem_map.mp hx
      exact sm_str (n := 19) (name_small (hu z hz))
    show if decide (r < (3 : Int)) = true then _ else _
    by_cases c3 : r < 3
    · rw [decide_eq_true c3]
      exact iteT (q _ _ lane_non hp2 k02)
    · rw [decide_eq_false c3]
      refine iteF ⟨_, rfl, _, _, rfl, rfl, _, rfl, ?_⟩
      show if decide (r < (6 : Int)) = true then _ else _
      by_cases c6 : r < 6
      · rw [decide_eq_true c6]
        refine iteT ⟨_, rfl, q _ _ (lane_tup ntp ht2 smu (by rw [List.length_map]; omega)) hp2 k02⟩
      · rw [decide_eq_false c6]
        refine iteF ?_
        have ul : (us.map V.str).length ≤ 10 := by rw [List.length_map]; exact hul
        refine ⟨_, rfl, t, _, rfl, .inr (SqT.of ht2), fun l1 nl1 => ?_⟩
        refine ⟨_, rfl, by show 1 ≤ sizeLine; decide, fun z1 nz1 => ⟨t, z1, _, _, rfl, rfl, by (repeat (first | exact upd_same | assumption | refine Gx.sameU (by assumption) _ _ ?_ | refine (show Same _ _ by assumption) _ _ ?_)), upd_same, Nat.le_trans (Nat.add_le_add_right ul 1) (by decide), fun c1 G1 g1 hc1 => ?_⟩⟩
        refine ⟨_, rfl, 1, rfl, t, _, rfl, by (repeat (first | exact upd_same | assumption | refine Gx.sameU (by assumption) _ _ ?_ | refine (show Same _ _ by assumption) _ _ ?_)), fun c2 G2 g2 hc2 => ?_⟩
        have dl : ((us.map V.str).take 1).length ≤ 10 := by rw [List.length_take]; omega
        have dd : ((us.map V.str).drop 1).length ≤ 10 := by rw [List.length_drop]; omega
        refine ⟨_, rfl, _, rfl, 1, rfl, t, _, rfl, by (repeat (first | exact upd_same | assumption | refine Gx.sameU (by assumption) _ _ ?_ | refine (show Same _ _ by assumption) _ _ ?_)), fun c3 G3 g3 hc3 => ⟨t, c3, _, _, rfl, rfl, by (repeat (first | exact upd_same | assumption | refine Gx.sameU (by assumption) _ _ ?_ | refine (show Same _ _ by assumption) _ _ ?_)), hc3, ?_, fun c4 G4 g4 hc4 => ?_⟩⟩
        · rw [show (some 1 : Option Int) = some ((1 : Nat) : Int) from rfl, cut_to]
          exact Nat.le_trans (Nat.add_le_add ul dl) (by decide)
        refine ⟨by show 1 ≤ sizeLine; decide, fun z2 nz2 => ⟨_, rfl, 1, rfl, t, _, rfl, by (repeat (first | exact upd_same | assumption | refine Gx.sameU (by assumption) _ _ ?_ | refine (show Same _ _ by assumption) _ _ ?_)), fun c5 G5 g5 hc5 => ⟨z2, c5, _, _, rfl, rfl, by (repeat (first | exact upd_same | assumption | refine Gx.sameU (by assumption) _ _ ?_ | refine (show Same _ _ by assumption) _ _ ?_)), hc5, ?_, fun c6 G6 g6 hc6 => ?_⟩⟩⟩
        · rw [cut_1]
          exact Nat.le_trans (Nat.add_le_add_left dd 1) (by decide)
        refine ⟨rfl, _, rfl, _, t, us, rfl, rfl, .inr (SqT.of (by (repeat (first | exact upd_same | assumption | refine Gx.sameU (by assumption) _ _ ?_ | refine (show Same _ _ by assumption) _ _ ?_)))), ?_, ?_⟩
        · have := sum_names us hu
          show (us.map (·.length)).sum + us.length * 0 ≤ 16777216
          omega
        refine ⟨Nat.zero_le _, fun e1 ne1 => ⟨by show 8 ≤ sizeLine; decide, fun o1 no1 => ?_⟩⟩
        refine ⟨_, rfl, _, rfl, _, rfl, ?_⟩
        have sA : Same H2 (L2.upd (L2.upd G6 e1 (.tup [])) o1 (.lst [.ref l1, .ref c1, .ref c2, .ref c4, .ref c6, .str (Txt.join "" us), .ref e1, .int 0])) := by (repeat (first | exact Same.refl _ | assumption | refine Same.trans ?_ (Gx.sameU (by assumption)) | refine Same.trans ?_ (show Same _ _ by assumption)))
        have ho1 : (L2.upd (L2.upd G6 e1 (.tup [])) o1 (.lst [.ref l1, .ref c1, .ref c2, .ref c4, .ref c6, .str (Txt.join "" us), .ref e1, .int 0])) o1 = some (.lst [.ref l1, .ref c1, .ref c2, .ref c4, .ref c6, .str (Txt.join "" us), .ref e1, .int 0]) := upd_same
        have tt : Txt.join "" us = Str.join "" us := StrLaws.glued_eq_join _ _
        have jn := join_names us hu
        have all8 : ∀ v ∈ [.ref l1, .ref c1, .ref c2, .ref c4, .ref c6, .str (Txt.join "" us), .ref e1, .int 0], Lane p (L2.upd (L2.upd G6 e1 (.tup [])) o1 (.lst [.ref l1, .ref c1, .ref c2, .ref c4, .ref c6, .str (Txt.join "" us), .ref e1, .int 0])) v := by
          intro v hv
          have N : ∀ {q : Addr} {G : Hp}, Same H2 G → G q = none → q ≠ p := fun s n => (hp2.same s).ne n
          have NT : ∀ {q : Addr} {G : Hp} {ws : List V}, Same H2 G → G q = some (.tup ws) → q ≠ p := fun s n => ((hp2.same s).n.tne n).1
          simp only [List.mem_cons, List.not_mem_nil, or_false] at hv
          rcases hv with rfl | rfl | rfl | rfl | rfl | rfl | rfl | rfl
          · exact lane_lst (N (by (repeat (first | exact Same.refl _ | assumption | refine Same.trans ?_ (Gx.sameU (by assumption)) | refine Same.trans ?_ (show Same _ _ by assumption)))) nl1) (by (repeat (first | exact upd_same | assumption | refine Gx.sameU (by assumption) _ _ ?_ | refine (show Same _ _ by assumption) _ _ ?_))) smu (Nat.le_trans ul (by decide))
          · refine lane_tup (NT (by (repeat (first | exact Same.refl _ | assumption | refine Same.trans ?_ (Gx.sameU (by assumption)) | refine Same.trans ?_ (show Same _ _ by assumption)))) hc1) (by (repeat (first | exact upd_same | assumption | refine Gx.sameU (by assumption) _ _ ?_ | refine (show Same _ _ by assumption) _ _ ?_))) (fun x hx => ?_) (by rw [List.length_append]; exact Nat.le_trans (Nat.add_le_add_right ul 1) (by decide))
            rcases List.mem_append.mp hx with hx | hx
            · exact smu x hx
            · rw [List.mem_singleton.mp hx]
              exact sm_str (n := 19) (by decide +kernel)
          · rw [cut_1] at hc2
            exact lane_tup (NT (by (repeat (first | exact Same.refl _ | assumption | refine Same.trans ?_ (Gx.sameU (by assumption)) | refine Same.trans ?_ (show Same _ _ by assumption)))) hc2) (by (repeat (first | exact upd_same | assumption | refine Gx.sameU (by assumption) _ _ ?_ | refine (show Same _ _ by assumption) _ _ ?_))) (fun x hx => smu x (List.mem_of_mem_drop hx)) (Nat.le_trans dd (by decide))
          · rw [show (some 1 : Option Int) = some ((1 : Nat) : Int) from rfl, cut_to] at hc4
            refine lane_tup (NT (by (repeat (first | exact Same.refl _ | assumption | refine Same.trans ?_ (Gx.sameU (by assumption)) | refine Same.trans ?_ (show Same _ _ by assumption)))) hc4) (by (repeat (first | exact upd_same | assumption | refine Gx.sameU (by assumption) _ _ ?_ | refine (show Same _ _ by assumption) _ _ ?_))) (fun x hx => ?_) (by rw [List.length_append]; exact Nat.le_trans (Nat.add_le_add ul dl) (by decide))
            rcases List.mem_append.mp hx with hx | hx
            · exact smu x hx
            · exact smu x (List.mem_of_mem_take hx)
          · rw [cut_1] at hc6
            refine lane_tup (NT (by (repeat (first | exact Same.refl _ | assumption | refine Same.trans ?_ (Gx.sameU (by assumption)) | refine Same.trans ?_ (show Same _ _ by assumption)))) hc6) (by (repeat (first | exact upd_same | assumption | refine Gx.sameU (by assumption) _ _ ?_ | refine (show Same _ _ by assumption) _ _ ?_))) (fun x hx => ?_) (by rw [List.length_append]; exact Nat.le_trans (Nat.add_le_add_left dd 1) (by decide))
            rcases List.mem_append.mp hx with hx | hx
            · rw [List.mem_singleton.mp hx]
              exact sm_str (n := 19) (by decide +kernel)
            · exact smu x (List.mem_of_mem_drop hx)
          · rw [tt]
            exact lane_str ⟨by have := jn.1; simp only [Array.length_toList] at this; show (Str.join "" us).cps.size ≤ 100; omega, jn.2⟩
          · exact lane_tup (N (by (repeat (first | exact Same.refl _ | assumption | refine Same.trans ?_ (Gx.sameU (by assumption)) | refine Same.trans ?_ (show Same _ _ by assumption)))) ne1) (by (repeat (first | exact upd_same | assumption | refine Gx.sameU (by assumption) _ _ ?_ | refine (show Same _ _ by assumption) _ _ ?_))) (fun _ h => by cases h) (by simp)
          · exact lane_int (by decide)
        have nD0 := hp2.same sA
        revert sA ho1 all8 nD0
        generalize L2.upd (L2.upd G6 e1 (.tup [])) o1 (.lst [.ref l1, .ref c1, .ref c2, .ref c4, .ref c6, .str (Txt.join "" us), .ref e1, .int 0]) = HA
        intro sA ho1 all8 hpA
        have htA := sA _ _ ht2
        refine ⟨t, rfl, ⟨_, SqT.of htA⟩, fun D hD => ?_⟩
        refine lc_it (walk_tup (K := K) (a := t) (xs := us.map V.str))
          (fun i H' => Same HA H' ∧ ∃ l : List V, l.length = i ∧ (∀ x ∈ l, ∃ a z, x = .ref a ∧ a ≠ p ∧ nameZ z = true ∧ H' a = some (.tup [.str z])) ∧ H' D = some (.lst l))
          ⟨Gx.sameU hD, [], rfl, (fun _ h => nomatch h), upd_same⟩ (fun i H' _ h' => .inl (.inl (h'.1 _ _ htA))) (fun i v H4 H5 hi h' Y => ?_) fun H4 h' => ?_
        · obtain ⟨s7, ll, hl7, hs, hd⟩ := h'
          obtain ⟨rfl, he⟩ := Y
          rw [List.getElem?_map] at he
          obtain ⟨z, hz, rfl⟩ := Option.map_eq_some_iff.mp he
          have nz := hu z (List.mem_of_getElem? hz)
          refine ⟨rfl, _, rfl, by show 1 ≤ sizeLine; decide, fun a na => ⟨_, (Gx.sameU na) _ _ hd, ?_, ?_, ll ++ [.ref a], ?_, ?_, upd_same⟩⟩
          · rw [hl7]
            exact Nat.lt_of_lt_of_le hi (Nat.le_trans ul (by decide))
          · intro b ob e
            rw [upd_ne (ne_of_none e hD)]
            exact (s7.trans (Gx.sameU na)) b ob e
          · rw [List.length_append, hl7]
            rfl
          · have naD : a ≠ D := fun e => by
              rw [e, hd] at na
              cases na
            intro x hx'
            rcases List.mem_append.mp hx' with h | h
            · obtain ⟨t', y, e1, e2, e3, e4⟩ := hs x h
              refine ⟨t', y, e1, e2, e3, ?_⟩
              rw [upd_ne fun e => ?_]
              · exact (Gx.sameU na) _ _ e4
              · rw [e, hd] at e4
                cases e4
            · refine ⟨a, z, List.mem_singleton.mp h, (hpA.same s7).ne na, nz, ?_⟩
              rw [upd_ne naD, upd_same]
        · obtain ⟨s7, ll, hl7, hs, hd⟩ := h'
          refine ⟨D, ll, rfl, .inl ⟨SqL.of hd, fun tA nA => ?_⟩⟩
          have g7 := sA.trans (s7.trans (Gx.sameU nA (o := .tup ll)))
          have htB := g7 _ _ ht2
          refine ⟨_, rfl, t, rfl, ⟨_, SqT.of htB⟩, fun D2 hD2 => ?_⟩
          refine lc_it (walk_tup (K := K) (a := t) (xs := us.map V.str))
            (fun i H' => Same (L2.upd H4 tA (.tup ll)) H' ∧ ∃ l : List V, l.length = i ∧ (∀ x ∈ l, x = V.non) ∧ H' D2 = some (.lst l))
            ⟨Gx.sameU hD2, [], rfl, (fun _ h => nomatch h), upd_same⟩ (fun i H' _ h' => .inl (.inl (h'.1 _ _ htB))) (fun i v H5 H6 hi h' Y => ?_) fun H5 h' => ?_
          · obtain ⟨s8, l2, hl8, hs8, hd8⟩ := h'
            obtain ⟨rfl, he⟩ := Y
            refine ⟨rfl, l2, hd8, ?_, ?_, l2 ++ [.non], ?_, ?_, upd_same⟩
            · rw [hl8]
              exact Nat.lt_of_lt_of_le hi (Nat.le_trans ul (by decide))
            · intro b ob e
              rw [upd_ne (ne_of_none e hD2)]
              exact s8 b ob e
            · rw [List.length_append, hl8]
              rfl
            · intro x hx
              rcases List.mem_append.mp hx with h | h
              · exact hs8 x h
              · exact List.mem_singleton.mp h
          · obtain ⟨s8, l2, hl8, hs8, hd8⟩ := h'
            have h7 := hpA.same s7
            have h8 := h7.same ((Gx.sameU nA (o := .tup ll)).trans s8)
            refine ⟨D2, l2, rfl, .inl ⟨SqL.of hd8, fun tB nB => ?_⟩⟩
            refine fun e2 ne2 => ⟨by show 4 ≤ sizeLine; decide, fun o3 no3 => ?_⟩
            have sF : Same HA (L2.upd (L2.upd (L2.upd H5 tB (.tup l2)) e2 (.dK [])) o3 (.lst [.bl false, .ref tA, .ref tB, .ref e2])) := s7.trans (by (repeat (first | exact Same.refl _ | assumption | refine Same.trans ?_ (Gx.sameU (by assumption)) | refine Same.trans ?_ (show Same _ _ by assumption))))
            refine ⟨o1, o3, _, _, rfl, rfl, sF _ _ ho1, upd_same, by show 12 ≤ sizeLine; decide, fun o4 no4 => ?_⟩
            have sFF := sF.trans (Gx.sameU no4 (o := .lst ([.ref l1, .ref c1, .ref c2, .ref c4, .ref c6, .str (Txt.join "" us), .ref e1, .int 0] ++ [.bl false, .ref tA, .ref tB, .ref e2])))
            refine ⟨p, _, rfl, hpA.same sFF, .inl ⟨o4, _, rfl, (hpA.same sF).ne no4, upd_same, by show 0 < 12; decide, by show 12 ≤ 1000; decide, fun v H6 hv hp6 k6 => q v H6 (Lane.kp ?_ k6) hp6 ((k02.trans (Gx.Kp.of (sA.trans sFF))).trans k6)⟩⟩
            rcases List.mem_append.mp hv with hv | hv
            · exact (all8 v hv).kp (Gx.Kp.of sFF)
            · simp only [List.mem_cons, List.not_mem_nil, or_false] at hv
              rcases hv with rfl | rfl | rfl | rfl
              · exact lane_bl
              · refine lane_tup (h7.ne nA) (by (repeat (first | exact upd_same | assumption | refine Gx.sameU (by assumption) _ _ ?_ | refine (show Same _ _ by assumption) _ _ ?_))) (fun x hx => ?_) (by rw [hl7]; exact Nat.le_trans ul (by decide))
                obtain ⟨a, z, rfl, na, nz, ea⟩ := hs x hx
                exact .tup (n := 11) (k := 0) ⟨na, na⟩ (by (repeat (first | exact upd_same | assumption | refine Gx.sameU (by assumption) _ _ ?_ | refine (show Same _ _ by assumption) _ _ ?_))) (fun y hy => by rw [List.mem_singleton.mp hy]; exact sm_str (n := 0) (name_small nz)) (by show 1 * 12 ≤ 30; decide) (by decide)
              · refine lane_tup (h8.ne nB) (by (repeat (first | exact upd_same | assumption | refine Gx.sameU (by assumption) _ _ ?_ | refine (show Same _ _ by assumption) _ _ ?_))) (fun x hx => ?_) (by rw [hl8]; exact Nat.le_trans ul (by decide))
                rw [hs8 x hx]
                exact sm_non
              · exact lane_nil ((h8.same (by (repeat (first | exact Same.refl _ | assumption | refine Same.trans ?_ (Gx.sameU (by assumption)) | refine Same.trans ?_ (show Same _ _ by assumption))))).ne ne2) (by (repeat (first | exact upd_same | assumption | refine Gx.sameU (by assumption) _ _ ?_ | refine (show Same _ _ by assumption) _ _ ?_)))
end
end My
namespace My
open PySem PySem.Spec PyProof.Rows L2
/-- what is told of a query -/
def toldD (dx dy : PyData) : PyData := match probD dx dy with
  | some (z, i) => .list [.str "refused", .list [.str z, .int i]]
  | none => .list [.str "made", .list ((itemsD dx).getD []), varD ((itemsD dx).getD []) dy, .int (((itemsD dx).getD []).length : Nat)]
theorem told_some {dx dy : PyData} {z : Str} {i : Int} (h : probD dx dy = some (z, i)) : toldD dx dy = .list [.str "refused", .list [.str z, .int i]] := by
  unfold toldD
  rw [h]
theorem told_none {dx dy : PyData} {ds : List PyData} (h : probD dx dy = none) (e : itemsD dx = some ds) : toldD dx dy = .list [.str "made", .list ds, varD ds dy, .int (ds.length : Nat)] := by
  unfold toldD
  rw [h, e]
  rfl
section
variable {P : Program} {w : World} {K : PySem.W.Frag} {mg : Str → Option Value} {base : Heap}
def spTold : Sp := fun vs H Q _ => ∃ (p : Addr) (x y : V) (dx dy : PyData) (way : Int), vs = [x, y, .int way] ∧ Gx.Dat p H x dx ∧ Gx.Dat p H y dy ∧ (∃ o, H p = some o) ∧ (∀ ds, dy = .tuple ds → ds.length < 64) ∧ ∀ t H', Same H H' → Gx.Dat p H' (.ref t) (toldD dx dy) → Q (.ref t) H'
theorem mk_ok {mg : Str → Option Value} {p : Addr} {x y : V} {dx dy : PyData} {H : Hp} {op : HO} (tx : Gx.Dat p H x dx) (ty : Gx.Dat p H y dy) (hp : H p = some op) (hy : ∀ ds, dy = .tuple ds → ds.length < 64) (R : Addr → Hp → Prop) (E1 : XK)
    (hm : ∀ q H' ds, Same H H' → q ≠ p → itemsD dx = some ds → probD dx dy = none → QryAt mg p H' q ds (varD ds dy) → R q H')
    (he : ∀ z i H' d, Same H H' → probD dx dy = some (z, i) → H' d = none → E1 (.ref (Gx.cl mg "InvalidQuery")) (some d) (L2.upd H' d (.xd [("position", .int i), ("problem", .str z)]))) :
    ∀ q dd, H q = none → H dd = none → dd ≠ q → spQI mg [.ref q, x, y] (L2.upd (L2.upd H dd (.own q)) q (.ins (Gx.cl mg "Query") dd [])) (fun v H3 => v = .non ∧ R q H3) E1 := by
  intro q dd h1 h2 h3
  have s1 : Same H (L2.upd (L2.upd H dd (.own q)) q (.ins (Gx.cl mg "Query") dd [])) := (Gx.sameU h2).trans (Gx.sameU (by rw [upd_ne h3.symm]; exact h1))
  have nqp : q ≠ p := fun e => by
    rw [e, hp] at h1
    cases h1
  refine ⟨p, q, dd, x, y, dx, dy, rfl, upd_same, ⟨_, s1 _ _ hp⟩, nqp, tx.kp (Gx.Kp.of s1), ty.kp (Gx.Kp.of s1), hy, fun H' ds k e c hq => ⟨rfl, hm q H' ds (fun b o z => ?_) nqp e c hq⟩, fun z i H' d s c hd => he z i H' d (s1.trans s) c hd⟩
  exact k b o (ne_of_none z h1) (s1 _ _ z)
theorem prob_small {dx dy : PyData} {z : Str} {i : Int} (h : probD dx dy = some (z, i)) : z.length ≤ 100 ∧ (∀ c ∈ z.cps.toList, c < 128) ∧ i.natAbs < 10 ^ 100 := by
  have k : ∀ (y : Str) (j : Int), some (y, j) = some (z, i) → (y.length ≤ 100 ∧ (∀ c ∈ y.cps.toList, c < 128)) → j.natAbs < 10 ^ 100 → z.length ≤ 100 ∧ (∀ c ∈ z.cps.toList, c < 128) ∧ i.natAbs < 10 ^ 100 := fun y j e a b => by
    cases e
    exact ⟨a.1, a.2, b⟩
  unfold probD at h
  cases e : itemsD dx with
  | none =>
    rw [e] at h
    exact k _ _ h (by decide +kernel) (by decide)
  | some ds =>
    rw [e] at h
    dsimp only at h
    by_cases c : ds.length = 0 ∨ 8 < ds.length
    · rw [if_pos c] at h
      exact k _ _ h (by decide +kernel) (by decide)
    · rw [if_neg c] at h
      cases b : badD ds with
      | some j =>
        rw [b] at h
        refine k _ _ h (by decide +kernel) ?_
        have := (List.findIdx?_eq_some_iff_getElem.mp b).1
        exact Nat.lt_of_le_of_lt (show ((j : Nat) : Int).natAbs ≤ 8 by omega) (by decide)
      | none =>
        rw [b] at h
        dsimp only at h
        by_cases c5 : 5 < (varsD ds).length
        · rw [if_pos c5] at h
          exact k _ _ h (by decide +kernel) (by decide)
        · rw [if_neg c5] at h
          by_cases c6 : (nonD dy || orderD dy (varsD ds)) = true
          · rw [if_pos c6] at h
            cases h
          · rw [if_neg c6] at h
            exact k _ _ h (by decide +kernel) (by decide)
theorem p__law_told (T : Mo K mg) : Gx.Pr P w K mg base CX0 9 "_law_told" s__law_told ["_law_thing", "_law_lane", "_law_way"] spTold := by
  refine T.d__law_told.ok sc__law_told (fun vs H Q E h => ?_) (fun f cdv A outer s H vs Q E hr h => ?_)
  · obtain ⟨p, x, y, dx, dy, way, rfl, _⟩ := h
    rfl
  · obtain ⟨p, x, y, dx, dy, way, rfl, tx, ty, ⟨op, hp⟩, hy, qq⟩ := h
    refine ⟨_, (pss_cons (ps_set (i := 3) sc__law_told.nd rfl (Or.inl rfl) pe_str)
      (pss_cons (Gx.ps_try rfl rfl sc__law_told.nd takes0 (fun W pn xe tk po => (pss_cons (ps_if (pt_cmpR op_eq (pv 2) pe_int (nomark _)) (pss_one (ps_set (i := 4) sc__law_told.nd rfl (Or.inl rfl) (Gx.pe_mkPt (mg := mg) (E := WE W) rfl (p_Query___init__ T) T.mk_Query hr (by decide) (by rfl) (by simp) mb_Query_2 (fun σ => passAt tk σ) (pa_cons (pv 0) (pa_cons (pv 1) pa_nil))))) (pss_one (ps_if (pt_cmpR op_eq (pv 2) pe_int (nomark _)) (pss_one (ps_set (i := 4) sc__law_told.nd rfl (Or.inl rfl) (Gx.pe_mkKt (mg := mg) (E := WE W) rfl (p_Query___init__ T) T.mk_Query hr (by decide) (by rfl) (by simp) mb_Query_0_order_literals (fun σ => passAt tk σ) (pk_cons (pv 1) (pk_cons (pv 0) pk_nil))))) (pss_one (ps_set (i := 4) sc__law_told.nd rfl (Or.inl rfl) (pe_ifExp (pt_cmpR op_isN (pv 1) pe_non (nomark _)) (Gx.pe_mkPt (mg := mg) (E := WE W) rfl (p_Query___init__ T) T.mk_Query hr (by decide) (by rfl) (by simp) mb_Query_1 (fun σ => passAt tk σ) (pa_cons (pv 0) pa_nil)) (Gx.pe_mkPKt (mg := mg) (E := WE W) rfl (p_Query___init__ T) T.mk_Query hr (by decide) (by rfl) (by simp) mb_Query_1_order (fun σ => passAt tk σ) (pa_cons (pv 0) pa_nil) (pk_cons (pv 1) pk_nil))))))))
      (pss_one (ps_set (i := 3) sc__law_told.nd rfl (Or.inl rfl) (pe_lst (pa_cons pe_str (pa_cons (Gx.pe_met0t (mg := mg) rfl (p_Query_literals T) T.m_Query_literals hr (by decide) bm_Query_literals pass0 (pv 4)) (pa_cons (Gx.pe_prqt (mg := mg) rfl (p_Query_variables T) hr (by decide) (pv 4)) (pa_cons (pe_callB (Gx.call_lenMt (mg := mg) rfl (p_Query___len__ T) T.m_Query___len__ bm_Query___len__ hr (by decide)) (by rfl) T.b_len (by decide +kernel) (pa_cons (pv 4) pa_nil)) pa_nil)))))))))
      (.as (i := 5) rfl rfl ⟨rfl, by decide, .inl T.c_InvalidQuery.g⟩ (fun a oe cls d pn hz hf => (pss_one (ps_if (PW.pt (pw_and (pt_val (pe_callB (Gx.call_isPt (K := K) (mg := mg) rfl rfl (a := a) (oe := oe) List.mem_cons_self hz hf) (by rfl) T.b_isinstance (show bootBuiltins "isinstance" = some (.builtin "isinstance") by decide +kernel) (pa_cons (pv 5) (pa_cons (Gx.pe_k rfl T.c_CoverError.known) pa_nil)))) (pw_and (pt_val (pe_callB (Gx.call_isPt (K := K) (mg := mg) rfl rfl (a := a) (oe := oe) List.mem_cons_self hz hf) (by rfl) T.b_isinstance (show bootBuiltins "isinstance" = some (.builtin "isinstance") by decide +kernel) (pa_cons (pv 5) (pa_cons (pe_bltn (v := .ty "ValueError") rfl T.b_ValueError (by decide +kernel) rfl) pa_nil)))) (pw_and1 (pt_not (pt_val (pe_callB (Gx.call_isPt (K := K) (mg := mg) rfl rfl (a := a) (oe := oe) List.mem_cons_self hz hf) (by rfl) T.b_isinstance (show bootBuiltins "isinstance" = some (.builtin "isinstance") by decide +kernel) (pa_cons (pv 5) (pa_cons (Gx.pe_k rfl T.c_InvalidText.known) pa_nil))))))))) (pss_one (ps_set (i := 3) sc__law_told.nd rfl (Or.inl rfl) (pe_lst (pa_cons pe_str (pa_cons (pe_lst (pa_cons (pe_xf T.e_InvalidQuery.xf T.f_InvalidQuery_problem hz hf (pv 5)) (pa_cons (pe_xf T.e_InvalidQuery.xf T.f_InvalidQuery_position hz hf (pv 5)) pa_nil))) pa_nil))))) pss_nil))) .nil))
      (pss_one (ps_ret (pv 3))))), ?_⟩
    refine ⟨_, rfl, rfl, _, rfl, ?_⟩
    show if decide (V.int way = V.int 0) = true then _ else _
    by_cases c0 : V.int way = V.int 0
    · rw [decide_eq_true c0]
      refine iteT ⟨_, rfl, _, rfl, rfl, rfl, mk_ok tx ty hp hy _ _ ?M1 ?R1⟩
      · intro r H' ds s1 nq e c hq
        obtain ⟨fx, l0, v0, xs0, i1, i2, i3, i4, i5⟩ := id hq
        refine ⟨_, rfl, r, fx, _, rfl, i1, rfl, p, r, ds, _, rfl, hq, fun l xs dl hl => ?_⟩
        have s2 := Gx.sameU hl (o := .lst xs)
        have hq2 := hq.kp nq (Gx.Kp.of s2)
        refine ⟨_, rfl, r, fx, _, rfl, s2 _ _ i1, p, r, ds, _, rfl, hq2, fun v tv => ?_⟩
        obtain ⟨l8, _, _⟩ := prob_none e c
        refine ⟨_, rfl, r, fx, _, rfl, s2 _ _ i1, p, r, ds, _, rfl, hq2, ds.length, rfl, Nat.le_trans l8 (by decide), by show 4 ≤ sizeLine; decide, fun t nt => ?_⟩
        refine ⟨_, rfl, qq t _ ((s1.trans s2).trans (Gx.sameU nt)) ?_⟩
        rw [told_none c e]
        have s3 := Gx.sameU nt (o := .lst [.str "made", .ref l, v, .int (ds.length : Nat)])
        have hp1 := s1 _ _ hp
        have nep : ∀ {q : Addr} {G : Hp}, Same H' G → G q = none → q ≠ p := fun s n z => by
          have := s _ _ hp1
          rw [← z, n] at this
          cases this
        refine .lst (nep s2 nt) upd_same (.cons (.str "made" (by decide +kernel) (by decide +kernel)) (.cons (.lst (nep (Same.refl _) hl) (s3 _ _ upd_same) ((dl.kp (Gx.Kp.of s2)).kp (Gx.Kp.of s3))) (.cons (tv.kp (Gx.Kp.of s3)) (.cons (.int _ ?_) .nil))))
        exact Nat.lt_of_le_of_lt (show ((ds.length : Nat) : Int).natAbs ≤ 8 by omega) (by decide)
      · intro z i H' d s1 c hd
        refine ⟨true, T.u_InvalidQuery_InvalidQuery.exm T.c_InvalidQuery, fun _ a ha => ?_, fun z => nomatch z⟩
        have eo : ∀ {G : Hp}, Same (L2.upd H' d (.xd [("position", .int i), ("problem", .str z)])) G → Gx.ErrOf mg "InvalidQuery" (.ref (Gx.cl mg "InvalidQuery")) (some d) G [("position", .int i), ("problem", .str z)] := fun s => ⟨rfl, d, rfl, s _ _ upd_same⟩
        refine ⟨_, rfl, "InvalidQuery", _, _, _, _, true, rfl, T.e_InvalidQuery, eo (Same.refl _), .inl ⟨_, .own _, T.u_InvalidQuery_CoverError.one T.c_CoverError⟩, _, rfl, iteT ?_⟩
        refine ⟨_, rfl, "InvalidQuery", _, _, _, _, true, rfl, T.e_InvalidQuery, eo (Same.refl _), .inl ⟨_, .ty _, Gx.kit_blt T.v_InvalidQuery_ValueError (by decide +kernel)⟩, _, rfl, iteT ?_⟩
        refine ⟨_, rfl, "InvalidQuery", _, _, _, _, false, rfl, T.e_InvalidQuery, eo (Same.refl _), .inl ⟨_, .own _, T.u_InvalidQuery_InvalidText.one T.c_InvalidText⟩, _, rfl, iteT ?_⟩
        refine ⟨_, rfl, rfl, rfl, d, _, .str z, rfl, upd_same, rfl, _, rfl, rfl, rfl, d, _, .int i, rfl, upd_same, rfl, by show 2 ≤ sizeLine; decide, fun l nl => ⟨by show 2 ≤ sizeLine; decide, fun t nt => ⟨_, rfl, ?_⟩⟩⟩
        refine qq t _ ((((s1.trans (Gx.sameU hd)).trans (Gx.sameU nl)).trans (Gx.sameU nt))) ?_
        rw [told_some c]
        have nep : ∀ {q : Addr} {G : Hp}, Same H' G → G q = none → q ≠ p := fun s n z => by
          have := s _ _ (s1 _ _ hp)
          rw [← z, n] at this
          cases this
        obtain ⟨z1, z2, z3⟩ := prob_small c
        exact .lst (nep ((Gx.sameU hd).trans (Gx.sameU nl)) nt) upd_same (.cons (.str "refused" (by decide +kernel) (by decide +kernel)) (.cons (.lst (nep (Gx.sameU hd) nl) ((Gx.sameU nt) _ _ upd_same) (.cons (.str z z1 z2) (.cons (.int i z3) .nil))) .nil))
    · rw [decide_eq_false c0]
      refine iteF ⟨_, rfl, rfl, _, rfl, ?_⟩
      show if decide (V.int way = V.int 1) = true then _ else _
      by_cases c1 : V.int way = V.int 1
      · rw [decide_eq_true c1]
        refine iteT ⟨_, rfl, _, rfl, rfl, rfl, mk_ok tx ty hp hy _ _ ?M2 ?R2⟩
        · intro r H' ds s1 nq e c hq
          obtain ⟨fx, l0, v0, xs0, i1, i2, i3, i4, i5⟩ := id hq
          refine ⟨_, rfl, r, fx, _, rfl, i1, rfl, p, r, ds, _, rfl, hq, fun l xs dl hl => ?_⟩
          have s2 := Gx.sameU hl (o := .lst xs)
          have hq2 := hq.kp nq (Gx.Kp.of s2)
          refine ⟨_, rfl, r, fx, _, rfl, s2 _ _ i1, p, r, ds, _, rfl, hq2, fun v tv => ?_⟩
          obtain ⟨l8, _, _⟩ := prob_none e c
          refine ⟨_, rfl, r, fx, _, rfl, s2 _ _ i1, p, r, ds, _, rfl, hq2, ds.length, rfl, Nat.le_trans l8 (by decide), by show 4 ≤ sizeLine; decide, fun t nt => ?_⟩
          refine ⟨_, rfl, qq t _ ((s1.trans s2).trans (Gx.sameU nt)) ?_⟩
          rw [told_none c e]
          have s3 := Gx.sameU nt (o := .lst [.str "made", .ref l, v, .int (ds.length : Nat)])
          have hp1 := s1 _ _ hp
          have nep : ∀ {q : Addr} {G : Hp}, Same H' G → G q = none → q ≠ p := fun s n z => by
            have := s _ _ hp1
            rw [← z, n] at this
            cases this
          refine .lst (nep s2 nt) upd_same (.cons (.str "made" (by decide +kernel) (by decide +kernel)) (.cons (.lst (nep (Same.refl _) hl) (s3 _ _ upd_same) ((dl.kp (Gx.Kp.of s2)).kp (Gx.Kp.of s3))) (.cons (tv.kp (Gx.Kp.of s3)) (.cons (.int _ ?_) .nil))))
          exact Nat.lt_of_le_of_lt (show ((ds.length : Nat) : Int).natAbs ≤ 8 by omega) (by decide)
        · intro z i H' d s1 c hd
          refine ⟨true, T.u_InvalidQuery_InvalidQuery.exm T.c_InvalidQuery, fun _ a ha => ?_, fun z => nomatch z⟩
          have eo : ∀ {G : Hp}, Same (L2.upd H' d (.xd [("position", .int i), ("problem", .str z)])) G → Gx.ErrOf mg "InvalidQuery" (.ref (Gx.cl mg "InvalidQuery")) (some d) G [("position", .int i), ("problem", .str z)] := fun s => ⟨rfl, d, rfl, s _ _ upd_same⟩
          refine ⟨_, rfl, "InvalidQuery", _, _, _, _, true, rfl, T.e_InvalidQuery, eo (Same.refl _), .inl ⟨_, .own _, T.u_InvalidQuery_CoverError.one T.c_CoverError⟩, _, rfl, iteT ?_⟩
          refine ⟨_, rfl, "InvalidQuery", _, _, _, _, true, rfl, T.e_InvalidQuery, eo (Same.refl _), .inl ⟨_, .ty _, Gx.kit_blt T.v_InvalidQuery_ValueError (by decide +kernel)⟩, _, rfl, iteT ?_⟩
          refine ⟨_, rfl, "InvalidQuery", _, _, _, _, false, rfl, T.e_InvalidQuery, eo (Same.refl _), .inl ⟨_, .own _, T.u_InvalidQuery_InvalidText.one T.c_InvalidText⟩, _, rfl, iteT ?_⟩
          refine ⟨_, rfl, rfl, rfl, d, _, .str z, rfl, upd_same, rfl, _, rfl, rfl, rfl, d, _, .int i, rfl, upd_same, rfl, by show 2 ≤ sizeLine; decide, fun l nl => ⟨by show 2 ≤ sizeLine; decide, fun t nt => ⟨_, rfl, ?_⟩⟩⟩
          refine qq t _ ((((s1.trans (Gx.sameU hd)).trans (Gx.sameU nl)).trans (Gx.sameU nt))) ?_
          rw [told_some c]
          have nep : ∀ {q : Addr} {G : Hp}, Same H' G → G q = none → q ≠ p := fun s n z => by
            have := s _ _ (s1 _ _ hp)
            rw [← z, n] at this
            cases this
          obtain ⟨z1, z2, z3⟩ := prob_small c
          exact .lst (nep ((Gx.sameU hd).trans (Gx.sameU nl)) nt) upd_same (.cons (.str "refused" (by decide +kernel) (by decide +kernel)) (.cons (.lst (nep (Gx.sameU hd) nl) ((Gx.sameU nt) _ _ upd_same) (.cons (.str z z1 z2) (.cons (.int i z3) .nil))) .nil))
      · rw [decide_eq_false c1]
        refine iteF ⟨_, rfl, rfl, _, rfl, ?_⟩
        show if decide (y = V.non) = true then _ else _
        by_cases cy : y = V.non
        · rw [decide_eq_true cy]
          subst cy
          refine iteT ⟨_, rfl, rfl, rfl, mk_ok tx ty hp hy _ _ ?M3 ?R3⟩
          · intro r H' ds s1 nq e c hq
            obtain ⟨fx, l0, v0, xs0, i1, i2, i3, i4, i5⟩ := id hq
            refine ⟨_, rfl, r, fx, _, rfl, i1, rfl, p, r, ds, _, rfl, hq, fun l xs dl hl => ?_⟩
            have s2 := Gx.sameU hl (o := .lst xs)
            have hq2 := hq.kp nq (Gx.Kp.of s2)
            refine ⟨_, rfl, r, fx, _, rfl, s2 _ _ i1, p, r, ds, _, rfl, hq2, fun v tv => ?_⟩
            obtain ⟨l8, _, _⟩ := prob_none e c
            refine ⟨_, rfl, r, fx, _, rfl, s2 _ _ i1, p, r, ds, _, rfl, hq2, ds.length, rfl, Nat.le_trans l8 (by decide), by show 4 ≤ sizeLine; decide, fun t nt => ?_⟩
            refine ⟨_, rfl, qq t _ ((s1.trans s2).trans (Gx.sameU nt)) ?_⟩
            rw [told_none c e]
            have s3 := Gx.sameU nt (o := .lst [.str "made", .ref l, v, .int (ds.length : Nat)])
            have hp1 := s1 _ _ hp
            have nep : ∀ {q : Addr} {G : Hp}, Same H' G → G q = none → q ≠ p := fun s n z => by
              have := s _ _ hp1
              rw [← z, n] at this
              cases this
            refine .lst (nep s2 nt) upd_same (.cons (.str "made" (by decide +kernel) (by decide +kernel)) (.cons (.lst (nep (Same.refl _) hl) (s3 _ _ upd_same) ((dl.kp (Gx.Kp.of s2)).kp (Gx.Kp.of s3))) (.cons (tv.kp (Gx.Kp.of s3)) (.cons (.int _ ?_) .nil))))
            exact Nat.lt_of_le_of_lt (show ((ds.length : Nat) : Int).natAbs ≤ 8 by omega) (by decide)
          · intro z i H' d s1 c hd
            refine ⟨true, T.u_InvalidQuery_InvalidQuery.exm T.c_InvalidQuery, fun _ a ha => ?_, fun z => nomatch z⟩
            have eo : ∀ {G : Hp}, Same (L2.upd H' d (.xd [("position", .int i), ("problem", .str z)])) G → Gx.ErrOf mg "InvalidQuery" (.ref (Gx.cl mg "InvalidQuery")) (some d) G [("position", .int i), ("problem", .str z)] := fun s => ⟨rfl, d, rfl, s _ _ upd_same⟩
            refine ⟨_, rfl, "InvalidQuery", _, _, _, _, true, rfl, T.e_InvalidQuery, eo (Same.refl _), .inl ⟨_, .own _, T.u_InvalidQuery_CoverError.one T.c_CoverError⟩, _, rfl, iteT ?_⟩
            refine ⟨_, rfl, "InvalidQuery", _, _, _, _, true, rfl, T.e_InvalidQuery, eo (Same.refl _), .inl ⟨_, .ty _, Gx.kit_blt T.v_InvalidQuery_ValueError (by decide +kernel)⟩, _, rfl, iteT ?_⟩
            refine ⟨_, rfl, "InvalidQuery", _, _, _, _, false, rfl, T.e_InvalidQuery, eo (Same.refl _), .inl ⟨_, .own _, T.u_InvalidQuery_InvalidText.one T.c_InvalidText⟩, _, rfl, iteT ?_⟩
            refine ⟨_, rfl, rfl, rfl, d, _, .str z, rfl, upd_same, rfl, _, rfl, rfl, rfl, d, _, .int i, rfl, upd_same, rfl, by show 2 ≤ sizeLine; decide, fun l nl => ⟨by show 2 ≤ sizeLine; decide, fun t nt => ⟨_, rfl, ?_⟩⟩⟩
            refine qq t _ ((((s1.trans (Gx.sameU hd)).trans (Gx.sameU nl)).trans (Gx.sameU nt))) ?_
            rw [told_some c]
            have nep : ∀ {q : Addr} {G : Hp}, Same H' G → G q = none → q ≠ p := fun s n z => by
              have := s _ _ (s1 _ _ hp)
              rw [← z, n] at this
              cases this
            obtain ⟨z1, z2, z3⟩ := prob_small c
            exact .lst (nep ((Gx.sameU hd).trans (Gx.sameU nl)) nt) upd_same (.cons (.str "refused" (by decide +kernel) (by decide +kernel)) (.cons (.lst (nep (Gx.sameU hd) nl) ((Gx.sameU nt) _ _ upd_same) (.cons (.str z z1 z2) (.cons (.int i z3) .nil))) .nil))
        · rw [decide_eq_false cy]
          refine iteF ⟨_, rfl, _, rfl, rfl, rfl, mk_ok tx ty hp hy _ _ ?M4 ?R4⟩
          · intro r H' ds s1 nq e c hq
            obtain ⟨fx, l0, v0, xs0, i1, i2, i3, i4, i5⟩ := id hq
            refine ⟨_, rfl, r, fx, _, rfl, i1, rfl, p, r, ds, _, rfl, hq, fun l xs dl hl => ?_⟩
            have s2 := Gx.sameU hl (o := .lst xs)
            have hq2 := hq.kp nq (Gx.Kp.of s2)
            refine ⟨_, rfl, r, fx, _, rfl, s2 _ _ i1, p, r, ds, _, rfl, hq2, fun v tv => ?_⟩
            obtain ⟨l8, _, _⟩ := prob_none e c
            refine ⟨_, rfl, r, fx, _, rfl, s2 _ _ i1, p, r, ds, _, rfl, hq2, ds.length, rfl, Nat.le_trans l8 (by decide), by show 4 ≤ sizeLine; decide, fun t nt => ?_⟩
            refine ⟨_, rfl, qq t _ ((s1.trans s2).trans (Gx.sameU nt)) ?_⟩
            rw [told_none c e]
            have s3 := Gx.sameU nt (o := .lst [.str "made", .ref l, v, .int (ds.length : Nat)])
            have hp1 := s1 _ _ hp
            have nep : ∀ {q : Addr} {G : Hp}, Same H' G → G q = none → q ≠ p := fun s n z => by
              have := s _ _ hp1
              rw [← z, n] at this
              cases this
            refine .lst (nep s2 nt) upd_same (.cons (.str "made" (by decide +kernel) (by decide +kernel)) (.cons (.lst (nep (Same.refl _) hl) (s3 _ _ upd_same) ((dl.kp (Gx.Kp.of s2)).kp (Gx.Kp.of s3))) (.cons (tv.kp (Gx.Kp.of s3)) (.cons (.int _ ?_) .nil))))
            exact Nat.lt_of_le_of_lt (show ((ds.length : Nat) : Int).natAbs ≤ 8 by omega) (by decide)
          · intro z i H' d s1 c hd
            refine ⟨true, T.u_InvalidQuery_InvalidQuery.exm T.c_InvalidQuery, fun _ a ha => ?_, fun z => nomatch z⟩
            have eo : ∀ {G : Hp}, Same (L2.upd H' d (.xd [("position", .int i), ("problem", .str z)])) G → Gx.ErrOf mg "InvalidQuery" (.ref (Gx.cl mg "InvalidQuery")) (some d) G [("position", .int i), ("problem", .str z)] := fun s => ⟨rfl, d, rfl, s _ _ upd_same⟩
            refine ⟨_, rfl, "InvalidQuery", _, _, _, _, true, rfl, T.e_InvalidQuery, eo (Same.refl _), .inl ⟨_, .own _, T.u_InvalidQuery_CoverError.one T.c_CoverError⟩, _, rfl, iteT ?_⟩
            refine ⟨_, rfl, "InvalidQuery", _, _, _, _, true, rfl, T.e_InvalidQuery, eo (Same.refl _), .inl ⟨_, .ty _, Gx.kit_blt T.v_InvalidQuery_ValueError (by decide +kernel)⟩, _, rfl, iteT ?_⟩
            refine ⟨_, rfl, "InvalidQuery", _, _, _, _, false, rfl, T.e_InvalidQuery, eo (Same.refl _), .inl ⟨_, .own _, T.u_InvalidQuery_InvalidText.one T.c_InvalidText⟩, _, rfl, iteT ?_⟩
            refine ⟨_, rfl, rfl, rfl, d, _, .str z, rfl, upd_same, rfl, _, rfl, rfl, rfl, d, _, .int i, rfl, upd_same, rfl, by show 2 ≤ sizeLine; decide, fun l nl => ⟨by show 2 ≤ sizeLine; decide, fun t nt => ⟨_, rfl, ?_⟩⟩⟩
            refine qq t _ ((((s1.trans (Gx.sameU hd)).trans (Gx.sameU nl)).trans (Gx.sameU nt))) ?_
            rw [told_some c]
            have nep : ∀ {q : Addr} {G : Hp}, Same H' G → G q = none → q ≠ p := fun s n z => by
              have := s _ _ (s1 _ _ hp)
              rw [← z, n] at this
              cases this
            obtain ⟨z1, z2, z3⟩ := prob_small c
            exact .lst (nep ((Gx.sameU hd).trans (Gx.sameU nl)) nt) upd_same (.cons (.str "refused" (by decide +kernel) (by decide +kernel)) (.cons (.lst (nep (Gx.sameU hd) nl) ((Gx.sameU nt) _ _ upd_same) (.cons (.str z z1 z2) (.cons (.int i z3) .nil))) .nil))
end
end My
namespace My
open PySem PySem.Spec PyProof.Rows L2
/-! ### data of tuples alone -/
mutual
def flatD : PyData → Bool
  | .tuple ds => flatL ds
  | .list _ => false
  | .dict _ => false
  | .none => true
  | .bool _ => true
  | .int _ => true
  | .str _ => true
def flatL : List PyData → Bool
  | [] => true
  | d :: r => flatD d && flatL r
end
theorem flatL_iff : ∀ {ds : List PyData}, flatL ds = true ↔ ∀ d ∈ ds, flatD d = true
  | [] => by simp [flatL]
  | d :: r => by simp [flatL, flatL_iff (ds := r)]
theorem term_flat {d : PyData} (h : termD d = true) : flatD d = true := by
  cases d with
  | str z => rfl
  | int i => rfl
  | _ => cases h
theorem lit_flat {d : PyData} (h : litD d = true) : flatD d = true := by
  obtain ⟨k, b, o, rfl, hk, _, ht, h1, h2⟩ := lit_inv h
  have fk : flatD k = true := by
    cases k with
    | str z => rfl
    | _ => cases hk
  cases c : rowW k with
  | true =>
    obtain ⟨es, rfl, e⟩ := h1 c
    rw [e] at ht
    have fb : flatD b = true := by
      simp only [litD, c, if_true, Bool.and_eq_true] at h
      cases b with
      | str z => rfl
      | _ => cases h.1
    have fo : flatL es = true := flatL_iff.mpr fun x hx => term_flat (ht x hx)
    simp [flatD, flatL, fk, fb, fo]
  | false =>
    rw [h2 c] at ht
    simp [flatD, flatL, fk, term_flat (ht b (by simp)), term_flat (ht o (by simp))]
theorem strs_flat (l : List Str) : flatD (.tuple (l.map .str)) = true := by
  show flatL (l.map .str) = true
  refine flatL_iff.mpr fun x hx => ?_
  obtain ⟨z, _, rfl⟩ := List.mem_map.mp hx
  rfl
/-- all but lists is as it was -/
def Kt (H H' : Hp) : Prop := ∀ b o, (∀ xs, o ≠ HO.lst xs) → H b = some o → H' b = some o
theorem Kt.of {H H' : Hp} (s : Same H H') : Kt H H' := fun b o _ e => s b o e
theorem Kt.trans {H H1 H2 : Hp} (a : Kt H H1) (b : Kt H1 H2) : Kt H H2 := fun c o n e => b c o n (a c o n e)
theorem Kt.at {H : Hp} {b : Addr} {xs ys : List V} (h : H b = some (.lst xs)) : Kt H (L2.upd H b (.lst ys)) := fun c o n e => by
  by_cases z : c = b
  · rw [z, h] at e
    cases e
    exact absurd rfl (n xs)
  · rw [upd_ne z]
    exact e
section
variable {p : Addr} {H H' : Hp}
mutual
theorem dat_kt (k : Kt H H') : ∀ {v : V} {d : PyData}, Gx.Dat p H v d → flatD d = true → Gx.Dat p H' v d
  | _, _, .non, _ => .non
  | _, _, .bl b, _ => .bl b
  | _, _, .int i h, _ => .int i h
  | _, _, .str z h a, _ => .str z h a
  | _, _, .lst _ _ _, e => by cases e
  | _, _, .tup n h r, e => .tup n (k _ _ (fun _ z => by cases z) h) (datL_kt k r e)
  | _, _, .nil _ _, e => by cases e
  | _, _, .one _ _ _ _, e => by cases e
theorem datL_kt (k : Kt H H') : ∀ {vs : List V} {ds : List PyData}, Gx.DatL p H vs ds → flatL ds = true → Gx.DatL p H' vs ds
  | _, _, .nil, _ => .nil
  | _, _, .cons h r, e => by
    simp only [flatL, Bool.and_eq_true] at e
    exact .cons (dat_kt k h e.1) (datL_kt k r e.2)
end
end
mutual
theorem flat_nd : ∀ {d : PyData}, flatD d = true → d.hasDict = false
  | .none, _ => by simp [PyData.hasDict]
  | .bool _, _ => by simp [PyData.hasDict]
  | .int _, _ => by simp [PyData.hasDict]
  | .str _, _ => by simp [PyData.hasDict]
  | .tuple ds, h => by simpa only [PyData.hasDict] using flatL_nd (ds := ds) h
  | .list _, h => by cases h
  | .dict _, h => by cases h
theorem flatL_nd : ∀ {ds : List PyData}, flatL ds = true → PyData.hasDictAll ds = false
  | [], _ => by simp [PyData.hasDictAll]
  | d :: r, h => by
    simp only [flatL, Bool.and_eq_true] at h
    simp [PyData.hasDictAll, flat_nd h.1, flatL_nd h.2]
end
theorem QryAt.kt {mg : Str → Option Value} {p : Addr} {H H' : Hp} {q : Addr} {ds : List PyData} {dv : PyData} (h : QryAt mg p H q ds dv) (k : Kt H H') (f1 : flatL ds = true) (f2 : flatD dv = true) : QryAt mg p H' q ds dv := by
  obtain ⟨dx, l, v, xs, h1, h2, h3, h4, h5⟩ := h
  exact ⟨dx, l, v, xs, k _ _ (fun _ z => by cases z) h1, k _ _ (fun _ z => by cases z) h2, h3, datL_kt k h4 f1, dat_kt k h5 f2⟩
/-- depth -/
theorem term_depth {d : PyData} (h : termD d = true) : d.depth = 0 := by
  cases d with
  | str z => simp [PyData.depth]
  | int i => simp [PyData.depth]
  | _ => cases h
theorem depth_all {n : Nat} : ∀ {ds : List PyData}, (∀ d ∈ ds, d.depth ≤ n) → PyData.depthAll ds ≤ n
  | [], _ => by simp [PyData.depthAll]
  | d :: r, h => by
    have := depth_all (ds := r) fun x hx => h x (List.mem_cons_of_mem _ hx)
    have := h d (by simp)
    simp only [PyData.depthAll]
    omega
theorem lit_depth {d : PyData} (h : litD d = true) : d.depth ≤ 2 := by
  obtain ⟨k, b, o, rfl, hk, _, ht, h1, h2⟩ := lit_inv h
  have fk : k.depth = 0 := by
    cases k with
    | str z => simp [PyData.depth]
    | _ => cases hk
  cases c : rowW k with
  | true =>
    obtain ⟨es, rfl, e⟩ := h1 c
    rw [e] at ht
    have fb : b.depth = 0 := by
      simp only [litD, c, if_true, Bool.and_eq_true] at h
      cases b with
      | str z => simp [PyData.depth]
      | _ => cases h.1
    have := depth_all (n := 0) fun x hx => by rw [term_depth (ht x hx)]; exact Nat.le_refl 0
    simp only [PyData.depth, PyData.depthAll, fk, fb]
    omega
  | false =>
    rw [h2 c] at ht
    simp [PyData.depth, PyData.depthAll, fk, term_depth (ht b (by simp)), term_depth (ht o (by simp))]
section
variable {P : Program} {w : World} {K : PySem.W.Frag} {mg : Str → Option Value} {base : Heap}
end
theorem none_of {H G : Hp} {q : Addr} (s : Same H G) (n : G q = none) : H q = none := by
  cases e : H q with
  | none => rfl
  | some o =>
    have := s _ _ e
    rw [n] at this
    cases this
theorem same_at {H X : Hp} {q : Addr} {o : HO} (s : Same H X) (n : H q = none) : Same H (L2.upd X q o) := fun b x e => by
  rw [upd_ne (ne_of_none e n)]
  exact s b x e
theorem ixN_0 {n : Nat} (h : 0 < n) : ixN n 0 = some 0 := by
  unfold ixN
  simp [h]
theorem var_flat {ds : List PyData} {dy : PyData} (h : nonD dy = true ∨ orderD dy (varsD ds) = true) : flatD (varD ds dy) = true ∧ (varD ds dy).depth ≤ 1 := by
  cases c : nonD dy with
  | true =>
    unfold varD
    rw [c, if_pos rfl]
    exact ⟨strs_flat _, by simp only [PyData.depth, strs_depth]; omega⟩
  | false =>
    unfold varD
    rw [c, if_neg (by simp)]
    rcases h with h | h
    · rw [c] at h
      cases h
    · cases dy with
      | tuple es =>
        have pm := order_perm (vars_nodup ds) h
        have all : ∀ x ∈ es, ∃ z, x = PyData.str z := fun x hx => by
          obtain ⟨z, _, e⟩ := List.mem_map.mp (pm.mem_iff.mp hx)
          exact ⟨z, e.symm⟩
        refine ⟨flatL_iff.mpr fun x hx => ?_, ?_⟩
        · obtain ⟨z, rfl⟩ := all x hx
          rfl
        · have := depth_all (n := 0) (ds := es) fun x hx => by
            obtain ⟨z, rfl⟩ := all x hx
            simp [PyData.depth]
          simp only [PyData.depth]
          omega
      | _ => cases h
section
variable {P : Program} {w : World} {K : PySem.W.Frag} {mg : Str → Option Value} {base : Heap}
def spStays : Sp := fun vs H Q _ => ∃ (p a : Addr) (xs : List V) (y : V) (ds : List PyData) (dy : PyData), vs = [.ref a, y] ∧ H a = some (.lst xs) ∧ a ≠ p ∧ Gx.DatL p H xs ds ∧ Gx.Dat p H y dy ∧ (∃ o, H p = some o) ∧ (∀ es, dy = .tuple es → es.length < 64) ∧ probD (.list ds) dy = none ∧
  ∀ H', Same H H' → Q (.bl true) H'
theorem p__law_stays (T : Mo K mg) : Gx.Pr P w K mg base CX0 9 "_law_stays" s__law_stays ["_law_parts", "_law_lane"] spStays := by
  refine T.d__law_stays.ok sc__law_stays (fun vs H Q E h => ?_) (fun f cdv A outer s H vs Q E hr h => ?_)
  · obtain ⟨p, a, xs, y, ds, dy, rfl, _⟩ := h
    rfl
  · obtain ⟨p, a, xs, y, ds, dy, rfl, ha, nap, r, ty, ⟨op, hp⟩, hy, c, qq⟩ := h
    have hu64 := hr.units
    refine ⟨_, (pss_cons (ps_set (i := 2) sc__law_stays.nd rfl (Or.inl rfl) (pe_callTy call_list_of (by rfl) T.b_list (by decide +kernel) (pa_cons (pv 0) pa_nil)))
      (pss_cons (ps_set (i := 3) sc__law_stays.nd rfl (Or.inl rfl) (Gx.pe_mkP (E := fun _ => E0) (p_Query___init__ T) T.mk_Query hr (by decide) (by rfl) (by simp) mb_Query_2 (fun _ pins H s e s' I z => passL pins _ H s e s' I z) (pa_cons (pv 2) (pa_cons (pv 1) pa_nil))))
      (pss_cons (ps_set (i := 4) sc__law_stays.nd rfl (Or.inl rfl) (pe_ifExp (pt_cmpR op_isN (pv 1) pe_non (nomark _)) (pe_callTy call_tuple_of (by rfl) T.b_tuple (by decide +kernel) (pa_cons (Gx.pe_pos (p__law_first_order T) hr (by decide) (by rfl) b__law_first_order pass0 (pa_cons (pv 0) pa_nil)) pa_nil)) (pv 1)))
      (pss_cons (ps_expr (pe_bm PySem.F.plainAttrs_list PySem.F.slot_list_append PySem.F.type_list_append mt_append (pv 2) (pa_cons (pe_tup (pa_cons pe_str (pa_cons pe_str (pa_cons (pe_tup (pa_cons pe_int pa_nil)) pa_nil)))) pa_nil)))
      (pss_cons (ps_asg (pe_tup (pa_cons pe_str (pa_cons pe_str (pa_cons pe_int pa_nil)))) (pg_sub (pv 2) pe_int set_list))
      (pss_cons (ps_expr (pe_bm0 PySem.F.plainAttrs_list PySem.F.slot_list_clear PySem.F.type_list_clear mt_clear (Gx.pe_met0 (p_Query_literals T) T.m_Query_literals hr (by decide) bm_Query_literals pass0 (pv 3))))
      (pss_cons (ps_expr (pe_bm PySem.F.plainAttrs_list PySem.F.slot_list_append PySem.F.type_list_append mt_append (Gx.pe_met0 (p_Query_literals T) T.m_Query_literals hr (by decide) bm_Query_literals pass0 (pv 3)) (pa_cons pe_non pa_nil)))
      (pss_one (ps_ret (pe_cmpR (op_eqD hu64) (pe_lst (pa_cons (Gx.pe_met0 (p_Query_literals T) T.m_Query_literals hr (by decide) bm_Query_literals pass0 (pv 3)) (pa_cons (Gx.pe_prq (p_Query_variables T) hr (by decide) (pv 3)) (pa_cons (pe_callB (Gx.call_lenM (p_Query___len__ T) T.m_Query___len__ bm_Query___len__ hr (by decide)) (by rfl) T.b_len (by decide +kernel) (pa_cons (pv 3) pa_nil)) pa_nil)))) (pe_lst (pa_cons (pv 0) (pa_cons (pv 4) (pa_cons (pe_callB call_len_seq (by rfl) T.b_len (by decide +kernel) (pa_cons (pv 0) pa_nil)) pa_nil)))) (nomark _))))))))))), ?_⟩
    obtain ⟨l8, good, od⟩ := prob_none (show itemsD (.list ds) = some ds from rfl) c
    have nep : ∀ {q : Addr} {G : Hp}, Same H G → G q = none → q ≠ p := fun s n z => by
      have := s _ _ hp
      rw [← z, n] at this
      cases this
    refine ⟨_, rfl, a, _, rfl, .inl (SqL.of ha), fun b nb => ?_⟩
    have s1 := Gx.sameU nb (o := .lst xs)
    refine ⟨_, rfl, _, rfl, rfl, rfl, mk_ok (dx := .list ds) (.lst (nep (Same.refl _) nb) upd_same (r.kp (Gx.Kp.of s1))) (ty.kp (Gx.Kp.of s1)) (s1 _ _ hp) hy _ _ (fun q H2 es s2 nq e _ hq => ?_) fun z i _ _ _ e => absurd e (by rw [c]; exact fun z => nomatch z)⟩
    obtain rfl : ds = es := Option.some.inj e
    have eo : decide (y = V.non) = nonD dy := by
      cases ty <;> rfl
    refine ⟨_, rfl, rfl, _, rfl, ?_⟩
    show if decide (y = V.non) = true then _ else _
    rw [eo]
    have s12 := s1.trans s2
    have vf := var_flat od
    cases cn : nonD dy with
    | true =>
      refine iteT ⟨_, rfl, p, a, xs, ds, rfl, .inl (s12 _ _ ha), r.kp (Gx.Kp.of s12), by omega, good, fun t H3 s3 nt hv => ⟨t, _, rfl, .inl ⟨SqL.of hv, fun t2 nt2 => ?_⟩⟩⟩
      have sX : Same H2 (L2.upd H3 t2 (.tup ((varsD ds).map V.str))) := s3.trans (Gx.sameU nt2)
      have tn : Gx.Dat p (L2.upd H3 t2 (.tup ((varsD ds).map V.str))) (.ref t2) (varD ds dy) := by
        unfold varD
        rw [cn, if_pos rfl]
        exact .tup (nep (s12.trans s3) nt2) upd_same (datL_strs _ (vars_ok good))
      revert sX tn
      generalize L2.upd H3 t2 (.tup ((varsD ds).map V.str)) = G0
      intro sX tn
      obtain ⟨nv, env⟩ : ∃ nv, nv = V.ref t2 := ⟨_, rfl⟩
      rw [← env] at tn ⊢
      · have hb0 := sX _ _ (s2 _ _ upd_same)
        have sm0 : Same H G0 := s12.trans sX
        have kt0 := Kt.of sX
        refine ⟨_, rfl, .inl ⟨rfl, _, SqL.of hb0⟩, by show 1 ≤ sizeLine; decide, fun u1 n1 => ⟨by show 3 ≤ sizeLine; decide, fun u2 n2 => ⟨b, xs, _, rfl, rfl, by (repeat (first | exact upd_same | assumption | refine Gx.sameU (by assumption) _ _ ?_ | refine (show Same _ _ by assumption) _ _ ?_)), ?_, ?_⟩⟩⟩
        · rw [r.len]
          exact Nat.lt_of_le_of_lt l8 (by decide)
        have g0 : Same G0 (L2.upd (L2.upd G0 u1 (.tup [.int 1])) u2 (.tup [.str "row", .str "zz", .ref u1])) := by (repeat (first | exact Same.refl _ | assumption | refine Same.trans ?_ (Gx.sameU (by assumption)) | refine Same.trans ?_ (show Same _ _ by assumption)))
        have hb5 := upd_same (H := L2.upd (L2.upd G0 u1 (.tup [.int 1])) u2 (.tup [.str "row", .str "zz", .ref u1])) (a := b) (o := .lst (xs ++ [.ref u2]))
        have k5 := (kt0.trans (Kt.of g0)).trans (Kt.at (ys := xs ++ [.ref u2]) (g0 _ _ hb0))
        have m5 := same_at (o := .lst (xs ++ [.ref u2])) (sm0.trans g0) nb
        have tn5 := dat_kt (k := (Kt.of g0).trans (Kt.at (ys := xs ++ [.ref u2]) (g0 _ _ hb0))) tn vf.1
        revert hb5 k5 m5 tn5
        generalize L2.upd (L2.upd (L2.upd G0 u1 (.tup [.int 1])) u2 (.tup [.str "row", .str "zz", .ref u1])) b (.lst (xs ++ [.ref u2])) = G5
        intro hb5 k5 m5 tn5
        refine ⟨by show 3 ≤ sizeLine; decide, fun u3 n3 => ?_⟩
        have g5 := Gx.sameU n3 (o := .tup [.str "=", .str "zz", .int 5])
        refine ⟨_, rfl, b, _, 0, 0, rfl, rfl, g5 _ _ hb5, ixN_0 (by simp), ?_⟩
        have k7 := (k5.trans (Kt.of g5)).trans (Kt.at (ys := (xs ++ [V.ref u2]).set 0 (V.ref u3)) (g5 _ _ hb5))
        have m7 := same_at (o := .lst ((xs ++ [V.ref u2]).set 0 (V.ref u3))) (m5.trans g5) nb
        have tn7 := dat_kt (k := (Kt.of g5).trans (Kt.at (ys := (xs ++ [V.ref u2]).set 0 (V.ref u3)) (g5 _ _ hb5))) tn5 vf.1
        revert k7 m7 tn7
        generalize L2.upd (L2.upd G5 u3 (.tup [.str "=", .str "zz", .int 5])) b (.lst ((xs ++ [V.ref u2]).set 0 (V.ref u3))) = G7
        intro k7 m7 tn7
        have fds : flatL ds = true := flatL_iff.mpr fun x hx => lit_flat (good x hx)
        have hq7 := hq.kt k7 fds vf.1
        obtain ⟨f7, l7, v7, x7, i7, _⟩ := id hq7
        refine ⟨_, rfl, q, f7, _, rfl, i7, rfl, p, q, ds, _, rfl, hq7, fun l1 ys1 dl1 nl1 => ⟨.inl ⟨rfl, _, SqL.of upd_same⟩, l1, ys1, rfl, rfl, upd_same, ?_⟩⟩
        have g7 := Gx.sameU nl1 (o := .lst ys1)
        have k9 := (k7.trans (Kt.of g7)).trans (Kt.at (ys := []) upd_same)
        have m9 := same_at (o := .lst []) (m7.trans g7) (none_of m7 nl1)
        have tn9 := dat_kt (k := (Kt.of g7).trans (Kt.at (ys := []) upd_same)) tn7 vf.1
        revert k9 m9 tn9
        generalize L2.upd (L2.upd G7 l1 (.lst ys1)) l1 (.lst []) = G9
        intro k9 m9 tn9
        have hq9 := hq.kt k9 fds vf.1
        obtain ⟨f9, l9, v9, x9, i9, _⟩ := id hq9
        refine ⟨_, rfl, q, f9, _, rfl, i9, rfl, p, q, ds, _, rfl, hq9, fun l2 ys2 dl2 nl2 => ⟨.inl ⟨rfl, _, SqL.of upd_same⟩, l2, ys2, _, rfl, rfl, upd_same, ?_, ?_⟩⟩
        · rw [dl2.len]
          exact Nat.lt_of_le_of_lt l8 (by decide)
        have g9 := Gx.sameU nl2 (o := .lst ys2)
        have kA := (k9.trans (Kt.of g9)).trans (Kt.at (ys := ys2 ++ [.non]) upd_same)
        have mA := same_at (o := .lst (ys2 ++ [.non])) (m9.trans g9) (none_of m9 nl2)
        have tnA := dat_kt (k := (Kt.of g9).trans (Kt.at (ys := ys2 ++ [.non]) upd_same)) tn9 vf.1
        revert kA mA tnA
        generalize L2.upd (L2.upd G9 l2 (.lst ys2)) l2 (.lst (ys2 ++ [.non])) = GA
        intro kA mA tnA
        have hqA := hq.kt kA fds vf.1
        obtain ⟨fA, lA, vA, xA, iA, _⟩ := id hqA
        refine ⟨_, rfl, q, fA, _, rfl, iA, rfl, p, q, ds, _, rfl, hqA, fun l3 ys3 dl3 nl3 => ?_⟩
        have gA := Gx.sameU nl3 (o := .lst ys3)
        have hqB := hqA.kp nq (Gx.Kp.of gA)
        refine ⟨_, rfl, q, fA, _, rfl, gA _ _ iA, p, q, ds, _, rfl, hqB, fun v tv => ⟨_, rfl, q, fA, _, rfl, gA _ _ iA, p, q, ds, _, rfl, hqB, ds.length, rfl, Nat.le_trans l8 (by decide), by show 3 ≤ sizeLine; decide, fun e1 ne1 => ?_⟩⟩
        have gB := Gx.sameU ne1 (o := .lst [.ref l3, v, .int (ds.length : Nat)])
        have mB := (mA.trans gA).trans gB
        refine ⟨_, rfl, _, rfl, _, rfl, a, xs, rfl, .inl (SqL.of (mB _ _ ha)), by show 3 ≤ sizeLine; decide, fun e2 ne2 => ?_⟩
        have gC := Gx.sameU ne2 (o := .lst [.ref a, nv, .int (xs.length : Nat)])
        have nds := flatL_nd fds
        have nvd := flat_nd vf.1
        have can : PyData.canLay0 (.list [.list ds, varD ds dy, .int (ds.length : Nat)]) = true := by
          simp only [PyData.canLay0, PyData.canLayAll0, datL_can dl3 nds, dat_can tv nvd, Bool.and_self]
        have sh : SeqAt.shaped (.list [.list ds, varD ds dy, .int (ds.length : Nat)]) = true := by
          have d1 := depth_all (n := 2) (ds := ds) fun x hx => lit_depth (good x hx)
          have d2 := vf.2
          unfold SeqAt.shaped
          rw [can, Bool.true_and, decide_eq_true_eq]
          simp only [PyData.depth, PyData.depthAll]
          omega
        refine ⟨.list [.list ds, varD ds dy, .int (ds.length : Nat)], .list [.list ds, varD ds dy, .int (ds.length : Nat)], ?_, ?_, sh, sh, ?_⟩
        · exact .lst (SqL.of (gC _ _ upd_same)) (.cons (.lst (SqL.of (gC _ _ (gB _ _ upd_same))) (((dl3.kp (Gx.Kp.of gA)).kp (Gx.Kp.of (gB.trans gC))).dp nds)) (.cons ((tv.kp (Gx.Kp.of (gB.trans gC))).dp nvd) (.cons (.int _) .nil)))
        · have tnE := tnA.kp (Gx.Kp.of ((gA.trans gB).trans gC))
          refine .lst (SqL.of upd_same) (.cons (.lst (SqL.of ((mB.trans gC) _ _ ha)) ((r.kp (Gx.Kp.of (mB.trans gC))).dp nds)) (.cons (tnE.dp nvd) (.cons ?_ .nil)))
          rw [r.len]
          exact .int _
        · rw [SeqAt.eqv_refl _ can]
          exact qq _ (mB.trans gC)
    | false =>
      refine iteF ⟨_, rfl, ?_⟩
      have sX : Same H2 H2 := Same.refl _
      have tn : Gx.Dat p H2 y (varD ds dy) := by
        unfold varD
        rw [cn, if_neg (by simp)]
        exact ty.kp (Gx.Kp.of s12)
      obtain ⟨G0, rfl⟩ : ∃ G0, G0 = H2 := ⟨_, rfl⟩
      obtain ⟨nv, rfl⟩ : ∃ nv, nv = y := ⟨_, rfl⟩
      · have hb0 := sX _ _ (s2 _ _ upd_same)
        have sm0 : Same H G0 := s12.trans sX
        have kt0 := Kt.of sX
        refine ⟨_, rfl, .inl ⟨rfl, _, SqL.of hb0⟩, by show 1 ≤ sizeLine; decide, fun u1 n1 => ⟨by show 3 ≤ sizeLine; decide, fun u2 n2 => ⟨b, xs, _, rfl, rfl, by (repeat (first | exact upd_same | assumption | refine Gx.sameU (by assumption) _ _ ?_ | refine (show Same _ _ by assumption) _ _ ?_)), ?_, ?_⟩⟩⟩
        · rw [r.len]
          exact Nat.lt_of_le_of_lt l8 (by decide)
        have g0 : Same G0 (L2.upd (L2.upd G0 u1 (.tup [.int 1])) u2 (.tup [.str "row", .str "zz", .ref u1])) := by (repeat (first | exact Same.refl _ | assumption | refine Same.trans ?_ (Gx.sameU (by assumption)) | refine Same.trans ?_ (show Same _ _ by assumption)))
        have hb5 := upd_same (H := L2.upd (L2.upd G0 u1 (.tup [.int 1])) u2 (.tup [.str "row", .str "zz", .ref u1])) (a := b) (o := .lst (xs ++ [.ref u2]))
        have k5 := (kt0.trans (Kt.of g0)).trans (Kt.at (ys := xs ++ [.ref u2]) (g0 _ _ hb0))
        have m5 := same_at (o := .lst (xs ++ [.ref u2])) (sm0.trans g0) nb
        have tn5 := dat_kt (k := (Kt.of g0).trans (Kt.at (ys := xs ++ [.ref u2]) (g0 _ _ hb0))) tn vf.1
        revert hb5 k5 m5 tn5
        generalize L2.upd (L2.upd (L2.upd G0 u1 (.tup [.int 1])) u2 (.tup [.str "row", .str "zz", .ref u1])) b (.lst (xs ++ [.ref u2])) = G5
        intro hb5 k5 m5 tn5
        refine ⟨by show 3 ≤ sizeLine; decide, fun u3 n3 => ?_⟩
        have g5 := Gx.sameU n3 (o := .tup [.str "=", .str "zz", .int 5])
        refine ⟨_, rfl, b, _, 0, 0, rfl, rfl, g5 _ _ hb5, ixN_0 (by simp), ?_⟩
        have k7 := (k5.trans (Kt.of g5)).trans (Kt.at (ys := (xs ++ [V.ref u2]).set 0 (V.ref u3)) (g5 _ _ hb5))
        have m7 := same_at (o := .lst ((xs ++ [V.ref u2]).set 0 (V.ref u3))) (m5.trans g5) nb
        have tn7 := dat_kt (k := (Kt.of g5).trans (Kt.at (ys := (xs ++ [V.ref u2]).set 0 (V.ref u3)) (g5 _ _ hb5))) tn5 vf.1
        revert k7 m7 tn7
        generalize L2.upd (L2.upd G5 u3 (.tup [.str "=", .str "zz", .int 5])) b (.lst ((xs ++ [V.ref u2]).set 0 (V.ref u3))) = G7
        intro k7 m7 tn7
        have fds : flatL ds = true := flatL_iff.mpr fun x hx => lit_flat (good x hx)
        have hq7 := hq.kt k7 fds vf.1
        obtain ⟨f7, l7, v7, x7, i7, _⟩ := id hq7
        refine ⟨_, rfl, q, f7, _, rfl, i7, rfl, p, q, ds, _, rfl, hq7, fun l1 ys1 dl1 nl1 => ⟨.inl ⟨rfl, _, SqL.of upd_same⟩, l1, ys1, rfl, rfl, upd_same, ?_⟩⟩
        have g7 := Gx.sameU nl1 (o := .lst ys1)
        have k9 := (k7.trans (Kt.of g7)).trans (Kt.at (ys := []) upd_same)
        have m9 := same_at (o := .lst []) (m7.trans g7) (none_of m7 nl1)
        have tn9 := dat_kt (k := (Kt.of g7).trans (Kt.at (ys := []) upd_same)) tn7 vf.1
        revert k9 m9 tn9
        generalize L2.upd (L2.upd G7 l1 (.lst ys1)) l1 (.lst []) = G9
        intro k9 m9 tn9
        have hq9 := hq.kt k9 fds vf.1
        obtain ⟨f9, l9, v9, x9, i9, _⟩ := id hq9
        refine ⟨_, rfl, q, f9, _, rfl, i9, rfl, p, q, ds, _, rfl, hq9, fun l2 ys2 dl2 nl2 => ⟨.inl ⟨rfl, _, SqL.of upd_same⟩, l2, ys2, _, rfl, rfl, upd_same, ?_, ?_⟩⟩
        · rw [dl2.len]
          exact Nat.lt_of_le_of_lt l8 (by decide)
        have g9 := Gx.sameU nl2 (o := .lst ys2)
        have kA := (k9.trans (Kt.of g9)).trans (Kt.at (ys := ys2 ++ [.non]) upd_same)
        have mA := same_at (o := .lst (ys2 ++ [.non])) (m9.trans g9) (none_of m9 nl2)
        have tnA := dat_kt (k := (Kt.of g9).trans (Kt.at (ys := ys2 ++ [.non]) upd_same)) tn9 vf.1
        revert kA mA tnA
        generalize L2.upd (L2.upd G9 l2 (.lst ys2)) l2 (.lst (ys2 ++ [.non])) = GA
        intro kA mA tnA
        have hqA := hq.kt kA fds vf.1
        obtain ⟨fA, lA, vA, xA, iA, _⟩ := id hqA
        refine ⟨_, rfl, q, fA, _, rfl, iA, rfl, p, q, ds, _, rfl, hqA, fun l3 ys3 dl3 nl3 => ?_⟩
        have gA := Gx.sameU nl3 (o := .lst ys3)
        have hqB := hqA.kp nq (Gx.Kp.of gA)
        refine ⟨_, rfl, q, fA, _, rfl, gA _ _ iA, p, q, ds, _, rfl, hqB, fun v tv => ⟨_, rfl, q, fA, _, rfl, gA _ _ iA, p, q, ds, _, rfl, hqB, ds.length, rfl, Nat.le_trans l8 (by decide), by show 3 ≤ sizeLine; decide, fun e1 ne1 => ?_⟩⟩
        have gB := Gx.sameU ne1 (o := .lst [.ref l3, v, .int (ds.length : Nat)])
        have mB := (mA.trans gA).trans gB
        refine ⟨_, rfl, _, rfl, _, rfl, a, xs, rfl, .inl (SqL.of (mB _ _ ha)), by show 3 ≤ sizeLine; decide, fun e2 ne2 => ?_⟩
        have gC := Gx.sameU ne2 (o := .lst [.ref a, nv, .int (xs.length : Nat)])
        have nds := flatL_nd fds
        have nvd := flat_nd vf.1
        have can : PyData.canLay0 (.list [.list ds, varD ds dy, .int (ds.length : Nat)]) = true := by
          simp only [PyData.canLay0, PyData.canLayAll0, datL_can dl3 nds, dat_can tv nvd, Bool.and_self]
        have sh : SeqAt.shaped (.list [.list ds, varD ds dy, .int (ds.length : Nat)]) = true := by
          have d1 := depth_all (n := 2) (ds := ds) fun x hx => lit_depth (good x hx)
          have d2 := vf.2
          unfold SeqAt.shaped
          rw [can, Bool.true_and, decide_eq_true_eq]
          simp only [PyData.depth, PyData.depthAll]
          omega
        refine ⟨.list [.list ds, varD ds dy, .int (ds.length : Nat)], .list [.list ds, varD ds dy, .int (ds.length : Nat)], ?_, ?_, sh, sh, ?_⟩
        · exact .lst (SqL.of (gC _ _ upd_same)) (.cons (.lst (SqL.of (gC _ _ (gB _ _ upd_same))) (((dl3.kp (Gx.Kp.of gA)).kp (Gx.Kp.of (gB.trans gC))).dp nds)) (.cons ((tv.kp (Gx.Kp.of (gB.trans gC))).dp nvd) (.cons (.int _) .nil)))
        · have tnE := tnA.kp (Gx.Kp.of ((gA.trans gB).trans gC))
          refine .lst (SqL.of upd_same) (.cons (.lst (SqL.of ((mB.trans gC) _ _ ha)) ((r.kp (Gx.Kp.of (mB.trans gC))).dp nds)) (.cons (tnE.dp nvd) (.cons ?_ .nil)))
          rw [r.len]
          exact .int _
        · rw [SeqAt.eqv_refl _ can]
          exact qq _ (mB.trans gC)
end
end My
namespace My
open PySem PySem.Spec PyProof.Rows L2
/-- what repr needs of data -/
structure Shw (n k : Nat) (d : PyData) : Prop where
  sh : d.showable = true
  ls : d.leavesShort 200 = true
  wt : d.weight ≤ n
  dp : d.depth ≤ k
theorem Shw.ok {n k : Nat} {d : PyData} (g : Shw n k d) (h : n ≤ 80000) (h2 : k ≤ 30) : d.showable = true ∧ d.depth ≤ 30 ∧ d.shown.length ≤ sizeLine := by
  refine ⟨g.sh, Nat.le_trans g.dp h2, ?_⟩
  have h1 := PyData.shown_le 200 (by decide) d g.ls
  have h3 := g.wt
  exact Nat.le_trans h1 (Nat.le_trans (show _ ≤ 202 * 80000 + 200 by have : (200 + 2) * d.weight ≤ 202 * 80000 := Nat.mul_le_mul_left _ (Nat.le_trans h3 h); omega) (by decide))
theorem Shw.two {n k n2 k2 : Nat} {d e : PyData} (a : Shw n k d) (b : Shw n2 k2 e) : Shw (n + n2 + 2) (max k k2 + 1) (.list [d, e]) where
  sh := by simp [PyData.showable, PyData.showableAll, a.sh, b.sh]
  ls := by simp [PyData.leavesShort, PyData.leavesShortAll, a.ls, b.ls]
  wt := by
    have := a.wt
    have := b.wt
    simp only [PyData.weight, PyData.weightAll]
    omega
  dp := by
    have := a.dp
    have := b.dp
    simp only [PyData.depth, PyData.depthAll]
    omega
/-- a thing as this law passes it -/
def Thing (p : Addr) (H : Hp) (x : V) : Prop := ∃ d, Gx.Dat p H x d ∧ Shw 40000 10 d ∧ ∀ ds, itemsD d = some ds → ∀ e ∈ ds, okIt e
theorem Thing.kp {p : Addr} {H H' : Hp} {v : V} (h : Thing p H v) (q : Gx.Kp p H H') : Thing p H' v := let ⟨d, a, b⟩ := h; ⟨d, a.kp q, b⟩
theorem lane_shw {p : Addr} {H : Hp} {v : V} {d : PyData} (t : Gx.Dat p H v d) (w : d.weight ≤ 1300) (k : d.depth ≤ 6) (n : d.hasDict = false ∨ d = .dict []) : Shw 1300 6 d := by
  rcases n with n | rfl
  · obtain ⟨a, b⟩ := dat_sh t n
    exact ⟨a, b, w, k⟩
  · exact ⟨by decide, by decide, w, k⟩
theorem prob_vars {dx dy : PyData} {ds : List PyData} (e : itemsD dx = some ds) (h : probD dx dy = none) : (varsD ds).length ≤ 5 := by
  simp only [probD, e] at h
  by_cases c : ds.length = 0 ∨ 8 < ds.length
  · rw [if_pos c] at h
    cases h
  · rw [if_neg c] at h
    cases b : badD ds with
    | some i =>
      rw [b] at h
      cases h
    | none =>
      rw [b] at h
      by_cases c5 : 5 < (varsD ds).length
      · simp only [if_pos c5] at h
        cases h
      · omega
theorem strs_shw : ∀ {l : List Str}, (∀ z ∈ l, okZ z) → PyData.showableAll (l.map .str) = true ∧ PyData.leavesShortAll 200 (l.map .str) = true ∧ PyData.weightAll (l.map .str) ≤ 101 * l.length
  | [], _ => ⟨by simp [PyData.showableAll], by simp [PyData.leavesShortAll], by simp [PyData.weightAll]⟩
  | z :: r, h => by
    obtain ⟨a, b, c⟩ := strs_shw (l := r) fun x hx => h x (List.mem_cons_of_mem _ hx)
    have hz := h z (by simp)
    have hl : z.cps.size ≤ 100 := hz.1
    refine ⟨by simp [PyData.showableAll, PyData.showable, a], ?_, ?_⟩
    · simp only [List.map_cons, PyData.leavesShortAll, b, Bool.and_true, PyData.leavesShort, List.all_eq_true, decide_eq_true_eq]
      exact fun c hc => Nat.lt_trans (hz.2 c hc) (by decide)
    · simp only [List.map_cons, PyData.weightAll, PyData.weight, List.length_cons]
      omega
theorem wt_int100 {i : Int} (h : i.natAbs < 10 ^ 100) : PyData.weight (.int i) ≤ 400 := by
  have e : i.natAbs < 2 ^ 399 := Nat.lt_of_lt_of_le h (by decide +kernel)
  have := PySem.Flt.log2_lt_of (k := 399) (by decide) e
  simp only [PyData.weight]
  split <;> omega
theorem var_shw {dx dy : PyData} {ds : List PyData} (sy : Shw 1300 6 dy) (c : probD dx dy = none) (e : itemsD dx = some ds) : Shw 1300 6 (varD ds dy) := by
  unfold varD
  cases cn : nonD dy with
  | true =>
    rw [if_pos rfl]
    obtain ⟨a, b, w⟩ := strs_shw (vars_ok (prob_none e c).2.1)
    have := prob_vars e c
    exact ⟨by simpa only [PyData.showable] using a, by simpa only [PyData.leavesShort] using b, by simp only [PyData.weight]; omega, by simp only [PyData.depth, strs_depth]; omega⟩
  | false =>
    rw [if_neg (by simp)]
    exact sy
/-- what is told can be shown -/
theorem told_shw {dx dy : PyData} (sx : Shw 40000 10 dx) (sy : Shw 1300 6 dy) : Shw 42000 12 (toldD dx dy) := by
  cases c : probD dx dy with
  | some zi =>
    obtain ⟨z, i⟩ := zi
    obtain ⟨z1, z2, z3⟩ := prob_small c
    have z1' : z.cps.size ≤ 100 := z1
    have wi := wt_int100 z3
    have w0 : PyData.weight (.str "refused") = 7 := by decide +kernel
    have zl : PyData.leavesShort 200 (.str z) = true := by
      simp only [PyData.leavesShort, List.all_eq_true, decide_eq_true_eq]
      exact fun c hc => Nat.lt_trans (z2 c hc) (by decide)
    have il : PyData.leavesShort 200 (.int i) = true := by simp only [PyData.leavesShort, decide_eq_true_eq]; exact small_text z3
    have ish : PyData.showable (.int i) = true := by simpa [PyData.showable] using small_log z3
    have wz : PyData.weight (.str z) ≤ 100 := by simpa only [PyData.weight] using z1'
    have rl : PyData.leavesShort 200 (.str "refused") = true := by decide +kernel
    rw [told_some c]
    refine ⟨?_, ?_, ?_, ?_⟩
    · simp only [PyData.showable, PyData.showableAll, Bool.true_and, Bool.and_true]
      simpa only [PyData.showable] using ish
    · simp only [PyData.leavesShort, PyData.leavesShortAll] at rl zl il ⊢
      simp [rl, zl, il]
    · simp only [PyData.weight, PyData.weightAll] at w0 wz wi ⊢
      omega
    · simp [PyData.depth, PyData.depthAll]
  | none =>
    cases e : itemsD dx with
    | none =>
      simp [probD, e] at c
    | some ds =>
      rw [told_none c e]
      have l8 := (prob_none e c).1
      obtain ⟨a1, b1, c1, d1⟩ := var_shw sy c e
      have items : PyData.showableAll ds = true ∧ PyData.leavesShortAll 200 ds = true ∧ PyData.weightAll ds ≤ 40000 ∧ PyData.depthAll ds + 1 ≤ 10 := by
        obtain ⟨a, b, w, k⟩ := sx
        cases dx with
        | list es =>
          cases e
          exact ⟨by simpa only [PyData.showable] using a, by simpa only [PyData.leavesShort] using b, by simpa only [PyData.weight] using w, by simpa only [PyData.depth] using k⟩
        | tuple es =>
          cases e
          exact ⟨by simpa only [PyData.showable] using a, by simpa only [PyData.leavesShort] using b, by simpa only [PyData.weight] using w, by simpa only [PyData.depth] using k⟩
        | _ => cases e
      obtain ⟨a2, b2, c2, d2⟩ := items
      have hn : ((ds.length : Nat) : Int).natAbs < 2 ^ 11 := by omega
      have hn2 : ((ds.length : Nat) : Int).natAbs < 10 ^ 100 := Nat.lt_trans hn (by decide +kernel)
      have il : PyData.leavesShort 200 (.int (ds.length : Nat)) = true := by simp only [PyData.leavesShort, decide_eq_true_eq]; exact small_text hn2
      have ish : PyData.showable (.int (ds.length : Nat)) = true := by simpa [PyData.showable] using small_log hn2
      have iw := wt_int hn
      have w0 : PyData.weight (.str "made") = 4 := by decide +kernel
      have rl : PyData.leavesShort 200 (.str "made") = true := by decide +kernel
      refine ⟨?_, ?_, ?_, ?_⟩
      · simp only [PyData.showable, PyData.showableAll, a1, a2, Bool.true_and, Bool.and_true]
        simpa only [PyData.showable] using ish
      · simp only [PyData.leavesShort, PyData.leavesShortAll] at rl il ⊢
        simp [rl, il, b1, b2]
      · simp only [PyData.weight, PyData.weightAll] at w0 iw c1 c2 ⊢
        omega
      · simp only [PyData.depth, PyData.depthAll]
        omega
end My
namespace My
open PySem PySem.Spec PyProof.Rows L2
theorem iteF' {c : Bool} {A B : Prop} (h : c = false) (q : B) : if c = true then A else B := by
  rw [h, if_neg (by simp)]
  exact q
section
variable {P : Program} {w : World} {K : PySem.W.Frag} {mg : Str → Option Value} {base : Heap}
def spRight : Sp := fun vs H Q _ => ∃ (p : Addr) (x y : V), vs = [.ref p, x, y] ∧ Pot p H ∧ Thing p H x ∧ Lane p H y ∧ ∀ H', Pot p H' → Gx.Kp p H H' → Q (.bl true) H'
theorem p__law_right (T : Mo K mg) (hsys : Gx.SysD base) : Gx.PrG P w K mg base CX0 10 "_law_right" s__law_right ["_law_pot_here", "_law_thing", "_law_lane"] spRight := by
  refine T.d__law_right.okG sc__law_right (fun vs H Q E h => ?_) (fun f cdv A outer s H vs Q E hgd hr h => ?_)
  · obtain ⟨p, x, y, rfl, _⟩ := h
    rfl
  · obtain ⟨p, x, y, rfl, hp, ⟨dx, tx, sx, ix⟩, ⟨dy, ty, wy, ky, ny, ly⟩, qq⟩ := h
    have hu64 := hr.units
    refine ⟨_, (pss_cons (ps_par (i := 3) (j := 4) rfl sc__law_right.nd rfl rfl (by decide) rfl rfl (pa_cons (pe_callB (Gx.call_reprM (K := K) rfl hsys hgd hu64) (by rfl) T.b_repr (show bootBuiltins "repr" = some (.builtin "repr") by decide +kernel) (pa_cons (pe_lst (pa_cons (pv 1) (pa_cons (pv 2) pa_nil))) pa_nil)) (pa_cons (Gx.pe_pos (p__law_problem T) hr (by decide) (by rfl) b__law_problem pass0 (pa_cons (pv 1) (pa_cons (pv 2) pa_nil))) pa_nil)) (by rfl))
      (pss_cons (ps_set (i := 5) sc__law_right.nd rfl (Or.inl rfl) (pe_lst (pa_cons pe_str (pa_cons (pv 4) pa_nil))))
      (pss_cons (ps_if (pt_cmpR op_isN (pv 4) pe_non (nomark _)) (pss_cons (ps_set (i := 6) sc__law_right.nd rfl (Or.inl rfl) (pe_ifExp (pt_cmpR op_isN (pv 2) pe_non (nomark _)) (pe_callTy call_tuple_of (by rfl) T.b_tuple (by decide +kernel) (pa_cons (Gx.pe_pos (p__law_first_order T) hr (by decide) (by rfl) b__law_first_order pass0 (pa_cons (pv 1) pa_nil)) pa_nil)) (pv 2)))
      (pss_one (ps_set (i := 5) sc__law_right.nd rfl (Or.inl rfl) (pe_lst (pa_cons pe_str (pa_cons (pe_callTy call_list_of (by rfl) T.b_list (by decide +kernel) (pa_cons (pv 1) pa_nil)) (pa_cons (pv 6) (pa_cons (pe_callB call_len_seq (by rfl) T.b_len (by decide +kernel) (pa_cons (pv 1) pa_nil)) pa_nil)))))))) pss_nil)
      (pss_cons (ps_if (PW.pt (pw_or (pt_cmpR op_ne (pe_callB (Gx.call_reprM (K := K) rfl hsys hgd hu64) (by rfl) T.b_repr (show bootBuiltins "repr" = some (.builtin "repr") by decide +kernel) (pa_cons (Gx.pe_pos (p__law_told T) hr (by decide) (by rfl) b__law_told pass0 (pa_cons (pv 1) (pa_cons (pv 2) (pa_cons (Gx.pe_pos (p__law_take T) hr (by decide) (by rfl) b__law_take pass0 (pa_cons (pv 0) (pa_cons pe_int pa_nil))) pa_nil)))) pa_nil)) (pe_callB (Gx.call_reprM (K := K) rfl hsys hgd hu64) (by rfl) T.b_repr (show bootBuiltins "repr" = some (.builtin "repr") by decide +kernel) (pa_cons (pv 5) pa_nil)) (nomark _)) (pw_or1 (pt_cmpR op_ne (pe_callB (Gx.call_reprM (K := K) rfl hsys hgd hu64) (by rfl) T.b_repr (show bootBuiltins "repr" = some (.builtin "repr") by decide +kernel) (pa_cons (pe_lst (pa_cons (pv 1) (pa_cons (pv 2) pa_nil))) pa_nil)) (pv 3) (nomark _))))) (pss_one (ps_ret pe_bl)) pss_nil)
      (pss_one (ps_ret (pe_or (pe_cmpR op_notN (pv 4) pe_non (nomark _)) (pe_one (Gx.pe_pos (p__law_stays T) hr (by decide) (by rfl) b__law_stays pass0 (pa_cons (pe_callTy call_list_of (by rfl) T.b_list (by decide +kernel) (pa_cons (pv 1) pa_nil)) (pa_cons (pv 2) pa_nil))))))))))), ?_⟩
    have sy := lane_shw ty wy ky ny
    have s2 := (sx.two sy).ok (by decide) (by decide)
    have st := (told_shw sx sy).ok (by decide) (by decide)
    refine ⟨_, rfl, _, rfl, by show 2 ≤ sizeLine; decide, fun r1 nr1 => ?_⟩
    have g1 := Gx.sameU nr1 (o := .lst [x, y])
    refine ⟨r1, _, rfl, .lst (SqL.of upd_same) (.cons (tx.kp (Gx.Kp.of g1)).shows (.cons (ty.kp (Gx.Kp.of g1)).shows .nil)), s2.1, s2.2.1, s2.2.2, ?_⟩
    refine ⟨_, rfl, _, rfl, p, x, y, dx, dy, rfl, tx.kp (Gx.Kp.of g1), ty.kp (Gx.Kp.of g1), ix, ?_, fun v H1 g2 hv => ?_⟩
    · intro es e
      subst e
      have nd : (PyData.tuple es).hasDict = false := ny.elim id fun z => by cases z
      refine ⟨nd, ?_⟩
      unfold SeqAt.shaped
      rw [dat_can ty nd, Bool.true_and, decide_eq_true_eq]
      omega
    have hr1 : ∀ {G : Hp}, Same H1 G → Same H G := fun s => (g1.trans g2).trans s
    refine ⟨_, _, rfl, _, rfl, by show 2 ≤ sizeLine; decide, fun u nu => ?_⟩
    have gu := Gx.sameU nu (o := .lst [.str "refused", v])
    have hp1 := hp.same (g1.trans g2)
    refine ⟨_, rfl, rfl, _, rfl, ?_⟩
    show if decide (v = V.non) = true then _ else _
    cases c : probD dx dy with
    | some zi =>
      obtain ⟨z, i⟩ := zi
      rw [c] at hv
      obtain ⟨t, rfl, ht⟩ := hv
      obtain ⟨z1, z2, z3⟩ := prob_small c
      have ntp : t ≠ p := fun e => by
        obtain ⟨_, _, e2, _⟩ := hp1
        rw [← e, ht] at e2
        cases e2
      refine iteF ?_
      have g0 := hr1 gu
      have dd : Gx.Dat p (L2.upd H1 u (.lst [.str "refused", .ref t])) (.ref u) (toldD dx dy) := by
        rw [told_some c]
        exact .lst (hp1.ne nu) (upd_same (H := H1)) (.cons (.str "refused" (by decide +kernel) (by decide +kernel)) (.cons (.lst ntp (gu _ _ ht) (.cons (.str z z1 z2) (.cons (.int i z3) .nil))) .nil))
      have hpG := hp.same g0
      have txG := tx.kp (Gx.Kp.of g0)
      have tyG := ty.kp (Gx.Kp.of g0)
      refine ⟨_, rfl, _, rfl, _, rfl, p, _, rfl, hpG, by decide, by decide, fun r H3 r0 r1 hp3 k3 => ?_⟩
      refine ⟨p, x, y, dx, dy, r, rfl, txG.kp k3, tyG.kp k3, let ⟨_, _, e, _⟩ := hp3; ⟨_, e⟩, ly, fun t4 H4 g4 dt => ⟨t4, _, rfl, dt.shows, st.1, st.2.1, st.2.2, ?_⟩⟩
      have k4 := k3.trans (Gx.Kp.of g4)
      refine ⟨_, rfl, u, _, rfl, (dd.kp k4).shows, st.1, st.2.1, st.2.2, rfl, _, rfl, ?_⟩
      refine iteF' (by simp) ⟨_, rfl, _, rfl, by show 2 ≤ sizeLine; decide, fun r2 nr2 => ?_⟩
      have g5 := Gx.sameU nr2 (o := .lst [x, y])
      have k5 := k4.trans (Gx.Kp.of g5)
      have t5 := txG.kp k5
      have y5 := tyG.kp k5
      have hp5 := (hp3.same g4).same g5
      have kk5 := (Gx.Kp.of (p := p) g0).trans k5
      refine ⟨r2, _, rfl, .lst (SqL.of upd_same) (.cons t5.shows (.cons y5.shows .nil)), s2.1, s2.2.1, s2.2.2, _, rfl, rfl, _, rfl, iteF' (by simp) ?_⟩
      refine ⟨_, rfl, rfl, _, rfl, ?_⟩
      exact iteT (qq _ hp5 kk5)
    | none =>
      rw [c] at hv
      cases (show v = .non from hv)
      refine iteT ?_
      rcases dat_items tx with ⟨e1, _⟩ | ⟨a, xs, ds, rfl, hs, rr, e1, _⟩
      · simp [probD, e1] at c
      obtain ⟨l8, good, od⟩ := prob_none e1 c
      have cl : probD (.list ds) dy = none := by
        rw [← c]
        unfold probD
        rw [e1]
        rfl
      have eo : decide (y = V.non) = nonD dy := by
        cases ty <;> rfl
      have hsG : ∀ {G : Hp}, Same H G → SqL K G a xs ∨ SqT K G a xs := fun s => hs.elim (fun e => .inl (SqL.of (s _ _ e))) fun e => .inr (SqT.of (s _ _ e))
      have gu1 := hr1 gu
      refine ⟨_, rfl, rfl, _, rfl, ?_⟩
      show if decide (y = V.non) = true then _ else _
      rw [eo]
      cases cn : nonD dy with
      | true =>
        refine iteT ⟨_, rfl, p, a, xs, ds, rfl, hs.elim (fun e => .inl (gu1 _ _ e)) (fun e => .inr (gu1 _ _ e)), rr.kp (Gx.Kp.of gu1), by omega, good, fun t H3 g3 nt hv => ⟨t, _, rfl, .inl ⟨SqL.of hv, fun t2 nt2 => ?_⟩⟩⟩
        have gn : Same H (L2.upd H3 t2 (.tup ((varsD ds).map V.str))) := gu1.trans (g3.trans (Gx.sameU nt2))
        have tn : Gx.Dat p (L2.upd H3 t2 (.tup ((varsD ds).map V.str))) (.ref t2) (varD ds dy) := by
          unfold varD
          rw [cn, if_pos rfl]
          exact .tup ((hp.same (gu1.trans g3)).ne nt2) upd_same (datL_strs _ (vars_ok good))
        revert gn tn
        generalize L2.upd H3 t2 (.tup ((varsD ds).map V.str)) = GN
        intro gn tn
        refine ⟨_, rfl, a, xs, rfl, hsG gn, fun l nl => ?_⟩
        have gl := Gx.sameU nl (o := .lst xs)
        refine ⟨_, rfl, _, rfl, a, xs, rfl, hsG (gn.trans gl), by show 4 ≤ sizeLine; decide, fun u nu => ?_⟩
        have gu := Gx.sameU nu (o := .lst [.str "made", .ref l, (.ref t2), .int (xs.length : Nat)])
        have g0 := (gn.trans gl).trans gu
        have dd : Gx.Dat p (L2.upd (L2.upd GN l (.lst xs)) u (.lst [.str "made", .ref l, (.ref t2), .int (xs.length : Nat)])) (.ref u) (toldD dx dy) := by
          rw [told_none c e1, ← rr.len]
          refine .lst ((hp.same (gn.trans gl)).ne nu) upd_same (.cons (.str "made" (by decide +kernel) (by decide +kernel)) (.cons (.lst ((hp.same gn).ne nl) (gu _ _ upd_same) (rr.kp (Gx.Kp.of g0))) (.cons (tn.kp (Gx.Kp.of (gl.trans gu))) (.cons (.int _ ?_) .nil))))
          have := rr.len
          exact Nat.lt_of_le_of_lt (show ((xs.length : Nat) : Int).natAbs ≤ 8 by omega) (by decide)
        have hpG := hp.same g0
        have txG := tx.kp (Gx.Kp.of g0)
        have tyG := ty.kp (Gx.Kp.of g0)
        refine ⟨_, rfl, _, rfl, _, rfl, p, _, rfl, hpG, by decide, by decide, fun r H3 r0 r1 hp3 k3 => ?_⟩
        refine ⟨p, (.ref a), y, dx, dy, r, rfl, txG.kp k3, tyG.kp k3, let ⟨_, _, e, _⟩ := hp3; ⟨_, e⟩, ly, fun t4 H4 g4 dt => ⟨t4, _, rfl, dt.shows, st.1, st.2.1, st.2.2, ?_⟩⟩
        have k4 := k3.trans (Gx.Kp.of g4)
        refine ⟨_, rfl, u, _, rfl, (dd.kp k4).shows, st.1, st.2.1, st.2.2, rfl, _, rfl, ?_⟩
        refine iteF' (by simp) ⟨_, rfl, _, rfl, by show 2 ≤ sizeLine; decide, fun r2 nr2 => ?_⟩
        have g5 := Gx.sameU nr2 (o := .lst [(.ref a), y])
        have k5 := k4.trans (Gx.Kp.of g5)
        have t5 := txG.kp k5
        have y5 := tyG.kp k5
        have hp5 := (hp3.same g4).same g5
        have kk5 := (Gx.Kp.of (p := p) g0).trans k5
        refine ⟨r2, _, rfl, .lst (SqL.of upd_same) (.cons t5.shows (.cons y5.shows .nil)), s2.1, s2.2.1, s2.2.2, _, rfl, rfl, _, rfl, iteF' (by simp) ?_⟩
        refine ⟨_, rfl, rfl, _, rfl, ?_⟩
        have nap : a ≠ p := by
          cases tx with
          | lst n _ _ => exact n
          | tup n _ _ => exact n
          | nil n _ => exact n
          | one _ n _ _ => exact n
        refine iteF ⟨_, rfl, a, xs, rfl, hs.elim (fun e => .inl (SqL.of (kk5 _ _ nap e))) (fun e => .inr (SqT.of (kk5 _ _ nap e))), fun l6 nl6 => ?_⟩
        have g6 := Gx.sameU nl6 (o := .lst xs)
        exact ⟨_, rfl, p, l6, xs, y, ds, dy, rfl, upd_same, hp5.ne nl6, rr.kp (kk5.trans (Gx.Kp.of g6)), ty.kp (kk5.trans (Gx.Kp.of g6)), let ⟨_, _, e, _⟩ := hp5.same g6; ⟨_, e⟩, ly, cl, fun H7 g7 => qq H7 ((hp5.same g6).same g7) ((kk5.trans (Gx.Kp.of g6)).trans (Gx.Kp.of g7))⟩
      | false =>
        refine iteF ⟨_, rfl, ?_⟩
        have gn := gu1
        have tn : Gx.Dat p (L2.upd H1 u (.lst [.str "refused", .non])) y (varD ds dy) := by
          unfold varD
          rw [cn, if_neg (by simp)]
          exact ty.kp (Gx.Kp.of gu1)
        revert gn tn
        generalize L2.upd H1 u (.lst [.str "refused", .non]) = GN
        intro gn tn
        refine ⟨_, rfl, a, xs, rfl, hsG gn, fun l nl => ?_⟩
        have gl := Gx.sameU nl (o := .lst xs)
        refine ⟨_, rfl, _, rfl, a, xs, rfl, hsG (gn.trans gl), by show 4 ≤ sizeLine; decide, fun u nu => ?_⟩
        have gu := Gx.sameU nu (o := .lst [.str "made", .ref l, y, .int (xs.length : Nat)])
        have g0 := (gn.trans gl).trans gu
        have dd : Gx.Dat p (L2.upd (L2.upd GN l (.lst xs)) u (.lst [.str "made", .ref l, y, .int (xs.length : Nat)])) (.ref u) (toldD dx dy) := by
          rw [told_none c e1, ← rr.len]
          refine .lst ((hp.same (gn.trans gl)).ne nu) upd_same (.cons (.str "made" (by decide +kernel) (by decide +kernel)) (.cons (.lst ((hp.same gn).ne nl) (gu _ _ upd_same) (rr.kp (Gx.Kp.of g0))) (.cons (tn.kp (Gx.Kp.of (gl.trans gu))) (.cons (.int _ ?_) .nil))))
          have := rr.len
          exact Nat.lt_of_le_of_lt (show ((xs.length : Nat) : Int).natAbs ≤ 8 by omega) (by decide)
        have hpG := hp.same g0
        have txG := tx.kp (Gx.Kp.of g0)
        have tyG := ty.kp (Gx.Kp.of g0)
        refine ⟨_, rfl, _, rfl, _, rfl, p, _, rfl, hpG, by decide, by decide, fun r H3 r0 r1 hp3 k3 => ?_⟩
        refine ⟨p, (.ref a), y, dx, dy, r, rfl, txG.kp k3, tyG.kp k3, let ⟨_, _, e, _⟩ := hp3; ⟨_, e⟩, ly, fun t4 H4 g4 dt => ⟨t4, _, rfl, dt.shows, st.1, st.2.1, st.2.2, ?_⟩⟩
        have k4 := k3.trans (Gx.Kp.of g4)
        refine ⟨_, rfl, u, _, rfl, (dd.kp k4).shows, st.1, st.2.1, st.2.2, rfl, _, rfl, ?_⟩
        refine iteF' (by simp) ⟨_, rfl, _, rfl, by show 2 ≤ sizeLine; decide, fun r2 nr2 => ?_⟩
        have g5 := Gx.sameU nr2 (o := .lst [(.ref a), y])
        have k5 := k4.trans (Gx.Kp.of g5)
        have t5 := txG.kp k5
        have y5 := tyG.kp k5
        have hp5 := (hp3.same g4).same g5
        have kk5 := (Gx.Kp.of (p := p) g0).trans k5
        refine ⟨r2, _, rfl, .lst (SqL.of upd_same) (.cons t5.shows (.cons y5.shows .nil)), s2.1, s2.2.1, s2.2.2, _, rfl, rfl, _, rfl, iteF' (by simp) ?_⟩
        refine ⟨_, rfl, rfl, _, rfl, ?_⟩
        have nap : a ≠ p := by
          cases tx with
          | lst n _ _ => exact n
          | tup n _ _ => exact n
          | nil n _ => exact n
          | one _ n _ _ => exact n
        refine iteF ⟨_, rfl, a, xs, rfl, hs.elim (fun e => .inl (SqL.of (kk5 _ _ nap e))) (fun e => .inr (SqT.of (kk5 _ _ nap e))), fun l6 nl6 => ?_⟩
        have g6 := Gx.sameU nl6 (o := .lst xs)
        exact ⟨_, rfl, p, l6, xs, y, ds, dy, rfl, upd_same, hp5.ne nl6, rr.kp (kk5.trans (Gx.Kp.of g6)), ty.kp (kk5.trans (Gx.Kp.of g6)), let ⟨_, _, e, _⟩ := hp5.same g6; ⟨_, e⟩, ly, cl, fun H7 g7 => qq H7 ((hp5.same g6).same g7) ((kk5.trans (Gx.Kp.of g6)).trans (Gx.Kp.of g7))⟩
end
end My
namespace My
open PySem PySem.Spec PyProof.Rows L2
theorem term_weight {d : PyData} (h : termD d = true) : d.weight ≤ 11 := by
  cases d with
  | str z =>
    have : (nameZ z || false) = true := h
    rw [Bool.or_false] at this
    simpa only [PyData.weight, Str.length] using (name_small this).1
  | int i =>
    have : (false || (decide (0 ≤ i) && decide (i < 1024))) = true := h
    simp at this
    exact wt_int (by omega)
  | _ => cases h
theorem weight_all {n : Nat} : ∀ {ds : List PyData}, (∀ d ∈ ds, d.weight ≤ n) → PyData.weightAll ds ≤ ds.length * (n + 1)
  | [], _ => by simp [PyData.weightAll]
  | d :: r, h => by
    have := weight_all (ds := r) fun x hx => h x (List.mem_cons_of_mem _ hx)
    have := h d (by simp)
    simp only [PyData.weightAll, List.length_cons, Nat.succ_mul]
    omega
theorem lit_weight {d : PyData} (h : litD d = true) : d.weight ≤ 200 := by
  obtain ⟨k, b, o, rfl, hk, hl, ht, h1, h2⟩ := lit_inv h
  have fk : k.weight ≤ 11 := by
    simp only [litD] at h
    cases k with
    | str z =>
      simp only [PyData.weight]
      cases c : rowW (.str z) with
      | true =>
        simp only [rowW, Bool.or_eq_true, decide_eq_true_eq] at c
        rcases c with rfl | rfl <;> decide +kernel
      | false =>
        rw [c, if_neg (by simp)] at h
        simp only [Bool.and_eq_true, signW, Bool.or_eq_true, decide_eq_true_eq] at h
        rcases h.1 with rfl | rfl | rfl | rfl <;> decide +kernel
    | _ => cases hk
  cases c : rowW k with
  | true =>
    obtain ⟨es, rfl, e⟩ := h1 c
    rw [e] at ht hl
    have fb : b.weight ≤ 11 := by
      simp only [litD, c, if_true, Bool.and_eq_true] at h
      exact term_weight (by simp [termD, h.1])
    have w := weight_all (n := 11) fun x hx => term_weight (ht x hx)
    simp only [PyData.weight, PyData.weightAll]
    have : es.length * 12 ≤ 4 * 12 := Nat.mul_le_mul_right _ hl
    omega
  | false =>
    rw [h2 c] at ht
    have := term_weight (ht b (by simp))
    have := term_weight (ht o (by simp))
    simp only [PyData.weight, PyData.weightAll]
    omega
theorem okIt_of {N : Addr → Prop} {H : Hp} {v : V} {d : PyData} (t : Gx.DatN N H v d) (nd : d.hasDict = false) (dp : d.depth ≤ 60) : okIt d := by
  intro es e x hx
  subst e
  have c := dat_can t nd
  simp only [PyData.canLay0] at c
  have cx := PySem.PyData.canLay0_of_mem es x c hx
  simp only [PyData.hasDict] at nd
  have hd : ∀ {es : List PyData}, PyData.hasDictAll es = false → x ∈ es → x.hasDict = false ∧ True := by
    intro es
    induction es with
    | nil => exact fun _ h => by cases h
    | cons y r ih =>
      intro h hm
      simp only [PyData.hasDictAll, Bool.or_eq_false_iff] at h
      rcases List.mem_cons.mp hm with rfl | hm
      · exact ⟨h.1, trivial⟩
      · exact ih h.2 hm
  have hdep : ∀ {es : List PyData}, x ∈ es → x.depth ≤ PyData.depthAll es := by
    intro es
    induction es with
    | nil => exact fun h => by cases h
    | cons y r ih =>
      intro hm
      simp only [PyData.depthAll]
      rcases List.mem_cons.mp hm with rfl | hm
      · omega
      · have := ih hm
        omega
  refine ⟨(hd nd hx).1, ?_⟩
  have := hdep hx
  simp only [PyData.depth] at dp
  unfold SeqAt.shaped
  rw [cx, Bool.true_and, decide_eq_true_eq]
  omega
theorem addS_in {acc : List Str} {t : PyData} {z : Str} (h : z ∈ addS acc t) : z ∈ acc ∨ t = .str z := by
  cases t with
  | str y =>
    simp only [addS] at h
    split at h
    · exact .inl h
    · rcases List.mem_append.mp h with h | h
      · exact .inl h
      · rw [List.mem_singleton.mp h]
        exact .inr rfl
  | _ => exact .inl h
theorem foS_in : ∀ {ts : List PyData} {acc : List Str} {z : Str}, z ∈ foS acc ts → z ∈ acc ∨ PyData.str z ∈ ts
  | [], _, _, h => .inl h
  | t :: r, acc, z, h => by
    rcases foS_in (ts := r) (acc := addS acc t) h with h | h
    · rcases addS_in h with h | rfl
      · exact .inl h
      · exact .inr (by simp)
    · exact .inr (List.mem_cons_of_mem _ h)
theorem vars_in0 : ∀ {ds : List PyData} {acc : List Str} {z : Str}, z ∈ ds.foldl (fun acc d => foS acc (termsOf d)) acc → z ∈ acc ∨ ∃ d ∈ ds, PyData.str z ∈ termsOf d
  | [], _, _, h => .inl h
  | d :: r, acc, z, h => by
    rcases vars_in0 (ds := r) h with h | ⟨e, he, hz⟩
    · rcases foS_in h with h | h
      · exact .inl h
      · exact .inr ⟨d, by simp, h⟩
    · exact .inr ⟨e, List.mem_cons_of_mem _ he, hz⟩
theorem vars_in {ds : List PyData} {z : Str} (h : z ∈ varsD ds) : ∃ d ∈ ds, PyData.str z ∈ termsOf d := by
  rcases vars_in0 h with h | h
  · cases h
  · exact h
theorem nodup_len : ∀ {l zs : List Str}, l.Nodup → (∀ z ∈ l, z ∈ zs) → l.length ≤ zs.length
  | [], _, _, _ => Nat.zero_le _
  | z :: r, zs, nd, h => by
    have nd' := List.nodup_cons.mp nd
    have hz := h z (by simp)
    have := nodup_len (l := r) (zs := zs.erase z) nd'.2 fun y hy => (List.mem_erase_of_ne fun e => nd'.1 (by rw [← e]; exact hy)).mpr (h y (List.mem_cons_of_mem _ hy))
    rw [List.length_erase_of_mem hz] at this
    have := List.length_pos_of_mem hz
    rw [List.length_cons]
    omega
/-- a list of literals as a thing -/
theorem lits_shw {N : Addr → Prop} {H : Hp} {xs : List V} {ds : List PyData} (r : Gx.DatNL N H xs ds) (g : ∀ d ∈ ds, litD d = true) (l : ds.length ≤ 100) : Shw 40000 10 (.list ds) ∧ Shw 40000 10 (.tuple ds) := by
  have nd := flatL_nd (flatL_iff.mpr fun x hx => lit_flat (g x hx))
  obtain ⟨a, b⟩ := datL_sh r nd
  have w := weight_all fun x hx => lit_weight (g x hx)
  have d := depth_all fun x hx => lit_depth (g x hx)
  have : ds.length * 201 ≤ 100 * 201 := Nat.mul_le_mul_right _ l
  exact ⟨⟨by simpa only [PyData.showable] using a, by simpa only [PyData.leavesShort] using b, by simp only [PyData.weight]; omega, by simp only [PyData.depth]; omega⟩, ⟨by simpa only [PyData.showable] using a, by simpa only [PyData.leavesShort] using b, by simp only [PyData.weight]; omega, by simp only [PyData.depth]; omega⟩⟩
theorem lits_ok {N : Addr → Prop} {H : Hp} : ∀ {xs : List V} {ds : List PyData}, Gx.DatNL N H xs ds → (∀ d ∈ ds, litD d = true) → ∀ d ∈ ds, okIt d
  | _, _, .nil, _, _, h => by cases h
  | _, _, .cons t r, g, d, h => by
    rcases List.mem_cons.mp h with rfl | h
    · exact okIt_of t (flat_nd (lit_flat (g d (by simp)))) (Nat.le_trans (lit_depth (g d (by simp))) (by decide))
    · exact lits_ok r (fun x hx => g x (List.mem_cons_of_mem _ hx)) d h
/-- odd things in a list -/
theorem odds {p e : Addr} {H : Hp} : ∀ {xs : List V}, (∀ x ∈ xs, Odd p e H x) → ∃ ds, Gx.DatNL (Nb p e) H xs ds ∧ PyData.showableAll ds = true ∧ PyData.leavesShortAll 200 ds = true ∧ PyData.weightAll ds ≤ xs.length * 1301 ∧ PyData.depthAll ds ≤ 6 ∧ ∀ d ∈ ds, okIt d
  | [], _ => ⟨[], .nil, by simp [PyData.showableAll], by simp [PyData.leavesShortAll], by simp [PyData.weightAll], by simp [PyData.depthAll], fun _ h => by cases h⟩
  | x :: r, h => by
    obtain ⟨ds, a1, a2, a3, a4, a5, a6⟩ := odds (xs := r) fun y hy => h y (List.mem_cons_of_mem _ hy)
    have one : ∃ d, Gx.DatN (Nb p e) H x d ∧ d.showable = true ∧ d.leavesShort 200 = true ∧ d.weight ≤ 1300 ∧ d.depth ≤ 6 ∧ okIt d := by
      rcases h x (by simp) with ⟨d, t, w, k, n⟩ | ⟨a, rfl, n, z⟩
      · exact ⟨d, t, (dat_sh t n).1, (dat_sh t n).2, w, k, okIt_of t n (by omega)⟩
      · exact ⟨_, .nil n z, by decide, by decide, by decide, by decide, fun es e => by cases e⟩
    obtain ⟨d, b1, b2, b3, b4, b5, b6⟩ := one
    refine ⟨d :: ds, .cons b1 a1, by simp [PyData.showableAll, a2, b2], by simp [PyData.leavesShortAll, a3, b3], ?_, ?_, ?_⟩
    · simp only [PyData.weightAll, List.length_cons, Nat.succ_mul]
      omega
    · simp only [PyData.depthAll]
      omega
    · intro y hy
      rcases List.mem_cons.mp hy with rfl | hy
      · exact b6
      · exact a6 y hy
theorem Odd.kp {p e : Addr} {H H' : Hp} {v : V} (h : Odd p e H v) (k : ∀ b o, Nb p e b → H b = some o → H' b = some o) : Odd p e H' v := by
  rcases h with ⟨d, t, z⟩ | ⟨a, rfl, n, z⟩
  · exact .inl ⟨d, t.kn k, z⟩
  · exact .inr ⟨a, rfl, n, k _ _ n z⟩
theorem lit_ref {N : Addr → Prop} {H : Hp} {v : V} {d : PyData} (t : Gx.DatN N H v d) (h : litD d = true) : ∃ a, v = .ref a := by
  obtain ⟨k, b, o, rfl, _⟩ := lit_inv h
  cases t with
  | tup n h r => exact ⟨_, rfl⟩
theorem lit_odd {p e : Addr} {H : Hp} {v : V} {d : PyData} (t : Gx.DatN (Nb p e) H v d) (h : litD d = true) : Odd p e H v := by
  obtain ⟨a, rfl⟩ := lit_ref t h
  exact .inl ((Sm.lit t h).mono (by decide) (by decide))
/-- a list or tuple of odd things as a thing -/
theorem odd_thing {p e : Addr} {H : Hp} {a : Addr} {xs : List V} (n : a ≠ p) (h : H a = some (.lst xs) ∨ H a = some (.tup xs)) (hx : ∀ x ∈ xs, Odd p e H x) (l : xs.length ≤ 20) : Thing p H (.ref a) := by
  obtain ⟨ds, r, a2, a3, a4, a5, a6⟩ := odds hx
  have r' : Gx.DatL p H xs ds := r.mono fun _ z => z.1
  have : xs.length * 1301 ≤ 20 * 1301 := Nat.mul_le_mul_right _ l
  rcases h with h | h
  · exact ⟨.list ds, .lst n h r', ⟨by simpa only [PyData.showable] using a2, by simpa only [PyData.leavesShort] using a3, by simp only [PyData.weight]; omega, by simp only [PyData.depth]; omega⟩, fun es e => by cases e; exact a6⟩
  · exact ⟨.tuple ds, .tup n h r', ⟨by simpa only [PyData.showable] using a2, by simpa only [PyData.leavesShort] using a3, by simp only [PyData.weight]; omega, by simp only [PyData.depth]; omega⟩, fun es e => by cases e; exact a6⟩
/-- a flat value as a thing -/
theorem flat_thing {p e : Addr} {H : Hp} {v : V} {n k : Nat} (h : Sm n k p e H v) (hn : n ≤ 40000) (hk : k ≤ 10) (it : ∀ a, v ≠ .ref a) : Thing p H v := by
  obtain ⟨d, t, w, z, nd⟩ := h
  refine ⟨d, t.mono fun _ z => z.1, ⟨(dat_sh t nd).1, (dat_sh t nd).2, by omega, by omega⟩, fun ds e => ?_⟩
  cases t with
  | lst _ _ _ => exact absurd rfl (it _)
  | tup _ _ _ => exact absurd rfl (it _)
  | _ => cases e
theorem dl_rep {N : Addr → Prop} {H : Hp} {xs : List V} {ds : List PyData} (r : Gx.DatNL N H xs ds) : ∀ n : Nat, Gx.DatNL N H (List.replicate n xs).flatten (List.replicate n ds).flatten
  | 0 => .nil
  | n + 1 => by
    rw [List.replicate_succ, List.replicate_succ, List.flatten_cons, List.flatten_cons]
    exact r.app (dl_rep r n)
theorem rep_good {ds : List PyData} {n : Nat} (g : ∀ d ∈ ds, litD d = true) : ∀ d ∈ (List.replicate n ds).flatten, litD d = true := fun d hd => by
  obtain ⟨y, hy, hz⟩ := List.mem_flatten.mp hd
  rw [List.eq_of_mem_replicate hy] at hz
  exact g d hz
/-- a list of literals as a thing -/
theorem lits_thing {p a : Addr} {H : Hp} {xs : List V} {ds : List PyData} (n : a ≠ p) (h : H a = some (.lst xs)) (r : Gx.DatL p H xs ds) (g : ∀ d ∈ ds, litD d = true) (l : ds.length ≤ 100) : Thing p H (.ref a) :=
  ⟨.list ds, .lst n h r, (lits_shw r g l).1, fun es e => by cases e; exact lits_ok r g⟩
theorem all_ok {N : Addr → Prop} {H : Hp} : ∀ {xs : List V} {ds : List PyData}, Gx.DatNL N H xs ds → flatL ds = true → PyData.depthAll ds ≤ 60 → ∀ d ∈ ds, okIt d
  | _, _, .nil, _, _, _, h => by cases h
  | _, _, .cons (d := d0) t r, f, k, d, h => by
    simp only [flatL, Bool.and_eq_true] at f
    simp only [PyData.depthAll] at k
    rcases List.mem_cons.mp h with rfl | h
    · exact okIt_of t (flat_nd f.1) (by omega)
    · exact all_ok r f.2 (by omega) d h
theorem lit_thing {p : Addr} {H : Hp} {v : V} {d : PyData} (t : Gx.Dat p H v d) (h : litD d = true) : Thing p H v := by
  have f := lit_flat h
  have k := lit_depth h
  have w := lit_weight h
  obtain ⟨s1, s2⟩ := dat_sh t (flat_nd f)
  refine ⟨d, t, ⟨s1, s2, by omega, by omega⟩, fun es e => ?_⟩
  cases t with
  | tup n h r =>
    cases e
    simp only [PyData.depth] at k
    exact all_ok r (by simpa only [flatD] using f) (by omega)
  | lst n h r =>
    simp [flatD] at f
  | _ => cases e
theorem one_thing {p a : Addr} {H : Hp} {v : V} {d : PyData} (n : a ≠ p) (e : H a = some (.dK [(.inl 0, v)])) (t : Gx.Dat p H v d) (h : litD d = true) : Thing p H (.ref a) := by
  have f := lit_flat h
  have k := lit_depth h
  have w := lit_weight h
  obtain ⟨s1, s2⟩ := dat_sh t (flat_nd f)
  have i1 : PyData.showable (.int 0) = true := by decide
  have i2 : PyData.leavesShort 200 (.int 0) = true := by decide +kernel
  refine ⟨.dict [(.int 0, d)], .one 0 n e t, ⟨?_, ?_, ?_, ?_⟩, fun es e => by cases e⟩
  · simp [PyData.showable, PyData.showableKv, s1]
  · simp [PyData.leavesShort, PyData.leavesShortKv, s2] at i2 ⊢
    exact i2
  · simp only [PyData.weight, PyData.weightKv]
    simp
    omega
  · simp only [PyData.depth, PyData.depthKv]
    omega
end My
namespace My
open PySem PySem.Spec PyProof.Rows L2
section
variable {P : Program} {w : World} {K : PySem.W.Frag} {mg : Str → Option Value} {base : Heap}
def spCell : Sp := fun vs H Q _ => ∃ (p : Addr), vs = [.ref p] ∧ Pot p H ∧ ∀ H', Pot p H' → Gx.Kp p H H' → Q (.bl true) H'
theorem p__law_cell_right (T : Mo K mg) (hsys : Gx.SysD base) : Gx.PrG P w K mg base CX0 11 "_law_cell_right" s__law_cell_right ["_law_pot_here"] spCell := by
  refine T.d__law_cell_right.okG sc__law_cell_right (fun vs H Q E h => ?_) (fun f cdv A outer s H vs Q E hgd hr h => ?_)
  · obtain ⟨p, rfl, _⟩ := h
    rfl
  · obtain ⟨p, rfl, hp, qq⟩ := h
    have hu64 := hr.units
    have p__law_right := fun T' : Mo K mg => p__law_right (P := P) (w := w) T' hsys
    refine ⟨_, (pss_cons (ps_set (i := 1) sc__law_cell_right.nd rfl (Or.inr rfl) (pe_lc (own := [("_law_at", 2)]) (g := gName 2) (tt := tYes) rfl sc__law_cell_right.nd (pi_range1 (by rfl) T.b_range (pa_cons (pe_op op_add pe_int (Gx.pe_pos (p__law_take T) hr (by decide) (by rfl) b__law_take pass0 (pa_cons (pv 0) (pa_cons pe_int pa_nil)))) pa_nil)) (blkOk_by (N := N__law_cell_right) (sc := defScope s__law_cell_right) (by decide +kernel)) (fun _ _ _ _ _ => (pg_name (i := 2) sc__law_cell_right.nd rfl (Or.inl rfl))) (fun _ _ _ _ _ => pts_nil) (fun _ _ _ _ _ => (Gx.pe_pos (p__law_word T) hr (by decide) (by rfl) b__law_word pass0 (pa_cons (pv 0) (pa_cons (pe_ix ix_str pe_str (pv 2) (fun _ _ => rfl)) pa_nil))))))
      (pss_cons (ps_setLc (i := 3) (own := [("_law_at", 2)]) (g := gName 2) (tt := tYes) rfl sc__law_cell_right.nd rfl rfl (sw_true rfl rfl rfl (by decide +kernel)) (pi_range1 (by rfl) T.b_range (pa_cons (pe_op op_add pe_int (Gx.pe_pos (p__law_take T) hr (by decide) (by rfl) b__law_take pass0 (pa_cons (pv 0) (pa_cons pe_int pa_nil)))) pa_nil)) (blkOk_by (N := N__law_cell_right) (sc := defScope s__law_cell_right) (by decide +kernel)) (fun _ _ _ _ _ => (pg_name (i := 2) sc__law_cell_right.nd rfl (Or.inl rfl))) (fun _ _ _ _ _ => pts_nil) (fun _ _ _ _ _ => (Gx.pe_pos (p__law_literal T) hr (by decide) (by rfl) b__law_literal pass0 (pa_cons (pv 0) (pa_cons (pv 1) pa_nil)))))
      (pss_cons (ps_set (i := 4) sc__law_cell_right.nd rfl (Or.inl rfl) (Gx.pe_pos (p__law_some_order T) hr (by decide) (by rfl) b__law_some_order pass0 (pa_cons (pv 0) (pa_cons (Gx.pe_pos (p__law_first_order T) hr (by decide) (by rfl) b__law_first_order pass0 (pa_cons (pv 3) pa_nil)) pa_nil))))
      (pss_cons (ps_if (pt_not (pt_val (Gx.pe_posG hgd (p__law_right T) hr (by decide) (by rfl) b__law_right pass0 (pa_cons (pv 0) (pa_cons (pv 3) (pa_cons (pv 4) pa_nil)))))) (pss_one (ps_ret pe_bl)) pss_nil)
      (pss_cons (ps_set (i := 5) sc__law_cell_right.nd rfl (Or.inl rfl) (pe_callTy call_list_of (by rfl) T.b_list (by decide +kernel) (pa_cons (pv 3) pa_nil)))
      (pss_cons (ps_for PassesOwn.never rfl (pi_range1 (by rfl) T.b_range (pa_cons (pe_op op_add pe_int (Gx.pe_pos (p__law_take T) hr (by decide) (by rfl) b__law_take pass0 (pa_cons (pv 0) (pa_cons pe_int pa_nil)))) pa_nil)) (pg_name (i := 6) sc__law_cell_right.nd rfl (Or.inl rfl)) (pss_cons (ps_set (i := 2) sc__law_cell_right.nd rfl (Or.inl rfl) (Gx.pe_pos (p__law_take T) hr (by decide) (by rfl) b__law_take pass0 (pa_cons (pv 0) (pa_cons (pe_callB call_len_seq (by rfl) T.b_len (by decide +kernel) (pa_cons (pv 5) pa_nil)) pa_nil))))
      (pss_one (ps_asg (Gx.pe_pos (p__law_odd T) hr (by decide) (by rfl) b__law_odd pass0 (pa_cons (pv 0) (pa_cons (pe_ix ix_list (pv 3) (pv 2) (fun _ _ => rfl)) pa_nil))) (pg_sub (pv 5) (pv 2) set_list)))))
      (pss_cons (ps_if (PW.pt (pw_or (pt_not (pt_val (Gx.pe_posG hgd (p__law_right T) hr (by decide) (by rfl) b__law_right pass0 (pa_cons (pv 0) (pa_cons (pv 5) (pa_cons (pv 4) pa_nil)))))) (pw_or1 (pt_not (pt_val (Gx.pe_posG hgd (p__law_right T) hr (by decide) (by rfl) b__law_right pass0 (pa_cons (pv 0) (pa_cons (pe_callTy call_tuple_of (by rfl) T.b_tuple (by decide +kernel) (pa_cons (pe_slice sl_list (pv 5) po_none (po_some pe_int)) pa_nil)) (pa_cons pe_non pa_nil))))))))) (pss_one (ps_ret pe_bl)) pss_nil)
      (pss_cons (ps_if (pt_cmpR op_gt (Gx.pe_pos (p__law_take T) hr (by decide) (by rfl) b__law_take pass0 (pa_cons (pv 0) (pa_cons pe_int pa_nil))) pe_int (nomark _)) (pss_one (ps_ret pe_bl)) pss_nil)
      (pss_cons (ps_set (i := 7) sc__law_cell_right.nd rfl (Or.inl rfl) (pe_lst (pa_cons pe_non (pa_cons pe_int (pa_cons pe_bl (pa_cons pe_str (pa_cons pe_dnewK (pa_cons (pe_lst pa_nil) (pa_cons (pe_tup pa_nil) (pa_cons (pe_ix ix_list (pv 3) pe_int (fun _ _ => rfl)) (pa_cons (pe_op op_rep (pv 3) pe_int) (pa_cons (pe_slice sl_list (pe_op op_rep (pv 3) pe_int) po_none (po_some pe_int)) (pa_cons (pe_disp (pps_cons pe_int (pe_ix ix_list (pv 3) pe_int (fun _ _ => rfl)) pps_nil) (by rfl) (by rfl) (fun z => by cases z) (by decide)) pa_nil)))))))))))))
      (pss_one (ps_ret (Gx.pe_posG hgd (p__law_right T) hr (by decide) (by rfl) b__law_right pass0 (pa_cons (pv 0) (pa_cons (Gx.pe_pos (p__law_pick T) hr (by decide) (by rfl) b__law_pick pass0 (pa_cons (pv 0) (pa_cons (pv 7) pa_nil))) (pa_cons (pv 4) pa_nil))))))))))))))), ?_⟩
    refine ⟨_, rfl, p, _, rfl, hp, by decide, by decide, fun r H1 r0 r1 hp1 k1 => ⟨_, _, rfl, rfl, 1 + r, rfl, by omega, by omega, fun D hD => ?_⟩⟩
    obtain ⟨m, rfl⟩ : ∃ m : Nat, r = (m : Int) := ⟨r.toNat, by omega⟩
    rw [show (1 + (m : Int)).toNat = m + 1 by omega]
    have nDp := hp1.ne hD
    refine lc_range (lo := 0) (n := m + 1) (fun i H' => Pot p H' ∧ Gx.Kp p H1 H' ∧ ∃ zs : List Str, zs.length = i ∧ (∀ z ∈ zs, nameZ z = true) ∧ H' D = some (.lst (zs.map V.str)))
      ⟨hp1.same (Gx.sameU hD), Gx.Kp.of (Gx.sameU hD), [], rfl, (fun _ h => nomatch h), upd_same⟩ (fun i H4 hi h => ?_) fun H2 h => ?_
    · obtain ⟨R4, k4, l, hl, hs, hd⟩ := h
      have at_ : (("pqrstuv" : String) : Str).cps.toList[i]? = some (112 + i) := (by decide +kernel : ∀ i, i < 7 → (("pqrstuv" : String) : Str).cps.toList[i]? = some (112 + i)) i (by omega)
      have lw : isLw (112 + i) = true := by
        simp only [isLw, Bool.and_eq_true, decide_eq_true_eq]
        omega
      refine ⟨rfl, _, rfl, _, rfl, "pqrstuv", _, 112 + i, rfl, rfl, by decide +kernel, (by rw [Int.zero_add]; exact atI_nat at_), p, 112 + i, rfl, R4, lw, by omega, by omega, fun y H5 hy R5 k5 => ⟨_, k5 _ _ nDp hd, ?_, ?_, ?_, l ++ [y], ?_, ?_, ?_⟩⟩
      · rw [List.length_map, hl]
        exact Nat.lt_of_le_of_lt (show i ≤ 12 by omega) (by decide)
      · obtain ⟨a, b, e, o⟩ := R5
        exact ⟨a, b, by rw [upd_ne nDp.symm]; exact e, o⟩
      · intro b o nb e
        rw [upd_ne (ne_of_none e hD)]
        exact (k4.trans k5) b o nb e
      · rw [List.length_append, hl]
        rfl
      · intro z hz
        rcases List.mem_append.mp hz with h | h
        · exact hs z h
        · rw [List.mem_singleton.mp h]
          exact hy
      · rw [upd_same, List.map_append]
        rfl
    · obtain ⟨hp2, k2, zs, zl, zn, hD2⟩ := h
      have kk2 := k1.trans k2
      refine ⟨_, rfl, p, _, rfl, hp2, by decide, by decide, fun r H3 r0' r1' hp3 k3 => ⟨_, _, rfl, rfl, 1 + r, rfl, by omega, by omega, fun D' hD' => ?_⟩⟩
      obtain ⟨n, rfl⟩ : ∃ n : Nat, r = (n : Int) := ⟨r.toNat, by omega⟩
      rw [show (1 + (n : Int)).toNat = n + 1 by omega]
      have nDp' := hp3.ne hD'
      have hD3 := k3 _ _ nDp hD2
      refine lc_range (lo := 0) (n := n + 1) (fun i H' => Pot p H' ∧ Gx.Kp p H3 H' ∧ ∃ (l : List V) (ds : List PyData), Gx.DatL p H' l ds ∧ l.length = i ∧ (∀ d ∈ ds, litD d = true) ∧ (∀ d ∈ ds, ∀ z, PyData.str z ∈ termsOf d → z ∈ zs) ∧ H' D' = some (.lst l))
        ⟨hp3.same (Gx.sameU hD'), Gx.Kp.of (Gx.sameU hD'), [], [], .nil, rfl, (fun _ h => nomatch h), (fun _ h => nomatch h), upd_same⟩ (fun i H4 hi h => ?_) fun H4 h => ?_
      · obtain ⟨R4, k4, l, ds, dl, hl, hs, ht, hd⟩ := h
        refine ⟨rfl, _, rfl, _, rfl, p, D, zs, rfl, R4, ⟨nDp, k4 _ _ nDp hD3, by omega, by omega, zn⟩, fun t d H5 tp td tl tt R5 k5 => ⟨_, k5 _ _ nDp' hd, ?_, ?_, ?_, l ++ [.ref t], ds ++ [d], ?_, ?_, ?_, ?_, upd_same⟩⟩
        · rw [hl]
          exact Nat.lt_of_le_of_lt (show i ≤ 12 by omega) (by decide)
        · obtain ⟨a, b, e, o⟩ := R5
          exact ⟨a, b, by rw [upd_ne nDp'.symm]; exact e, o⟩
        · intro b o nb e
          rw [upd_ne (ne_of_none e hD')]
          exact (k4.trans k5) b o nb e
        · refine datL_kt (Kt.at (k5 _ _ nDp' hd)) ((dl.kp k5).snoc td) (flatL_iff.mpr fun x hx => ?_)
          rcases List.mem_append.mp hx with h | h
          · exact lit_flat (hs x h)
          · rw [List.mem_singleton.mp h]
            exact lit_flat tl
        · rw [List.length_append, hl]
          rfl
        · intro x hx
          rcases List.mem_append.mp hx with h | h
          · exact hs x h
          · rw [List.mem_singleton.mp h]
            exact tl
        · intro x hx z hz
          rcases List.mem_append.mp hx with h | h
          · exact ht x h z hz
          · rw [List.mem_singleton.mp h] at hz
            exact tt z hz
      · obtain ⟨hp4, k4, xs, ds, dl, xl, good, tin, hP⟩ := h
        have kk4 := (kk2.trans k3).trans k4
        have dsl : ds.length ≤ 9 := by
          have := dl.len
          omega
        -- the order
        refine ⟨_, rfl, _, rfl, p, D', xs, ds, rfl, .inl hP, dl, by omega, good, fun t H5 s5 nt hv => ?_⟩
        have hp5 := hp4.same s5
        have vz : ∀ z ∈ varsD ds, z ∈ zs := fun z hz => let ⟨d, hd, h⟩ := vars_in hz; tin d hd z h
        have vl : (varsD ds).length ≤ 10 := Nat.le_trans (nodup_len (vars_nodup ds) vz) (by omega)
        refine ⟨p, t, varsD ds, rfl, hp5, hp4.ne nt, hv, vl, fun z hz => zn z (vz z hz), fun lane H6 hlane hp6 k6 => ?_⟩
        have k46 : Gx.Kp p H4 H6 := (Gx.Kp.of s5).trans k6
        have dl6 := dl.kp k46
        have hP6 := k46 _ _ nDp' hP
        have shp := lits_shw dl6 good (by omega)
        have thing1 : Thing p H6 (.ref D') := ⟨.list ds, .lst nDp' hP6 dl6, shp.1, fun es e => by cases e; exact lits_ok dl6 good⟩
        refine ⟨_, rfl, _, rfl, _, rfl, p, _, _, rfl, hp6, thing1, hlane, fun H7 hp7 k7 => ?_⟩
        refine ⟨_, rfl, iteF ?_⟩
        have k47 := k46.trans k7
        have dl7 := dl.kp k47
        have hP7 := k47 _ _ nDp' hP
        refine ⟨_, rfl, D', xs, rfl, .inl (SqL.of hP7), fun b nb => ?_⟩
        have s8 := Gx.sameU nb (o := .lst xs)
        have nbp := hp7.ne nb
        have dlN : Gx.DatNL (Nb p b) H7 xs ds := datL_fresh nb dl7
        have xlen := dl.len
        refine ⟨_, rfl, p, _, rfl, hp7.same s8, by decide, by decide, fun r H9 r0' r1' hp9 k9 => ⟨_, _, rfl, rfl, 1 + r, rfl, by omega, by omega, ?_⟩⟩
        obtain ⟨m2, rfl⟩ : ∃ m : Nat, r = (m : Int) := ⟨r.toNat, by omega⟩
        rw [show (1 + (m2 : Int)).toNat = m2 + 1 by omega]
        have k79 : Gx.Kp p H7 H9 := (Gx.Kp.of s8).trans k9
        refine for_range (lo := 0) (n := m2 + 1) (fun i σ H' => Pot p H' ∧ Gx.Kp p H7 H' ∧ ∃ ws t2 t6, σ = [some (.ref p), some (.ref D), t2, some (.ref D'), some lane, some (.ref b), t6, none] ∧ H' b = some (.lst ws) ∧ ws.length = xs.length ∧ ∀ v ∈ ws, Odd p b H' v)
          ⟨hp9, k79, xs, _, _, rfl, k9 _ _ nbp upd_same, rfl, fun v hv => ?_⟩ (fun i σ HA hi h => ?_) fun σ HA h => ?_
        · obtain ⟨d, hd, td⟩ := dlN.mem hv
          exact (lit_odd td (good d hd)).kp fun c o n e => k79 c o n.1 e
        · obtain ⟨hpA, kA, ws, t2, t6, rfl, hbA, wl, wo⟩ := h
          refine ⟨_, rfl, _, rfl, b, ws, rfl, .inl (SqL.of hbA), p, _, rfl, hpA, by omega, by omega, fun r HB i0 i1 hpB kB => ?_⟩
          obtain ⟨j, rfl⟩ : ∃ j : Nat, r = (j : Int) := ⟨r.toNat, by omega⟩
          have hj : j < xs.length := by omega
          have kAB := kA.trans kB
          have hPB := kAB _ _ nDp' hP7
          obtain ⟨d, hd, td⟩ := dlN.get (List.getElem?_eq_getElem hj)
          have hdm := List.mem_of_getElem? hd
          obtain ⟨t, et⟩ := lit_ref td (good d hdm)
          have tdB : Gx.DatN (Nb p b) HB (.ref t) d := by
            rw [← et]
            exact td.kn fun c o n e => kAB c o n.1 e
          refine ⟨_, rfl, _, rfl, _, rfl, D', xs, _, .ref t, rfl, rfl, SqL.of hPB, ?_, p, b, t, d, rfl, ⟨hpB, ws, kB _ _ nbp hbA⟩, tdB, good d hdm, fun v HC ho hpC kC => ?_⟩
          · rw [← et]
            exact atI_nat (List.getElem?_eq_getElem hj)
          have hbC := (kB.trans kC) _ _ nbp hbA
          refine ⟨_, rfl, _, rfl, b, ws, _, j, rfl, rfl, hbC, ?_, ?_⟩
          · unfold ixN
            simp [show j < ws.length by omega]
          · refine ⟨?_, fun c o n e => ?_, ws.set j v, _, _, rfl, upd_same, by rw [List.length_set]; exact wl, fun y hy => ?_⟩
            · obtain ⟨x1, x2, e, o⟩ := hpC
              exact ⟨x1, x2, by rw [upd_ne nbp.symm]; exact e, o⟩
            · rw [upd_ne (ne_of_none e nb)]
              exact (kAB.trans kC) c o n e
            · rcases List.mem_or_eq_of_mem_set hy with h | rfl
              · exact (wo y h).kp fun c o n e => by rw [upd_ne n.2]; exact (kB.trans kC) c o n.1 e
              · exact ho.kp fun c o n e => by rw [upd_ne n.2]; exact e
        · obtain ⟨hpA, kA, ws, t2, t6, rfl, hbA, wl, wo⟩ := h
          have laneA := (hlane.kp k7).kp kA
          refine ⟨_, rfl, _, rfl, _, rfl, p, _, _, rfl, hpA, odd_thing nbp (.inl hbA) wo (by omega), laneA, fun HB hpB kB => ⟨_, rfl, iteF ?_⟩⟩
          have hbB := kB _ _ nbp hbA
          have woB : ∀ v ∈ ws, Odd p b HB v := fun v hv => (wo v hv).kp fun c o n e => kB c o n.1 e
          refine ⟨_, rfl, _, rfl, 2, rfl, b, ws, rfl, SqL.of hbB, fun l nl => ⟨l, _, rfl, .inl ⟨SqL.of upd_same, fun t nt => ?_⟩⟩⟩
          have sC := (Gx.sameU nl (o := .lst (cutV ws none (some 2)))).trans (Gx.sameU nt (o := .tup (cutV ws none (some 2))))
          refine ⟨p, _, _, rfl, hpB.same sC, odd_thing (xs := ws.take 2) (e := b) ((hpB.same (Gx.sameU nl)).ne nt) (.inr ?_) (fun v hv => ?_) ?_, lane_non, fun HD hpD kD => ⟨_, rfl, iteF ?_⟩⟩
          · rw [upd_same, show (some 2 : Option Int) = some ((2 : Nat) : Int) from rfl, cut_to]
          · exact (woB v (List.mem_of_mem_take hv)).kp fun c o n e => sC c o e
          · rw [List.length_take]
            omega
          have kAD : Gx.Kp p H7 HD := ((kA.trans kB).trans (Gx.Kp.of sC)).trans kD
          refine ⟨_, rfl, p, _, rfl, hpD, by decide, by decide, fun r HE i0 i1 hpE kE => ⟨_, _, rfl, rfl, _, rfl, ?_⟩⟩
          have kE7 := kAD.trans kE
          have kEE : Gx.Kp p H HE := (kk4.trans k47).trans kE7
          show if decide ((0 : Int) < r) = true then _ else _
          by_cases c8 : (0 : Int) < r
          · rw [decide_eq_true c8]
            exact iteT (qq HE hpE kEE)
          · rw [decide_eq_false c8]
            refine iteF ?_
            have hPE := kE7 _ _ nDp' hP7
            have dlE := dl7.kp kE7
            match xs, ds, dlE with
            | x0 :: xr, d0 :: dr, dlE =>
            have at0 : atI (x0 :: xr) 0 = some x0 := atI_nat (j := 0) rfl
            refine fun d1 nd1 => ⟨Nat.zero_le _, fun l1 nl1 => ⟨Nat.zero_le _, fun e1 ne1 => ⟨_, rfl, D', _, 0, x0, rfl, rfl, SqL.of (by (repeat (first | exact upd_same | assumption | refine Gx.sameU (by assumption) _ _ ?_ | refine (show Same _ _ by assumption) _ _ ?_))), at0, ?_⟩⟩⟩
            have gd : d0 :: dr = d0 :: dr := rfl
            refine ⟨_, rfl, D', 9, _, rfl, rfl, by (repeat (first | exact upd_same | assumption | refine Gx.sameU (by assumption) _ _ ?_ | refine (show Same _ _ by assumption) _ _ ?_)), by decide, by decide, ?_, fun l2 nl2 => ?_⟩
            · show (x0 :: xr).length * 9 ≤ sizeLine
              exact Nat.le_trans (Nat.mul_le_mul_right 9 (show (x0 :: xr).length ≤ 9 by omega)) (by decide)
            refine ⟨_, rfl, D', 9, _, rfl, rfl, by (repeat (first | exact upd_same | assumption | refine Gx.sameU (by assumption) _ _ ?_ | refine (show Same _ _ by assumption) _ _ ?_)), by decide, by decide, ?_, fun l3 nl3 => ⟨9, rfl, l3, _, rfl, SqL.of upd_same, fun l4 nl4 => ?_⟩⟩
            · show (x0 :: xr).length * 9 ≤ sizeLine
              exact Nat.le_trans (Nat.mul_le_mul_right 9 (show (x0 :: xr).length ≤ 9 by omega)) (by decide)
            refine fun d2 nd2 => ⟨_, rfl, D', _, 0, x0, rfl, rfl, SqL.of (by (repeat (first | exact upd_same | assumption | refine Gx.sameU (by assumption) _ _ ?_ | refine (show Same _ _ by assumption) _ _ ?_))), at0, upd_same, [(.inl 0, x0)], rfl, by show 1 ≤ 15; decide, ?_⟩
            have F : Same HE (L2.upd (L2.upd (L2.upd (L2.upd (L2.upd (L2.upd HE d1 (.dK [])) l1 (.lst [])) e1 (.tup [])) l2 (.lst (List.replicate (Int.toNat 9) (x0 :: xr)).flatten)) l3 (.lst (List.replicate (Int.toNat 9) (x0 :: xr)).flatten)) l4 (.lst (cutV (List.replicate (Int.toNat 9) (x0 :: xr)).flatten none (some 9)))) ∧ (L2.upd (L2.upd (L2.upd (L2.upd (L2.upd (L2.upd HE d1 (.dK [])) l1 (.lst [])) e1 (.tup [])) l2 (.lst (List.replicate (Int.toNat 9) (x0 :: xr)).flatten)) l3 (.lst (List.replicate (Int.toNat 9) (x0 :: xr)).flatten)) l4 (.lst (cutV (List.replicate (Int.toNat 9) (x0 :: xr)).flatten none (some 9)))) d1 = some (.dK []) ∧ (L2.upd (L2.upd (L2.upd (L2.upd (L2.upd (L2.upd HE d1 (.dK [])) l1 (.lst [])) e1 (.tup [])) l2 (.lst (List.replicate (Int.toNat 9) (x0 :: xr)).flatten)) l3 (.lst (List.replicate (Int.toNat 9) (x0 :: xr)).flatten)) l4 (.lst (cutV (List.replicate (Int.toNat 9) (x0 :: xr)).flatten none (some 9)))) l1 = some (.lst []) ∧ (L2.upd (L2.upd (L2.upd (L2.upd (L2.upd (L2.upd HE d1 (.dK [])) l1 (.lst [])) e1 (.tup [])) l2 (.lst (List.replicate (Int.toNat 9) (x0 :: xr)).flatten)) l3 (.lst (List.replicate (Int.toNat 9) (x0 :: xr)).flatten)) l4 (.lst (cutV (List.replicate (Int.toNat 9) (x0 :: xr)).flatten none (some 9)))) e1 = some (.tup []) ∧ (L2.upd (L2.upd (L2.upd (L2.upd (L2.upd (L2.upd HE d1 (.dK [])) l1 (.lst [])) e1 (.tup [])) l2 (.lst (List.replicate (Int.toNat 9) (x0 :: xr)).flatten)) l3 (.lst (List.replicate (Int.toNat 9) (x0 :: xr)).flatten)) l4 (.lst (cutV (List.replicate (Int.toNat 9) (x0 :: xr)).flatten none (some 9)))) l2 = some (.lst (List.replicate (Int.toNat 9) (x0 :: xr)).flatten) ∧ (L2.upd (L2.upd (L2.upd (L2.upd (L2.upd (L2.upd HE d1 (.dK [])) l1 (.lst [])) e1 (.tup [])) l2 (.lst (List.replicate (Int.toNat 9) (x0 :: xr)).flatten)) l3 (.lst (List.replicate (Int.toNat 9) (x0 :: xr)).flatten)) l4 (.lst (cutV (List.replicate (Int.toNat 9) (x0 :: xr)).flatten none (some 9)))) l4 = some (.lst (cutV (List.replicate (Int.toNat 9) (x0 :: xr)).flatten none (some 9))) ∧ d1 ≠ p ∧ l1 ≠ p ∧ e1 ≠ p ∧ l2 ≠ p ∧ l4 ≠ p :=
              ⟨by (repeat (first | exact Same.refl _ | assumption | refine Same.trans ?_ (Gx.sameU (by assumption)) | refine Same.trans ?_ (show Same _ _ by assumption))), by (repeat (first | exact upd_same | assumption | refine Gx.sameU (by assumption) _ _ ?_ | refine (show Same _ _ by assumption) _ _ ?_)), by (repeat (first | exact upd_same | assumption | refine Gx.sameU (by assumption) _ _ ?_ | refine (show Same _ _ by assumption) _ _ ?_)), by (repeat (first | exact upd_same | assumption | refine Gx.sameU (by assumption) _ _ ?_ | refine (show Same _ _ by assumption) _ _ ?_)), by (repeat (first | exact upd_same | assumption | refine Gx.sameU (by assumption) _ _ ?_ | refine (show Same _ _ by assumption) _ _ ?_)), by (repeat (first | exact upd_same | assumption | refine Gx.sameU (by assumption) _ _ ?_ | refine (show Same _ _ by assumption) _ _ ?_)), (hpE.same (by (repeat (first | exact Same.refl _ | assumption | refine Same.trans ?_ (Gx.sameU (by assumption)) | refine Same.trans ?_ (show Same _ _ by assumption))))).ne nd1, (hpE.same (by (repeat (first | exact Same.refl _ | assumption | refine Same.trans ?_ (Gx.sameU (by assumption)) | refine Same.trans ?_ (show Same _ _ by assumption))))).ne nl1, (hpE.same (by (repeat (first | exact Same.refl _ | assumption | refine Same.trans ?_ (Gx.sameU (by assumption)) | refine Same.trans ?_ (show Same _ _ by assumption))))).ne ne1, (hpE.same (by (repeat (first | exact Same.refl _ | assumption | refine Same.trans ?_ (Gx.sameU (by assumption)) | refine Same.trans ?_ (show Same _ _ by assumption))))).ne nl2, (hpE.same (by (repeat (first | exact Same.refl _ | assumption | refine Same.trans ?_ (Gx.sameU (by assumption)) | refine Same.trans ?_ (show Same _ _ by assumption))))).ne nl4⟩
            revert F nd2
            generalize (L2.upd (L2.upd (L2.upd (L2.upd (L2.upd (L2.upd HE d1 (.dK [])) l1 (.lst [])) e1 (.tup [])) l2 (.lst (List.replicate (Int.toNat 9) (x0 :: xr)).flatten)) l3 (.lst (List.replicate (Int.toNat 9) (x0 :: xr)).flatten)) l4 (.lst (cutV (List.replicate (Int.toNat 9) (x0 :: xr)).flatten none (some 9)))) = G0
            rintro nd2 ⟨sG, f1, f2, f3, f4, f5, n1, n2, n3, n4, n5⟩
            have sF := same_at (o := .dK [(.inl 0, x0)]) (Gx.sameU nd2 (o := .dK [])) nd2
            have hd2 := upd_same (H := L2.upd G0 d2 (.dK [])) (a := d2) (o := .dK [(.inl 0, x0)])
            have n6 := (hpE.same sG).ne nd2
            rw [show mergeK [] [((.inl 0 : Key), x0)] = [(.inl 0, x0)] from rfl]
            revert hd2 sF
            generalize L2.upd (L2.upd G0 d2 (.dK [])) d2 (.dK [(.inl 0, x0)]) = GF
            intro sF hd2
            refine ⟨by show 11 ≤ sizeLine; decide, fun o no => ?_⟩
            have sO := (sG.trans sF).trans (Gx.sameU no (o := .lst [.non, .int 5, .bl true, .str "row", .ref d1, .ref l1, .ref e1, x0, .ref l2, .ref l4, .ref d2]))
            have sFO := sF.trans (Gx.sameU no (o := .lst [.non, .int 5, .bl true, .str "row", .ref d1, .ref l1, .ref e1, x0, .ref l2, .ref l4, .ref d2]))
            refine ⟨_, rfl, _, rfl, _, rfl, p, _, rfl, hpE.same sO, .inl ⟨o, _, rfl, (hpE.same (sG.trans sF)).ne no, upd_same, by show 0 < 11; decide, by show 11 ≤ 1000; decide, fun x HF hx hpF kF => ?_⟩⟩
            have kFF := kEE.trans ((Gx.Kp.of sO).trans kF)
            refine ⟨_, rfl, p, _, _, rfl, hpF, Thing.kp ?_ kF, (((hlane.kp k7).kp kE7).kp (Gx.Kp.of sO)).kp kF, fun HG hpG kG => qq HG hpG (kFF.trans kG)⟩
            have dlO := dlE.kp (Gx.Kp.of sO)
            have r9 := dl_rep dlO 9
            have g9 := rep_good (n := 9) good
            have l9 : (List.replicate 9 (d0 :: dr)).flatten.length ≤ 100 := by
              rw [PyProof.Rows.lm_len_rep_flat]
              omega
            simp only [List.mem_cons, List.not_mem_nil, or_false] at hx
            rcases hx with rfl | rfl | rfl | rfl | rfl | rfl | rfl | rfl | rfl | rfl | rfl
            · exact flat_thing (e := p) (n := 0) (k := 0) sm_non (by decide) (by decide) fun _ z => by cases z
            · exact flat_thing (e := p) (n := 11 + 0) (k := 0) (sm_int (by decide)) (by decide) (by decide) fun _ z => by cases z
            · exact flat_thing (e := p) (n := 0) (k := 0) sm_bl (by decide) (by decide) fun _ z => by cases z
            · exact flat_thing (e := p) (n := 11 + 0) (k := 0) (sm_str (by decide +kernel)) (by decide) (by decide) fun _ z => by cases z
            · exact ⟨_, .nil n1 (sFO _ _ f1), ⟨by decide, by decide, by decide, by decide⟩, fun es e => by cases e⟩
            · exact lits_thing n2 (sFO _ _ f2) .nil (fun _ h => by cases h) (by simp)
            · exact ⟨_, .tup n3 (sFO _ _ f3) .nil, ⟨by decide, by decide, by decide, by decide⟩, fun es e => by cases e; exact fun _ h => by cases h⟩
            · cases dlO with
              | cons t _ => exact lit_thing t (good d0 (by simp))
            · exact lits_thing n4 (sFO _ _ f4) r9 g9 l9
            · refine lits_thing n5 (sFO _ _ f5) (ds := (List.replicate 9 (d0 :: dr)).flatten.take 9) ?_ (fun d hd => g9 d (List.mem_of_mem_take hd)) (Nat.le_trans (by rw [List.length_take]; omega) (show 9 ≤ 100 by decide))
              rw [show (some 9 : Option Int) = some ((9 : Nat) : Int) from rfl, cut_to]
              exact r9.take 9
            · cases dlO with
              | cons t _ => exact one_thing n6 ((Gx.sameU no) _ _ hd2) t (good d0 (by simp))
            | [], [], _ => simp at xl
end
end My
namespace My
open PySem PySem.Spec PyProof.Rows L2
section
variable {P : Program} {w : World} {K : PySem.W.Frag} {mg : Str → Option Value} {base : Heap}
def spLaw (K : PySem.W.Frag) : Sp := fun vs H Q _ => ∃ (a : Addr) (ns : List Int), vs = [.ref a] ∧ SqL K H a (ns.map V.int) ∧ ns.length ≤ 63 ∧ ∀ H', Q (.bl true) H'
theorem p_law (T : Mo K mg) (hsys : Gx.SysD base) : Gx.PrG P w K mg base CX0 12 "law" s_law ["_law_script"] (spLaw K) := by
  refine T.d_law.okG sc_law (fun vs H Q E h => ?_) (fun f cdv A outer s H vs Q E hgd hr h => ?_)
  · obtain ⟨a, ns, rfl, _⟩ := h
    rfl
  · obtain ⟨a, ns, rfl, hS, hl, q⟩ := h
    have hu64 := hr.units
    have p__law_cell_right := fun T' : Mo K mg => p__law_cell_right (P := P) (w := w) T' hsys
    refine ⟨_, (pss_cons (ps_for PassesOwn.never rfl (pi_range1 (by rfl) T.b_range (pa_cons (pe_callB (call_max2 rfl) (by rfl) T.b_max (by decide +kernel) (pa_cons pe_int (pa_cons (pe_callB (call_min2 rfl) (by rfl) T.b_min (by decide +kernel) (pa_cons pe_int (pa_cons (pe_callB call_len_seq (by rfl) T.b_len (by decide +kernel) (pa_cons (pv 0) pa_nil)) pa_nil))) pa_nil))) pa_nil)) (pg_name (i := 1) sc_law.nd rfl (Or.inl rfl)) (pss_one (ps_if (pt_not (pt_val (Gx.pe_posG hgd (p__law_cell_right T) hr (by decide) (by rfl) b__law_cell_right pass0 (pa_cons (Gx.pe_pos (p__law_pot T) hr (by decide) (by rfl) b__law_pot pass0 (pa_cons (pv 0) (pa_cons (pv 1) pa_nil))) pa_nil)))) (pss_one (ps_ret pe_bl)) pss_nil)))
      (pss_one (ps_ret (pe_cmpR (op_eqD hu64) (pe_lst (pa_cons (Gx.pe_cint T.k_Query_MAX_LITERALS rfl) (pa_cons (Gx.pe_cint T.k_Query_MAX_VARIABLES rfl) (pa_cons (Gx.pe_cint T.k_Query_MAX_INTEGER rfl) pa_nil)))) (pe_lst (pa_cons pe_int (pa_cons pe_int (pa_cons pe_int pa_nil)))) (nomark _))))), ?_⟩
    have top : ∃ m : Nat, m ≤ 8 ∧ (if (if (8 : Int) > ((ns.map V.int).length : Int) then ((ns.map V.int).length : Int) else (8 : Int)) > 1 then (if (8 : Int) > ((ns.map V.int).length : Int) then ((ns.map V.int).length : Int) else (8 : Int)) else 1) = (m : Int) := by
      rw [List.length_map]
      refine ⟨(if (if (8 : Int) > (ns.length : Int) then (ns.length : Int) else (8 : Int)) > 1 then (if (8 : Int) > (ns.length : Int) then (ns.length : Int) else (8 : Int)) else 1).toNat, ?_, ?_⟩ <;> split <;> split <;> omega
    obtain ⟨m, hm, em⟩ := top
    refine ⟨_, rfl, a, _, rfl, .inl hS, _, _, rfl, _, _, rfl, (m : Int), by rw [← em], by omega, by omega, ?_⟩
    rw [Int.toNat_natCast]
    refine for_range (lo := 0) (n := m) (fun i σ H' => Same H H' ∧ ∃ t1, σ = [some (.ref a), t1]) ⟨Same.refl H, _, rfl⟩ (fun i σ H1 hi h => ?_) fun σ H1 h => ?_
    · obtain ⟨s1, t1, rfl⟩ := h
      refine ⟨_, rfl, _, rfl, a, ns, i, by rw [Int.zero_add]; rfl, s1.seq hS, by omega, fun p H2 np hp s2 => ?_⟩
      refine ⟨p, rfl, hp, fun H3 hp3 k3 => ⟨_, rfl, iteF ⟨fun b o e => ?_, _, rfl⟩⟩⟩
      exact k3 b o (fun z => by
        have := s1 b o e
        rw [z, np] at this
        cases this) (s2 _ _ (s1 b o e))
    · obtain ⟨s1, t1, rfl⟩ := h
      refine ⟨by show 3 ≤ sizeLine; decide, fun e1 n1 => ⟨by show 3 ≤ sizeLine; decide, fun e2 n2 => ?_⟩⟩
      refine ⟨.list [.int 8, .int 5, .int 1023], .list [.int 8, .int 5, .int 1023], .lst (SqL.of ((Gx.sameU n2) _ _ upd_same)) (.cons (.int _) (.cons (.int _) (.cons (.int _) .nil))), .lst (SqL.of upd_same) (.cons (.int _) (.cons (.int _) (.cons (.int _) .nil))), by decide +kernel, by decide +kernel, ?_⟩
      exact q _
end
end My
namespace My
open PySem PySem.Spec PyProof.Rows L2
def hfa : List He.Fa := ([.glo "is_int", .glo "is_place", .glo "is_list", .glo "is_name", .glo "is_term", .glo "are_terms", .glo "is_literal", .glo "terms_of", .glo "variables_of", .glo "is_order_of", .glo "problem_with", .glo "_law_pot", .glo "_law_take", .glo "_law_pick", .glo "_law_word", .glo "_law_mixed", .glo "_law_term", .glo "_law_literal", .glo "_law_odd_row", .glo "_law_odd_comparison", .glo "_law_odd", .glo "_law_is_title", .glo "_law_is_term", .glo "_law_is_literal", .glo "_law_first_order", .glo "_law_problem", .glo "_law_some_order", .glo "_law_told", .glo "_law_stays", .glo "_law_right"] : List He.Fa) ++ ([.glo "_law_cell_right", .glo "law", .free "ValueError", .free "abs", .free "all", .free "bool", .free "enumerate", .free "int", .free "isinstance", .free "len", .free "list", .free "max", .free "min", .free "range", .free "repr", .free "sorted", .free "str", .free "tuple", .str "LETTERS" "abcdefghijklmnopqrstuvwxyz", .int "MAX_NAME" (8), .int "MAX_TERMS" (4), .glo "RESERVED_WORDS", .glo "ROW_KINDS", .glo "SIGNS", .glo "Query", .cls "Query", .mkr "Query", .meth "Query" "literals", .meth "Query" "__len__", .noat "Query" "_literals"] : List He.Fa) ++ ([.noat "Query" "_variables", .glo "CoverError", .glo "InvalidQuery", .glo "InvalidText", .meth "InvalidQuery" "__init__"] : List He.Fa)
def hfn : List He5.DefA := ([Gx.defN "is_int" s_is_int [], Gx.defN "is_place" s_is_place [], Gx.defN "is_list" s_is_list [], Gx.defN "is_name" s_is_name [], Gx.defN "is_term" s_is_term [], Gx.defN "are_terms" s_are_terms [], Gx.defN "is_literal" s_is_literal [], Gx.defN "terms_of" s_terms_of [], Gx.defN "variables_of" s_variables_of [], Gx.defN "is_order_of" s_is_order_of [], Gx.defN "problem_with" s_problem_with [], Gx.defN "_law_pot" s__law_pot [], Gx.defN "_law_take" s__law_take [], Gx.defN "_law_pick" s__law_pick [], Gx.defN "_law_word" s__law_word [], Gx.defN "_law_mixed" s__law_mixed [], Gx.defN "_law_term" s__law_term [], Gx.defN "_law_literal" s__law_literal [], Gx.defN "_law_odd_row" s__law_odd_row [], Gx.defN "_law_odd_comparison" s__law_odd_comparison [], Gx.defN "_law_odd" s__law_odd [], Gx.defN "_law_is_title" s__law_is_title [], Gx.defN "_law_is_term" s__law_is_term [], Gx.defN "_law_is_literal" s__law_is_literal [], Gx.defN "_law_first_order" s__law_first_order [], Gx.defN "_law_problem" s__law_problem [], Gx.defN "_law_some_order" s__law_some_order [], Gx.defN "_law_told" s__law_told [], Gx.defN "_law_stays" s__law_stays [], Gx.defN "_law_right" s__law_right []] : List He5.DefA) ++ ([Gx.defN "_law_cell_right" s__law_cell_right [], Gx.defN "law" s_law [], Gx.metN "Query" "__init__" "Query.__init__" s_Query___init__ [.non], Gx.getN "Query" "variables" "Query.variables" s_Query_variables, Gx.metN "Query" "literals" "Query.literals" s_Query_literals [], Gx.metN "Query" "__len__" "Query.__len__" s_Query___len__ [], Gx.metN "InvalidQuery" "__init__" "InvalidQuery.__init__" i_InvalidQuery []] : List He5.DefA)
def hexs (K : PySem.W.Frag) : List Bool := ([He.tupB K "RESERVED_WORDS" [.str "not", .str "by"], He.tupB K "ROW_KINDS" [.str "row", .str "none"], He.tupB K "SIGNS" [.str "<", .str "<=", .str "=", .str "!="], Gx.prpB K "Query" "variables", Gx.cvalB K "Query" "MAX_INTEGER" (1023), Gx.cvalB K "Query" "MAX_LITERALS" (8), Gx.cvalB K "Query" "MAX_VARIABLES" (5), Gx.clsB K (He.ga K "CoverError"), Gx.clsB K (He.ga K "InvalidQuery"), Gx.clsB K (He.ga K "InvalidText"), Gx.ecQ K Gx.fV (He.ga K "InvalidQuery") Gx.tlV "ValueError.__new__", Gx.subB K (He.ga K "InvalidQuery") (He.ga K "InvalidQuery") true, Gx.subB K (He.ga K "InvalidQuery") (He.ga K "CoverError") true, Gx.subB K (He.ga K "InvalidQuery") (He.ga K "InvalidText") false, decide (PySem.W.subIn K (.ref (He.ga K "InvalidQuery")) (.type "ValueError") = some true)] : List Bool)
section
variable {K : PySem.W.Frag} {h : Heap} {mg : Str → Option Value}
theorem mo_of (X : K.In h) (G : h.Ns mainGlobals mg) (c : He5.SaysA hfa hfn K) (e : (hexs K).all id = true) : Mo K mg := ⟨Gx.defAt_n X G (c.fact 0 rfl) (c.def_ 0 (d := Gx.defN "is_int" s_is_int []) rfl),
    Gx.defAt_n X G (c.fact 1 rfl) (c.def_ 1 (d := Gx.defN "is_place" s_is_place []) rfl),
    Gx.defAt_n X G (c.fact 2 rfl) (c.def_ 2 (d := Gx.defN "is_list" s_is_list []) rfl),
    Gx.defAt_n X G (c.fact 3 rfl) (c.def_ 3 (d := Gx.defN "is_name" s_is_name []) rfl),
    Gx.defAt_n X G (c.fact 4 rfl) (c.def_ 4 (d := Gx.defN "is_term" s_is_term []) rfl),
    Gx.defAt_n X G (c.fact 5 rfl) (c.def_ 5 (d := Gx.defN "are_terms" s_are_terms []) rfl),
    Gx.defAt_n X G (c.fact 6 rfl) (c.def_ 6 (d := Gx.defN "is_literal" s_is_literal []) rfl),
    Gx.defAt_n X G (c.fact 7 rfl) (c.def_ 7 (d := Gx.defN "terms_of" s_terms_of []) rfl),
    Gx.defAt_n X G (c.fact 8 rfl) (c.def_ 8 (d := Gx.defN "variables_of" s_variables_of []) rfl),
    Gx.defAt_n X G (c.fact 9 rfl) (c.def_ 9 (d := Gx.defN "is_order_of" s_is_order_of []) rfl),
    Gx.defAt_n X G (c.fact 10 rfl) (c.def_ 10 (d := Gx.defN "problem_with" s_problem_with []) rfl),
    Gx.defAt_n X G (c.fact 11 rfl) (c.def_ 11 (d := Gx.defN "_law_pot" s__law_pot []) rfl),
    Gx.defAt_n X G (c.fact 12 rfl) (c.def_ 12 (d := Gx.defN "_law_take" s__law_take []) rfl),
    Gx.defAt_n X G (c.fact 13 rfl) (c.def_ 13 (d := Gx.defN "_law_pick" s__law_pick []) rfl),
    Gx.defAt_n X G (c.fact 14 rfl) (c.def_ 14 (d := Gx.defN "_law_word" s__law_word []) rfl),
    Gx.defAt_n X G (c.fact 15 rfl) (c.def_ 15 (d := Gx.defN "_law_mixed" s__law_mixed []) rfl),
    Gx.defAt_n X G (c.fact 16 rfl) (c.def_ 16 (d := Gx.defN "_law_term" s__law_term []) rfl),
    Gx.defAt_n X G (c.fact 17 rfl) (c.def_ 17 (d := Gx.defN "_law_literal" s__law_literal []) rfl),
    Gx.defAt_n X G (c.fact 18 rfl) (c.def_ 18 (d := Gx.defN "_law_odd_row" s__law_odd_row []) rfl),
    Gx.defAt_n X G (c.fact 19 rfl) (c.def_ 19 (d := Gx.defN "_law_odd_comparison" s__law_odd_comparison []) rfl),
    Gx.defAt_n X G (c.fact 20 rfl) (c.def_ 20 (d := Gx.defN "_law_odd" s__law_odd []) rfl),
    Gx.defAt_n X G (c.fact 21 rfl) (c.def_ 21 (d := Gx.defN "_law_is_title" s__law_is_title []) rfl),
    Gx.defAt_n X G (c.fact 22 rfl) (c.def_ 22 (d := Gx.defN "_law_is_term" s__law_is_term []) rfl),
    Gx.defAt_n X G (c.fact 23 rfl) (c.def_ 23 (d := Gx.defN "_law_is_literal" s__law_is_literal []) rfl),
    Gx.defAt_n X G (c.fact 24 rfl) (c.def_ 24 (d := Gx.defN "_law_first_order" s__law_first_order []) rfl),
    Gx.defAt_n X G (c.fact 25 rfl) (c.def_ 25 (d := Gx.defN "_law_problem" s__law_problem []) rfl),
    Gx.defAt_n X G (c.fact 26 rfl) (c.def_ 26 (d := Gx.defN "_law_some_order" s__law_some_order []) rfl),
    Gx.defAt_n X G (c.fact 27 rfl) (c.def_ 27 (d := Gx.defN "_law_told" s__law_told []) rfl),
    Gx.defAt_n X G (c.fact 28 rfl) (c.def_ 28 (d := Gx.defN "_law_stays" s__law_stays []) rfl),
    Gx.defAt_n X G (c.fact 29 rfl) (c.def_ 29 (d := Gx.defN "_law_right" s__law_right []) rfl),
    Gx.defAt_n X G (c.fact 30 rfl) (c.def_ 30 (d := Gx.defN "_law_cell_right" s__law_cell_right []) rfl),
    Gx.defAt_n X G (c.fact 31 rfl) (c.def_ 31 (d := Gx.defN "law" s_law []) rfl),
    He.free_ok X G (c.fact 32 rfl),
    He.free_ok X G (c.fact 33 rfl),
    He.free_ok X G (c.fact 34 rfl),
    He.free_ok X G (c.fact 35 rfl),
    He.free_ok X G (c.fact 36 rfl),
    He.free_ok X G (c.fact 37 rfl),
    He.free_ok X G (c.fact 38 rfl),
    He.free_ok X G (c.fact 39 rfl),
    He.free_ok X G (c.fact 40 rfl),
    He.free_ok X G (c.fact 41 rfl),
    He.free_ok X G (c.fact 42 rfl),
    He.free_ok X G (c.fact 43 rfl),
    He.free_ok X G (c.fact 44 rfl),
    He.free_ok X G (c.fact 45 rfl),
    He.free_ok X G (c.fact 46 rfl),
    He.free_ok X G (c.fact 47 rfl),
    Gx.known_str X G (c.fact 48 rfl),
    Gx.known_int X G (c.fact 49 rfl),
    Gx.known_int X G (c.fact 50 rfl),
    (show Gx.TupAt K mg "RESERVED_WORDS" [.str "not", .str "by"] from Gx.TupAt.of (vs := [.str "not", .str "by"]) X G (c.fact 51 rfl) (Gx.all_at e 0 rfl)),
    (show Gx.TupAt K mg "ROW_KINDS" [.str "row", .str "none"] from Gx.TupAt.of (vs := [.str "row", .str "none"]) X G (c.fact 52 rfl) (Gx.all_at e 1 rfl)),
    (show Gx.TupAt K mg "SIGNS" [.str "<", .str "<=", .str "=", .str "!="] from Gx.TupAt.of (vs := [.str "<", .str "<=", .str "=", .str "!="]) X G (c.fact 53 rfl) (Gx.all_at e 2 rfl)),
    Gx.metAt_n (dvs := [.non]) X G (c.fact 54 rfl) (c.fact 55 rfl) (c.def_ 32 (d := Gx.metN "Query" "__init__" "Query.__init__" s_Query___init__ [.non]) rfl),
    (by rw [Gx.cl_ga X G (c.fact 54 rfl)]; exact He.mkr_ok (c.fact 56 rfl)),
    Gx.getAt_n X G (c.fact 54 rfl) (c.fact 55 rfl) (Gx.all_at e 3 rfl) (c.def_ 33 (d := Gx.getN "Query" "variables" "Query.variables" s_Query_variables) rfl),
    Gx.metAt_n (dvs := []) X G (c.fact 54 rfl) (c.fact 55 rfl) (c.def_ 34 (d := Gx.metN "Query" "literals" "Query.literals" s_Query_literals []) rfl),
    (by rw [Gx.cl_ga X G (c.fact 54 rfl)]; exact He.meth_ok (c.fact 57 rfl)),
    Gx.metAt_n (dvs := []) X G (c.fact 54 rfl) (c.fact 55 rfl) (c.def_ 35 (d := Gx.metN "Query" "__len__" "Query.__len__" s_Query___len__ []) rfl),
    (by rw [Gx.cl_ga X G (c.fact 54 rfl)]; exact He.meth_ok (c.fact 58 rfl)),
    (by rw [Gx.cl_ga X G (c.fact 54 rfl)]; exact He.noat_ok (c.fact 59 rfl)),
    (by rw [Gx.cl_ga X G (c.fact 54 rfl)]; exact He.noat_ok (c.fact 60 rfl)),
    Gx.cvalB_ok X G (c.fact 54 rfl) (Gx.all_at e 4 rfl),
    Gx.cvalB_ok X G (c.fact 54 rfl) (Gx.all_at e 5 rfl),
    Gx.cvalB_ok X G (c.fact 54 rfl) (Gx.all_at e 6 rfl),
    Gx.clsAt_b X G (c.fact 61 rfl) (Gx.all_at e 7 rfl),
    Gx.clsAt_b X G (c.fact 62 rfl) (Gx.all_at e 8 rfl),
    Gx.clsAt_b X G (c.fact 63 rfl) (Gx.all_at e 9 rfl),
    Gx.errAt_q X G (c.fact 62 rfl) Gx.etV (Gx.all_at e 10 rfl) (c.fact 64 rfl) (c.def_ 36 (d := Gx.metN "InvalidQuery" "__init__" "InvalidQuery.__init__" i_InvalidQuery []) rfl),
    (by rw [Gx.cl_ga X G (c.fact 62 rfl)]; exact (Gx.ecQ_of Gx.etV (Gx.all_at e 10 rfl)).2 _ (by decide)),
    (by rw [Gx.cl_ga X G (c.fact 62 rfl)]; exact (Gx.ecQ_of Gx.etV (Gx.all_at e 10 rfl)).2 _ (by decide)),
    Gx.subAt_b X G (c.fact 62 rfl) (c.fact 62 rfl) (Gx.all_at e 11 rfl),
    Gx.subAt_b X G (c.fact 62 rfl) (c.fact 61 rfl) (Gx.all_at e 12 rfl),
    Gx.subAt_b X G (c.fact 62 rfl) (c.fact 63 rfl) (Gx.all_at e 13 rfl),
    (by rw [Gx.cl_ga X G (c.fact 62 rfl)]; exact (of_decide_eq_true (Gx.all_at e 14 rfl)))⟩
end
def hob (s : PySem.W.SharedT) : Gx.AlM := Gx.obsN 5 hfa hfn (fun K => (hexs K).all id) (HandSHeadRun.getT s)
theorem hob_eq (s : PySem.W.SharedT) : hob s = (Gx.hookN 5 hfa hfn (fun K => (hexs K).all id)).obs s.abs := Gx.obsN_eq (HandSHeadRun.getT_eq s)
def hloose : List Str := (["CoverError", "InvalidQuery", "InvalidText", "Query", "_wall", "is_int", "is_place", "is_list", "is_name", "is_term", "are_terms", "is_literal", "terms_of", "variables_of", "is_order_of", "problem_with", "text_of", "text_of_query", "read_literal", "read_row", "read_term", "_law_pot", "_law_take", "_law_pick", "_law_word", "_law_mixed", "_law_term", "_law_literal", "_law_odd_row", "_law_odd_comparison"] : List Str) ++ (["_law_odd", "_law_is_title", "_law_is_term", "_law_is_literal", "_law_first_order", "_law_problem", "_law_some_order", "_law_told", "_law_stays", "_law_right", "_law_cell_right", "MAX_NAME", "LETTERS", "RESERVED_WORDS", "ROW_KINDS", "SIGNS", "MAX_TERMS", "MAX_DIGITS", "BEFORE_ORDER", "BEFORE_DENIED"] : List Str)
abbrev hrow := PySem.W.OpenLaw.row PySem.Challenge.rw_coverstore_k31_queries_judged
abbrev hview := PySem.W.view hrow.prog [54]
open PySem.W PySem.Calls in
theorem hr1 (w : World) (os : OsState) : (HandSHeadRun.endF (HandSHeadRun.stepQ (HandSHeadRun.denQ HandSHeadRun.tabQ) hrow.prog w) 8000 hrow.prog w os).map (fun s => (HandSHeadRun.looksF hrow.prog (boot_heap w.params) s.abs, HandSHeadRun.seenQ hview hloose (importedModules hrow.prog.main.body) (fun s => PySem.W.xlAt hview [] s && PySem.W.recOk hrow.toRowW.records s) s.abs)) = some (true, PySem.W.openGood hview hloose) := by
  kernel_rfl
theorem hr2 (w : World) (os : OsState) : (HandSHeadRun.endF (HandSHeadRun.stepQ (HandSHeadRun.denQ HandSHeadRun.tabQ) hrow.prog w) 8000 hrow.prog w os).map (fun s => He5.obsA hfa hfn (He.frG (HandSHeadRun.getT s) (Gx.asN (HandSHeadRun.getT s) 5))) = some (He5.valA hfn) := by
  kernel_rfl
theorem hr3 (w : World) (os : OsState) : (HandSHeadRun.endF (HandSHeadRun.stepQ (HandSHeadRun.denQ HandSHeadRun.tabQ) hrow.prog w) 8000 hrow.prog w os).map (fun s => ((hexs (He.frG (HandSHeadRun.getT s) (Gx.asN (HandSHeadRun.getT s) 5))).all id, Gx.sysB (HandSHeadRun.getT s))) = some (true, true) := by
  kernel_rfl
theorem hrun (w : World) : HandSHeadRun.RunEq hrow hview (Gx.hookN 5 hfa hfn (fun K => (hexs K).all id)) hob 8000 hloose w := Gx.run_threeN (fun s => rfl) (hr1 w) (hr2 w) (hr3 w)
end My
open PySem PySem.W PySem.Calls PyProof.Rows
set_option maxRecDepth 100000 in
set_option maxHeartbeats 0 in
theorem PySem.Challenge.cw_coverstore_k31_queries_judged_holds : PySem.Challenge.rw_coverstore_k31_queries_judged.Holds := by
  w_on; o_law
  refine HandSHeadRun.head_any (r := OpenLaw.row PySem.Challenge.rw_coverstore_k31_queries_judged) (q := view (OpenLaw.row PySem.Challenge.rw_coverstore_k31_queries_judged).prog [54]) (H := Gx.hookN 5 My.hfa My.hfn (fun K => (My.hexs K).all id)) (ob := My.hob) (M := 8000) (loose := My.hloose) (d := HandSHeadRun.topDef (OpenLaw.row PySem.Challenge.rw_coverstore_k31_queries_judged).prog 54) (kwd := []) My.hob_eq
    (by kernel_rfl) (fun s => by kernel_rfl) My.hrun (by kernel_rfl) (by kernel_rfl) (by kernel_rfl) (by rfl) (by first | assumption | decide +kernel) (by decide +kernel) ⟨rfl, rfl, rfl, rfl, rfl, by decide +kernel⟩ ?hw ?hc
  case hw => w_witness2
  case hc =>
    refine Gx.walkM (l := PySem.Challenge.rw_coverstore_k31_queries_judged) (n := 63) (k := 12) (sp := fun K => My.spLaw K) rfl (by decide) (by kernel_rfl) ⟨rfl, by decide, by decide⟩ (by kernel_rfl) My.b_law ?F (fun K H a ns hl hS => ⟨a, ns, rfl, hS, hl, fun _ => rfl⟩)
    intro w mg h Y G
    obtain ⟨K, KX, c, e, S⟩ := Y
    exact ⟨K, KX, S, fun base kb nb sb => My.p_law (My.mo_of KX G c e) sb⟩
